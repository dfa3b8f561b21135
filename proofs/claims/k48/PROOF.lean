import PyProof.Rows.All
import Wide.All
import OpenK.AllK
import Wide.FinOn
import Lean
import PyProof.EqAt
import PyProof.EqKinds
import PyProof.TupleCall
import PyProof.AttrMiss
import PyProof.ConsumeWalk
import KE.KDictOf
import OpenK.KOwn
import PyProof.NsDelKeeps
import KE.KIsAll
import PyProof.Rows.SumAny
import PyProof.NeKinds
import PyProof.SeqI3
import KE.KRevIter
import KE.KSortTup
import PyProof.DictIter
import KE.KDictList
import PyProof.TupleOfGen
import PySem.Challenge.RW_bitfloor_k48_signals
import KE.RegKIsAll
set_option Elab.async false
set_option linter.all false
set_option maxRecDepth 100000
namespace L2
open PySem PySem.Spec PyProof.Rows
abbrev Key := Sum Int Str
def keyIs : Key → Value → Bool
  | .inl k, v => Value.isInt k v
  | .inr x, v => Value.isStrOf x v
def keyH (w : World) : Key → Int
  | .inl k => hashInt k
  | .inr x => hashStr w x
theorem keyIs_shape : ∀ {k : Key} {v : Value}, keyIs k v = true → (∃ i t, k = Sum.inl i ∧ v = Value.int i t) ∨ (∃ x t, k = Sum.inr x ∧ v = Value.str x t)
  | .inl i, v, h => by
    obtain ⟨t, e⟩ := Value.isInt_shape (k := i) (v := v) h
    exact .inl ⟨i, t, rfl, e⟩
  | .inr x, v, h => by
    obtain ⟨t, e⟩ := Value.isStrOf_shape (x := x) (v := v) h
    exact .inr ⟨x, t, rfl, e⟩
theorem keyIs_int (i : Int) (t : Tok) : keyIs (.inl i) (.int i t) = true := by simp [keyIs, Value.isInt]
theorem keyIs_str (x : Str) (t : Tok) : keyIs (.inr x) (.str x t) = true := by simp [keyIs, Value.isStrOf]
theorem key_ll (a b : Int) : decide ((Sum.inl a : Key) = Sum.inl b) = (a == b) := by
  by_cases e : a = b
  · subst e; simp
  · have h : ¬ (Sum.inl a : Key) = Sum.inl b := fun q => e (Sum.inl.inj q)
    rw [decide_eq_false h]
    exact (beq_eq_false_iff_ne.mpr e).symm
theorem key_rr (a b : Str) : decide ((Sum.inr a : Key) = Sum.inr b) = decide (a = b) := by
  by_cases e : a = b
  · subst e; simp
  · have h : ¬ (Sum.inr a : Key) = Sum.inr b := fun q => e (Sum.inr.inj q)
    rw [decide_eq_false h, decide_eq_false e]
theorem key_lr (a : Int) (b : Str) : decide ((Sum.inl a : Key) = Sum.inr b) = false := decide_eq_false (fun q => nomatch q)
theorem key_rl (a : Str) (b : Int) : decide ((Sum.inr a : Key) = Sum.inl b) = false := decide_eq_false (fun q => nomatch q)
def mixKind (prog : Program) (w : World) : PySem.KeyKind prog w Key where
  is := keyIs
  hash := keyH w
  inj := fun v a b ha hb => by
    rcases keyIs_shape ha with ⟨i, t, rfl, rfl⟩ | ⟨x, t, rfl, rfl⟩
    · rcases keyIs_shape hb with ⟨j, u, rfl, e⟩ | ⟨y, u, rfl, e⟩
      · injection e with e1 _; rw [e1]
      · exact nomatch e
    · rcases keyIs_shape hb with ⟨j, u, rfl, e⟩ | ⟨y, u, rfl, e⟩
      · exact nomatch e
      · injection e with e1 _; rw [e1]
  byValue := fun k v h => by
    rcases keyIs_shape h with ⟨i, t, rfl, rfl⟩ | ⟨x, t, rfl, rfl⟩ <;> rfl
  pyHash := fun hv h => by
    rcases keyIs_shape hv with ⟨i, t, rfl, rfl⟩ | ⟨x, t, rfl, rfl⟩
    · exact wpAny_pyHash_int h
    · exact wpAny_pyHash_str h
  eqBool := fun hu hv h => by
    rcases keyIs_shape hu with ⟨i, t, rfl, rfl⟩ | ⟨x, t, rfl, rfl⟩
    · rcases keyIs_shape hv with ⟨j, u, rfl, rfl⟩ | ⟨y, u, rfl, rfl⟩
      · rw [key_ll] at h; exact wpAny_eqBool_int h
      · rw [key_lr] at h; exact SeqAt.EqAt.int_str i t y u _ _ _ _ h
    · rcases keyIs_shape hv with ⟨j, u, rfl, rfl⟩ | ⟨y, u, rfl, rfl⟩
      · rw [key_rl] at h; exact SeqAt.EqAt.str_int x t j u _ _ _ _ h
      · rw [key_rr] at h; exact wpAny_eqBool_str h
  «strs» := fun k x t v h => by
    rcases keyIs_shape h with ⟨i, u, rfl, e⟩ | ⟨y, u, rfl, e⟩
    · exact nomatch e
    · injection e with e1 _
      subst e1
      cases v <;> rfl
theorem mixKind_int (prog : Program) (w : World) (i : Int) (t : Tok) : (mixKind prog w).is (.inl i) (.int i t) = true := keyIs_int i t
theorem mixKind_str (prog : Program) (w : World) (x : Str) (t : Tok) : (mixKind prog w).is (.inr x) (.str x t) = true := keyIs_str x t
end L2
namespace L2
open PySem PySem.Spec PyProof.Rows
inductive V where
  | non | bl (b : Bool) | int (i : Int) | str (x : Str) | byt (b : Array UInt8) | flt (b : UInt64) | ref (a : Addr) | ty (n : String)
  deriving DecidableEq
def RelV : V → Value → Prop
  | .non, u => u = Value.none
  | .bl b, u => u = Value.bool b
  | .int i, u => ∃ t, u = Value.int i t
  | .str x, u => ∃ t, u = Value.str x t
  | .byt b, u => ∃ t, u = Value.bytes b t
  | .flt b, u => ∃ t, u = Value.float b t
  | .ref a, u => u = Value.ref a
  | .ty n, u => u = Value.type n
abbrev Vals : List V → List Value → Prop := Paired RelV
theorem Vals.length {xs : List V} {us : List Value} (r : Vals xs us) : xs.length = us.length := Paired.length r
theorem Vals.get : ∀ {xs : List V} {us : List Value} {i : Nat} {x : V}, Vals xs us → xs[i]? = some x → ∃ u, us[i]? = some u ∧ RelV x u
  | _, _, _, _, .nil, e => by simp at e
  | _, _, 0, _, .cons r _, e => by simp at e; subst e; exact ⟨_, rfl, r⟩
  | _, _, i + 1, x, .cons _ t, e => by
    obtain ⟨u, h1, h2⟩ := Vals.get (i := i) (x := x) t (by simpa using e)
    exact ⟨u, by simpa using h1, h2⟩
theorem Vals.set {x : V} {u : Value} (r : RelV x u) : ∀ {xs : List V} {us : List Value} (i : Nat), Vals xs us → Vals (xs.set i x) (us.set i u)
  | _, _, _, .nil => .nil
  | _, _, 0, .cons _ t => .cons r t
  | _, _, i + 1, .cons q t => .cons q (Vals.set r i t)
theorem Vals.append : ∀ {xs ys : List V} {us ws : List Value}, Vals xs us → Vals ys ws → Vals (xs ++ ys) (us ++ ws)
  | _, _, _, _, .nil, s => s
  | _, _, _, _, .cons r t, s => .cons r (Vals.append t s)
theorem Vals.take : ∀ {xs : List V} {us : List Value} (n : Nat), Vals xs us → Vals (xs.take n) (us.take n)
  | _, _, 0, _ => .nil
  | _, _, _ + 1, .nil => .nil
  | _, _, n + 1, .cons r t => .cons r (Vals.take n t)
theorem Vals.drop : ∀ {xs : List V} {us : List Value} (n : Nat), Vals xs us → Vals (xs.drop n) (us.drop n)
  | _, _, 0, r => r
  | _, _, _ + 1, .nil => .nil
  | _, _, n + 1, .cons _ t => Vals.drop n t
def RelO : Option V → Option Value → Prop
  | some v, some u => RelV v u
  | none, none => True
  | _, _ => False
def KV {κ : Type} : List (κ × V) → List (κ × Value) → Prop := Paired fun (p : κ × V) (q : κ × Value) => p.1 = q.1 ∧ RelV p.2 q.2
def kV : Key → V
  | .inl i => .int i
  | .inr x => .str x
inductive HO where
  | lst (xs : List V)
  | tup (xs : List V)
  | dK (kvs : List (Key × V)) | dT (kvs : List (List Key × V))
  | set (S : Int → Bool) (n : Nat)
  | ins (C dx : Addr) (fs : List (Str × V))
  | own (x : Addr)
  | xd (fs : List (Str × V))
  | met (f x : Addr)
  | rng (lo hi : Int)
  | frz (o : Obj) (u : HO)
  | tbl (ps : Array Value)
  | ext (φ : Heap → Prop)
abbrev Hp := Addr → Option HO
def upd (H : Hp) (a : Addr) (o : HO) : Hp := fun b => if b = a then some o else H b
theorem upd_same {H : Hp} {a : Addr} {o : HO} : upd H a o a = some o := by unfold upd; rw [if_pos rfl]
theorem upd_ne {H : Hp} {a b : Addr} {o : HO} (h : b ≠ a) : upd H a o b = H b := by unfold upd; rw [if_neg h]
theorem ne_of {H : Hp} {a b : Addr} {o u : HO} (h : H a = some o) (h' : H b = some u) (d : o ≠ u) : a ≠ b := by
  intro e; subst e; rw [h] at h'; exact d (Option.some.inj h')
theorem ne_of_none {H : Hp} {a b : Addr} {o : HO} (h : H a = some o) (h' : H b = none) : a ≠ b := by
  intro e; subst e; rw [h] at h'; cases h'
section
variable (P : Program) (w : World)
def ObjOk (H : Hp) (h : Heap) (a : Addr) : HO → Prop
  | .lst xs => xs.length ≤ sizeLine ∧ ∃ (its : List Value) (n : Nat), Vals xs its ∧ h.get? a = some { cls := .type "list", data := .seq its.toArray n }
  | .tup xs => xs.length ≤ sizeLine ∧ ∃ its : List Value, Vals xs its ∧ IsTup h a its.toArray
  | .dK kvs => kvs.length ≤ sizeLine ∧ (a == sysModules) = false ∧ ∃ vs, KV kvs vs ∧ h.DictOf (mixKind P w) a vs
  | .dT kvs => kvs.length ≤ sizeLine ∧ (a == sysModules) = false ∧ ∃ xs : List (List Key × Addr × Value),
      Paired (fun (p : List Key × V) (q : List Key × Addr × Value) => p.1 = q.1 ∧ H q.2.1 = some (.tup (p.1.map kV)) ∧ RelV p.2 q.2.2) kvs xs ∧
      ∃ o es ep, h.get? a = some o ∧ o.ExactDict ∧ o.data = .dict es ep ∧ es.toList = xs.map (entryOfKey (tupleKind (mixKind P w))) ∧ (xs.map (·.1)).Nodup
  | .set S n => h.SetOf (intKind P w) a S n
  | .ins C dx fs => H dx = some (.own a) ∧ fs.length ≤ 1000 ∧ dx ≠ a ∧ h.get? a = some (PySem.W.instObj C dx) ∧
      ∃ mA, h.Ns1 dx mA ∧ (∀ f, RelO (fs.lookup f) (mA f)) ∧ PySem.Within mA (fs.map (·.1))
  | .own _ => ∃ o, h.get? a = some o
  | .xd fs => ∃ mA, h.Ns1 a mA ∧ ∀ f, RelO (fs.lookup f) (mA f)
  | .rng lo hi => ∃ t u v, h.get? a = some { cls := .type "range", data := .fields #[.int lo t, .int hi u, .int 1 v] }
  | .frz o u => h.get? a = some o ∧ ObjOk H h a u
  | .tbl ps => h.get? a = some { cls := .none, data := .fields ps }
  | .met f x => h.get? a = some (PySem.W.methodObj (.ref f) (.ref x))
  | .ext φ => φ h ∧ (∃ o, h.get? a = some o) ∧ ∀ h1 h2 : Heap, φ h1 → (∀ o, h1.get? a = some o → h2.get? a = some o) → φ h2
def HOk (H : Hp) (h : Heap) : Prop := ∀ a o, H a = some o → ObjOk P w H h a o
end
section
variable {P : Program} {w : World} {H H' : Hp} {h h' : Heap} {a : Addr} {o : HO}
theorem ObjOk.lt (x : ObjOk P w H h a o) : a < h.objs.size := by
  cases o with
  | lst xs => obtain ⟨_, _, _, _, e⟩ := x; exact Heap.lt_size e
  | tup xs => obtain ⟨_, _, _, p⟩ := x; exact p.lt
  | dK kvs => obtain ⟨_, _, _, _, o, _, _, e, _⟩ := x; exact Heap.lt_size e
  | dT kvs => obtain ⟨_, _, _, _, o, _, _, e, _⟩ := x; exact Heap.lt_size e
  | set S n => obtain ⟨o, _, _, _, e, _⟩ := x; exact Heap.lt_size e
  | ins C dx fs => obtain ⟨_, _, _, e, _⟩ := x; exact Heap.lt_size e
  | own y => obtain ⟨_, e⟩ := x; exact Heap.lt_size e
  | xd fs => obtain ⟨_, ⟨_, _, _, e, _⟩, _⟩ := x; exact Heap.lt_size e
  | rng lo hi => obtain ⟨_, _, _, e⟩ := x; exact Heap.lt_size e
  | frz ob u => obtain ⟨e, _⟩ := x; exact Heap.lt_size e
  | tbl ps => exact Heap.lt_size (show h.get? a = some _ from x)
  | met f y => exact Heap.lt_size (show h.get? a = some _ from x)
  | ext φ => obtain ⟨_, ⟨_, e⟩, _⟩ := x; exact Heap.lt_size e
theorem Paired.mapP {α β : Type} {F G : α → β → Prop} : ∀ {l₁ : List α} {l₂ : List β}, Paired F l₁ l₂ → (∀ a b, F a b → G a b) → Paired G l₁ l₂
  | _, _, .nil, _ => .nil
  | _, _, .cons r t, f => .cons (f _ _ r) (Paired.mapP t f)
theorem ObjOk.stay (x : ObjOk P w H h a o) (k : ∀ b u, (b = a ∨ H b = some (.own a)) → h.get? b = some u → h'.get? b = some u)
    (ho : ∀ b, H b = some (.own a) → H' b = some (.own a)) (ht : ∀ b xs, H b = some (.tup xs) → H' b = some (.tup xs)) : ObjOk P w H' h' a o := by
  induction o with
  | lst xs => obtain ⟨z, its, n, r, e⟩ := x; exact ⟨z, its, n, r, k _ _ (.inl rfl) e⟩
  | tup xs => obtain ⟨z, its, r, ob, e, c⟩ := x; exact ⟨z, its, r, ob, k _ _ (.inl rfl) e, c⟩
  | dK kvs => obtain ⟨z, y, vs, r, ob, es, ep, e, c⟩ := x; exact ⟨z, y, vs, r, ob, es, ep, k _ _ (.inl rfl) e, c⟩
  | dT kvs =>
    obtain ⟨z, y, xs, r, ob, es, ep, e, c⟩ := x
    exact ⟨z, y, xs, Paired.mapP r fun p q z => ⟨z.1, ht _ _ z.2.1, z.2.2⟩, ob, es, ep, k _ _ (.inl rfl) e, c⟩
  | set S n => obtain ⟨ob, es, ep, t, e, c⟩ := x; exact ⟨ob, es, ep, t, k _ _ (.inl rfl) e, c⟩
  | ins C dx fs =>
    obtain ⟨d, z, ne, e, mA, ⟨od, es, ep, e2, c⟩, r⟩ := x
    exact ⟨ho _ d, z, ne, k _ _ (.inl rfl) e, mA, ⟨od, es, ep, k _ _ (.inr d) e2, c⟩, r⟩
  | own y => obtain ⟨ob, e⟩ := x; exact ⟨ob, k _ _ (.inl rfl) e⟩
  | xd fs => obtain ⟨mA, ⟨od, es, ep, e, c⟩, r⟩ := x; exact ⟨mA, ⟨od, es, ep, k _ _ (.inl rfl) e, c⟩, r⟩
  | rng lo hi => obtain ⟨t, u, v, e⟩ := x; exact ⟨t, u, v, k _ _ (.inl rfl) e⟩
  | frz ob u ih => obtain ⟨e, q⟩ := x; exact ⟨k _ _ (.inl rfl) e, ih q⟩
  | tbl ps =>
    have e : h.get? a = some { cls := .none, data := .fields ps } := x
    show h'.get? a = some { cls := .none, data := .fields ps }
    exact k a _ (.inl rfl) e
  | met f y =>
    have e : h.get? a = some (PySem.W.methodObj (.ref f) (.ref y)) := x
    show h'.get? a = some (PySem.W.methodObj (.ref f) (.ref y))
    exact k a _ (.inl rfl) e
  | ext φ => obtain ⟨p, ⟨o, e⟩, st⟩ := x; exact ⟨st _ _ p fun o q => k _ _ (.inl rfl) q, ⟨o, k _ _ (.inl rfl) e⟩, st⟩
theorem HOk.lt (x : HOk P w H h) (e : H a = some o) : a < h.objs.size := (x a o e).lt
theorem HOk.fresh (x : HOk P w H h) (e : h.objs.size ≤ a) : H a = none := by
  cases q : H a with
  | none => rfl
  | some u => exact absurd (Nat.lt_of_lt_of_le (x.lt q) e) (Nat.lt_irrefl _)
theorem HOk.kept (x : HOk P w H h) (k : ∀ b u, h.get? b = some u → h'.get? b = some u) : HOk P w H h' := fun a o e =>
  (x a o e).stay (fun b u _ q => k b u q) (fun _ q => q) fun _ _ q => q
theorem HOk.laid (x : HOk P w H h) (k : ∀ b u, h.get? b = some u → h'.get? b = some u) (hp : h.objs.size ≤ a) (new : ObjOk P w (upd H a o) h' a o) : HOk P w (upd H a o) h' := fun b u e => by
  have hn := x.fresh hp
  by_cases hb : b = a
  · subst hb; rw [upd_same] at e; cases e; exact new
  · rw [upd_ne hb] at e
    exact (x b u e).stay (fun c v _ q => k c v q) (fun c q => by rw [upd_ne (ne_of_none q hn)]; exact q) fun c xs q => by rw [upd_ne (ne_of_none q hn)]; exact q
end
def Rd (H : Hp) (a : Addr) (u : HO) : Prop := H a = some u ∨ ∃ o, H a = some (.frz o u)
theorem Rd.ok {P : Program} {w : World} {H : Hp} {h : Heap} {a : Addr} {u : HO} (r : Rd H a u) (x : HOk P w H h) : ObjOk P w H h a u := by
  rcases r with r | ⟨o, r⟩
  · exact x a u r
  · obtain ⟨_, q⟩ := x a _ r
    exact q
def Mut : Option HO → Prop
  | some (.lst _) => True
  | some (.dK _) => True
  | some (.dT _) => True
  | some (.set _ _) => True
  | some (.ins _ _ _) => True
  | some (.ext _) => True
  | _ => False
section
variable {P : Program} {w : World} {H : Hp} {h h' : Heap} {x e : Addr} {o' : HO}
theorem HOk.write (ok : HOk P w H h) (mu : Mut (H x)) (he : e = x ∨ H e = some (.own x)) (k : ∀ b u, b ≠ e → h.get? b = some u → h'.get? b = some u) (heo : ∃ u, h'.get? e = some u)
    (new : ObjOk P w (upd H x o') h' x o') : HOk P w (upd H x o') h' := fun b u q => by
  have nown : ∀ c y, H c = some (.own y) → c ≠ x := fun c y r z => by subst z; rw [r] at mu; exact mu
  have ntup : ∀ c xs, H c = some (.tup xs) → c ≠ x := fun c xs r z => by subst z; rw [r] at mu; exact mu
  by_cases hb : b = x
  · subst hb; rw [upd_same] at q; cases q; exact new
  · rw [upd_ne hb] at q
    by_cases hbe : b = e
    · have q' : H b = some (.own x) := by
        rcases he with z | z
        · exact absurd (hbe.trans z) hb
        · rw [hbe]; exact z
      rw [q] at q'; cases q'
      obtain ⟨v, hv⟩ := heo
      exact ⟨v, by rw [hbe]; exact hv⟩
    · refine (ok b u q).stay (fun c v hc r => k c v ?_ r) (fun c r => by rw [upd_ne (nown c b r)]; exact r) fun c xs r => by rw [upd_ne (ntup c xs r)]; exact r
      rcases hc with rfl | hc
      · exact hbe
      · rintro rfl
        rcases he with z | z
        · exact nown c b hc z
        · rw [hc] at z; cases z; exact hb rfl
end
structure Un (fs ex : List Addr) (H H' : Hp) (h h' : Heap) : Prop where
  keep : ∀ b o, h.get? b = some o → H b = none → b ∉ fs → b ∉ ex → h'.get? b = some o
  slot : ∀ b o, h.get? b = some o → H b = none → b ∈ fs → b ∉ ex → ∃ sl, h'.get? b = some { o with slots := sl }
  free : ∀ b o, h.get? b = some o → H b = none → b ∉ ex → H' b = none
  there : ∀ b o, h.get? b = some o → b ∉ ex → ∃ o', h'.get? b = some o'
  tups : ∀ b xs, H b = some (.tup xs) → H' b = some (.tup xs)
  frzs : ∀ b o u, H b = some (.frz o u) → H' b = some (.frz o u)
  tbls : ∀ b ps, H b = some (.tbl ps) → ∃ more, H' b = some (.tbl (ps ++ more))
section
variable {fs fs' ex ex' : List Addr} {H H1 H2 : Hp} {h h1 h2 h' : Heap} {a x e : Addr} {o : HO}
theorem Un.any (u : Un fs ex H H1 h h1) {b : Addr} {ob : Obj} (q : h.get? b = some ob) (n : H b = none) (hx : b ∉ ex) : ∃ sl, h1.get? b = some { ob with slots := sl } := by
  by_cases hb : b ∈ fs
  · exact u.slot b ob q n hb hx
  · exact ⟨ob.slots, u.keep b ob q n hb hx⟩
theorem Un.kept (k : ∀ b u, h.get? b = some u → h'.get? b = some u) : Un fs ex H H h h' :=
  ⟨fun b ob q _ _ _ => k b ob q, fun b ob q _ _ _ => ⟨ob.slots, k b ob q⟩, fun _ _ _ n _ => n, fun b ob q _ => ⟨ob, k b ob q⟩, fun _ _ q => q, fun _ _ _ q => q, fun _ ps q => ⟨#[], by rw [q]; simp⟩⟩
theorem Un.refl : Un fs ex H H h h := Un.kept fun _ _ q => q
theorem Un.laid (k : ∀ b u, h.get? b = some u → h'.get? b = some u) (hp : h.objs.size ≤ a) (hn : H a = none) : Un fs ex H (upd H a o) h h' where
  keep := fun b u q _ _ _ => k b u q
  slot := fun b u q _ _ _ => ⟨u.slots, k b u q⟩
  free := fun b u q n _ => by rw [upd_ne (Nat.ne_of_lt (Nat.lt_of_lt_of_le (Heap.lt_size q) hp))]; exact n
  there := fun b u q _ => ⟨u, k b u q⟩
  tups := fun b xs q => by rw [upd_ne (ne_of_none q hn)]; exact q
  frzs := fun b u xs q => by rw [upd_ne (ne_of_none q hn)]; exact q
  tbls := fun b ps q => ⟨#[], by rw [upd_ne (ne_of_none q hn), q]; simp⟩
theorem Un.write (mu : Mut (H x)) (he : e = x ∨ H e = some (.own x)) (k : ∀ b u, b ≠ e → h.get? b = some u → h'.get? b = some u) (heo : ∃ u, h'.get? e = some u) : Un fs ex H (upd H x o) h h' := by
  have hx : ∀ b, H b = none → b ≠ x := fun b n z => by subst z; rw [n] at mu; exact mu
  have hb : ∀ b, H b = none → b ≠ e := fun b n z => by
    subst z
    rcases he with r | r
    · exact hx b n r
    · rw [n] at r; cases r
  have hm : ∀ b u, H b = some u → ¬ Mut (some u) → b ≠ x := fun b u q nm z => by subst z; rw [q] at mu; exact nm mu
  refine ⟨fun b u q n _ _ => k b u (hb b n) q, fun b u q n _ _ => ⟨u.slots, k b u (hb b n) q⟩, fun b u q n _ => by rw [upd_ne (hx b n)]; exact n, fun b u q _ => ?_,
    fun b xs q => by rw [upd_ne (hm b _ q fun z => z)]; exact q, fun b u xs q => by rw [upd_ne (hm b _ q fun z => z)]; exact q, fun b ps q => ⟨#[], by rw [upd_ne (hm b _ q fun z => z), q]; simp⟩⟩
  by_cases hbe : b = e
  · subst hbe; exact heo
  · exact ⟨u, k b u hbe q⟩
end
def trk (h : Heap) (H : Hp) : List Addr := (List.range h.objs.size).filter fun a => (H a).isSome
def hidT (h : Heap) (H : Hp) : Heap := PySem.W.hideAll h (trk h H)
theorem hidT_size (h : Heap) (H : Hp) : (hidT h H).objs.size = h.objs.size := PySem.W.hideAll_size _ _
theorem hidT_get {h : Heap} {H : Hp} {b : Addr} {o : Obj} (e : h.get? b = some o) (n : H b = none) : (hidT h H).get? b = some o :=
  PySem.W.hideAll_get _ e fun hm => by
    have q : (H b).isSome = true := (List.mem_filter.mp hm).2
    rw [n] at q; simp at q
theorem of_hidT {h : Heap} {H : Hp} {b : Addr} {o : Obj} (e : (hidT h H).get? b = some o) : h.get? b = some o ∧ H b = none := by
  have e' : h.get? b = some o := PySem.W.of_hideAll (trk h H) e
  refine ⟨e', ?_⟩
  cases q : H b with
  | none => rfl
  | some x =>
    have hm : b ∈ trk h H := List.mem_filter.mpr ⟨List.mem_range.mpr (Heap.lt_size e'), by simp [q]⟩
    have z : (hidT h H).get? b = none := PySem.W.hideAll_none (trk h H) hm
    rw [z] at e; cases e
def allNews (g h : Heap) (L : Addr) : List (Addr × Obj) := (List.range h.objs.size).filterMap fun a => if a = L ∨ (g.get? a).isSome = true then none else (h.get? a).map fun o => (a, o)
def rest (g h : Heap) (L d : Addr) : List (Addr × Obj) := (allNews g h L).filter fun p => decide (p.1 ≠ d)
end L2
namespace L2
open PySem PySem.Spec PyProof.Rows
structure Mod (K : PySem.W.Frag) (mg : Str → Option Value) (base : Heap) : Prop where
  kin : K.In base
  glob : base.Ns mainGlobals mg
  blt : ∃ mb, base.Ns builtinsNs mb ∧ ∀ x : Str, x ≠ "__name__" → mb x = bootBuiltins x
  nolimit : base.NoLimit
structure Cx where
  prog : Program
  w : World
  K : PySem.W.Frag
  mg : Str → Option Value
  base : Heap
  A : Around
  N : List Str
  s₀ : Shared
  H₀ : Hp
  env : Env
  outer : List Env
  stack : List Env
  ex : List Addr
  fn : Str → Bool
  calm : Bool
  pn : List (Addr × Obj)
  xe : Value → Shared → Prop
def frs (l : List Env) : List Addr := l.filterMap (·.frame)
abbrev Cx.fs (X : Cx) : List Addr := frs X.outer
def Vis (sc : Scope) (x : Str) : Prop := sc.names.lookup x = some .local ∨ sc.names.lookup x = some .cell ∨ sc.names.lookup x = some .free
def Loc (sc : Scope) (x : Str) : Prop := sc.names.lookup x = some .local ∨ sc.names.lookup x = some .cell
def Look (env : Env) (h : Heap) (m : Str → Option Value) (x : Str) (u : Value) : Prop :=
  (env.kindOf x = some .local ∧ m x = some u) ∨ ((env.kindOf x = some .cell ∨ env.kindOf x = some .free) ∧ ∃ c, env.cells.lookup x = some c ∧ h.IsCell c (some u))
structure Cx.Ok (X : Cx) : Prop where
  mod : Mod X.K X.mg X.base
  kind : X.env.scope.kind = .function
  glob : X.env.globals = mainGlobals
  blt : X.env.builtins = builtinsNs
  above : X.s₀.heap.objs.size ≤ X.env.locals
  inj : ∀ x y c, X.env.cells.lookup x = some c → X.env.cells.lookup y = some c → x = y
  has : ∀ x, (X.env.kindOf x = some .cell ∨ X.env.kindOf x = some .free) → ∃ c, X.env.cells.lookup x = some c
  cab : ∀ x c, X.fn x = true → X.env.cells.lookup x = some c → X.s₀.heap.objs.size ≤ c
  hd : X.calm = true → X.A.handled = none
  frames : X.A.frames = some X.stack
  stk : X.stack = X.outer ∨ (X.stack = X.env :: X.outer ∧ X.env.frame = some X.env.locals)
  exf : ∀ b ∈ X.ex, b ≠ X.env.locals ∧ ∀ x c, X.env.cells.lookup x = some c → c ≠ b
  bs : ∀ b o, X.base.get? b = some o → X.s₀.heap.get? b = some o ∧ X.H₀ b = none
  bsz : X.base.objs.size ≤ X.s₀.heap.objs.size
  noex : ∀ b o, X.base.get? b = some o → b ∉ X.ex
  exfs : ∀ b ∈ X.ex, b ∉ X.fs
  funs : X.s₀.heap.FunFrames X.base X.outer
  frf : ∀ b ∈ X.fs, X.H₀ b = none
structure Inv (X : Cx) (pins : List (Addr × Obj)) (σ : List (Option V)) (H : Hp) (s : Shared) : Prop where
  ok : X.Ok
  os : s.os = X.s₀.os
  bare : AllBare s.gens
  base : Un X.fs X.ex X.H₀ H X.s₀.heap s.heap
  loc : ∃ m, s.heap.Ns X.env.locals m ∧ ∀ (i : Nat) (x : Str) (v : V), X.N[i]? = some x → σ[i]? = some (some v) → Vis X.env.scope x → ∃ u, RelV v u ∧ Look X.env s.heap m x u
  cell : ∀ x c, X.env.cells.lookup x = some c → ∃ v, s.heap.IsCell c v
  free : H X.env.locals = none
  freeC : ∀ x c, X.env.cells.lookup x = some c → H c = none
  pin : ∀ p ∈ X.pn ++ pins, s.heap.get? p.1 = some p.2 ∧ H p.1 = none ∧ p.1 ≠ X.env.locals ∧ p.1 ∉ X.fs ∧ ∀ v, p.2.data ≠ .cell v
  hok : HOk X.prog X.w H s.heap
  len : σ.length = X.N.length
section
variable {X : Cx} {pins : List (Addr × Obj)} {σ : List (Option V)} {H H' : Hp} {s : Shared} {h' : Heap}
theorem Cx.Ok.nofr (ok : X.Ok) {b : Addr} {o : Obj} (e : X.base.get? b = some o) : b ∉ X.fs := fun hb => by
  have := (ok.funs.mem hb).1
  rw [e] at this; cases this
theorem Inv.bs (I : Inv X pins σ H s) : ∀ b o, X.base.get? b = some o → s.heap.get? b = some o ∧ H b = none := fun b o e =>
  ⟨I.base.keep b o (I.ok.bs b o e).1 (I.ok.bs b o e).2 (I.ok.nofr e) (I.ok.noex b o e), I.base.free b o (I.ok.bs b o e).1 (I.ok.bs b o e).2 (I.ok.noex b o e)⟩
theorem Inv.bk (I : Inv X pins σ H s) : ∀ b o, X.base.get? b = some o → s.heap.get? b = some o := fun b o e => (I.bs b o e).1
theorem Inv.mod (I : Inv X pins σ H s) : Mod X.K X.mg X.base := I.ok.mod
theorem Inv.kIn (I : Inv X pins σ H s) : X.K.In s.heap := I.ok.mod.kin.keeps I.bk
theorem Inv.lt (I : Inv X pins σ H s) : X.env.locals < s.heap.objs.size := let ⟨_, hn, _⟩ := I.loc; hn.lt
theorem Inv.sz (I : Inv X pins σ H s) : X.s₀.heap.objs.size ≤ s.heap.objs.size := Nat.le_trans I.ok.above (Nat.le_of_lt I.lt)
theorem Inv.nofs (I : Inv X pins σ H s) {a : Addr} (h : s.heap.objs.size ≤ a) : a ∉ X.fs := fun hb => by
  obtain ⟨_, o, ho, _⟩ := I.ok.funs.mem hb
  exact absurd (Nat.lt_of_lt_of_le (Heap.lt_size ho) (Nat.le_trans I.sz h)) (Nat.lt_irrefl _)
theorem Inv.cne (I : Inv X pins σ H s) : ∀ x c, X.env.cells.lookup x = some c → c ≠ X.env.locals := fun x c e z => by
  obtain ⟨v, o, ho, hd⟩ := I.cell x c e
  obtain ⟨m, ⟨o', es, ep, ho', hd', _⟩, _⟩ := I.loc
  rw [z, ho'] at ho; cases ho; rw [hd'] at hd; cases hd
theorem Inv.funs (I : Inv X pins σ H s) : s.heap.FunFrames X.base X.outer := by
  have all : ∀ (l : List Env), (∀ b ∈ frs l, b ∈ X.fs) → X.s₀.heap.FunFrames X.base l → s.heap.FunFrames X.base l := by
    intro l
    induction l with
    | nil => intro _ _; trivial
    | cons env r ih =>
      intro hs hl
      obtain ⟨hk, ⟨L, o, hf, hn, ho, hd⟩, hr⟩ := hl
      have hL : L ∈ X.fs := hs L (by unfold frs; rw [List.filterMap_cons, hf]; exact List.mem_cons_self)
      obtain ⟨sl, e⟩ := I.base.slot L o ho (I.ok.frf L hL) hL fun z => I.ok.exfs L z hL
      exact ⟨hk, ⟨L, _, hf, hn, e, hd⟩, ih (fun b hb => hs b (by unfold frs; rw [List.filterMap_cons, hf]; exact List.mem_cons_of_mem _ hb)) hr⟩
  exact all X.outer (fun _ hb => hb) I.ok.funs
theorem Inv.stack (I : Inv X pins σ H s) : s.heap.FunFrames X.base X.stack := by
  rcases I.ok.stk with e | ⟨e, hf⟩
  · rw [e]; exact I.funs
  · rw [e]
    obtain ⟨m, hn, _⟩ := I.loc
    refine .cons (by rw [I.ok.kind]; decide) hf hn ?_ I.funs
    exact Heap.get?_none_of_le (Nat.le_trans I.ok.bsz I.ok.above)
theorem Inv.stkSub (I : Inv X pins σ H s) : ∀ b ∈ frs X.stack, b ∈ X.env.locals :: X.fs := fun b hb => by
  rcases I.ok.stk with e | ⟨e, hf⟩
  · rw [e] at hb; exact List.mem_cons_of_mem _ hb
  · rw [e] at hb
    unfold frs at hb
    rw [List.filterMap_cons, hf] at hb
    exact hb
theorem Inv.stkFree (I : Inv X pins σ H s) : ∀ b ∈ frs X.stack, H b = none := fun b hb => by
  rcases List.mem_cons.mp (I.stkSub b hb) with e | hb
  · rw [e]; exact I.free
  · obtain ⟨_, o, ho, _⟩ := I.ok.funs.mem hb
    exact I.base.free b o ho (I.ok.frf b hb) fun z => I.ok.exfs b z hb
theorem Inv.step {g' : Array GenState} {t' : Nat} {d' : Drawn} {ch : List Addr} (I : Inv X pins σ H s)
    (hch : ∀ b ∈ ch, (b ∈ X.ex ∨ X.s₀.heap.objs.size ≤ b) ∧ b ≠ X.env.locals ∧ (∀ x c, X.env.cells.lookup x = some c → c ≠ b) ∧ ∀ p ∈ X.pn ++ pins, p.1 ≠ b)
    (keep : ∀ b o, b ≠ X.env.locals → b ∉ X.fs → b ∉ ch → s.heap.get? b = some o → H b = none → h'.get? b = some o)
    (slot : ∀ b o, b ≠ X.env.locals → b ∈ X.fs → b ∉ ch → s.heap.get? b = some o → H b = none → ∃ sl, h'.get? b = some { o with slots := sl }) (free : ∀ b o, b ∉ ch → s.heap.get? b = some o → H b = none → H' b = none)
    (there : ∀ b o, b ∉ ch → s.heap.get? b = some o → ∃ o', h'.get? b = some o')
    (tups : ∀ b xs, H b = some (.tup xs) → H' b = some (.tup xs)) (frzs : ∀ b o u, H b = some (.frz o u) → H' b = some (.frz o u)) (tbls : ∀ b ps, H b = some (.tbl ps) → ∃ more, H' b = some (.tbl (ps ++ more)))
    (ns : ∀ m, s.heap.Ns X.env.locals m → h'.Ns X.env.locals m) (hok : HOk X.prog X.w H' h') (hg : AllBare g') :
    Inv X pins σ H' { s with heap := h', gens := g', drawn := d', toks := t' } := by
  have neL : ∀ b o, X.s₀.heap.get? b = some o → b ≠ X.env.locals := fun b o e => Nat.ne_of_lt (Nat.lt_of_lt_of_le (Heap.lt_size e) I.ok.above)
  have neC : ∀ b o, X.s₀.heap.get? b = some o → b ∉ X.ex → b ∉ ch := fun b o e hx hb => by
    rcases (hch b hb).1 with z | z
    · exact hx z
    · exact absurd (Nat.lt_of_lt_of_le (Heap.lt_size e) z) (Nat.lt_irrefl _)
  have cellK : ∀ x c, X.env.cells.lookup x = some c → ∀ v, s.heap.IsCell c v → h'.IsCell c v := fun x c e v ⟨o, ho, hd⟩ => by
    have nch : c ∉ ch := fun z => (hch c z).2.2.1 x c e rfl
    by_cases hc : c ∈ X.fs
    · obtain ⟨sl, q⟩ := slot c o (I.cne x c e) hc nch ho (I.freeC x c e)
      exact ⟨_, q, hd⟩
    · exact ⟨o, keep c o (I.cne x c e) hc nch ho (I.freeC x c e), hd⟩
  refine ⟨I.ok, I.os, hg, ⟨fun b o e n hb hx => ?_, fun b o e n hb hx => ?_, fun b o e n hx => ?_, fun b o e hx => ?_, fun b xs e => tups b xs (I.base.tups b xs e), fun b o xs e => frzs b o xs (I.base.frzs b o xs e), fun b ps e => ?_⟩, ?_, fun x c e => ?_, ?_, fun x c e => ?_, fun p hp => ?_, hok, I.len⟩
  · exact keep b o (neL b o e) hb (neC b o e hx) (I.base.keep b o e n hb hx) (I.base.free b o e n hx)
  · obtain ⟨sl, e1⟩ := I.base.slot b o e n hb hx
    obtain ⟨sl', e2⟩ := slot b _ (neL b o e) hb (neC b o e hx) e1 (I.base.free b o e n hx)
    exact ⟨sl', e2⟩
  · obtain ⟨o', e1⟩ := I.base.there b o e hx
    exact free b o' (neC b o e hx) e1 (I.base.free b o e n hx)
  · obtain ⟨o', e1⟩ := I.base.there b o e hx
    exact there b o' (neC b o e hx) e1
  · obtain ⟨m1, e1⟩ := I.base.tbls b ps e
    obtain ⟨m2, e2⟩ := tbls b _ e1
    exact ⟨m1 ++ m2, by rw [e2, Array.append_assoc]⟩
  · obtain ⟨m, hn, hl⟩ := I.loc
    refine ⟨m, ns m hn, fun i x v e1 e2 e3 => ?_⟩
    obtain ⟨u, r, l⟩ := hl i x v e1 e2 e3
    refine ⟨u, r, ?_⟩
    rcases l with l | ⟨k, c, e, z⟩
    · exact .inl l
    · exact .inr ⟨k, c, e, cellK x c e _ z⟩
  · obtain ⟨v, z⟩ := I.cell x c e
    exact ⟨v, cellK x c e v z⟩
  · obtain ⟨m, ⟨o, _, _, ho, _⟩, _⟩ := I.loc
    exact free _ o (fun z => (hch _ z).2.1 rfl) ho I.free
  · obtain ⟨v, o, ho, hd⟩ := I.cell x c e
    exact free c o (fun z => (hch c z).2.2.1 x c e rfl) ho (I.freeC x c e)
  · obtain ⟨e, n, ne, nf, d⟩ := I.pin p hp
    have nch : p.1 ∉ ch := fun z => (hch p.1 z).2.2.2 p hp rfl
    exact ⟨keep p.1 p.2 ne nf nch e n, free p.1 p.2 nch e n, ne, nf, d⟩
theorem Inv.un {t' : Nat} (I : Inv X pins σ H s) (u : Un X.fs [] H H' s.heap h') (hok : HOk X.prog X.w H' h') : Inv X pins σ H' { s with heap := h', toks := t' } := by
  obtain ⟨m, ⟨o, es, ep, ho, r⟩, _⟩ := id I.loc
  obtain ⟨sl, hL⟩ := u.any ho I.free (by simp)
  exact I.step (g' := s.gens) (d' := s.drawn) (ch := []) (fun _ z => nomatch z) (fun b o _ hb _ e n => u.keep b o e n hb (by simp)) (fun b o _ hb _ e n => u.slot b o e n hb (by simp)) (fun b o _ e n => u.free b o e n (by simp)) (fun b o _ e => u.there b o e (by simp)) u.tups u.frzs u.tbls (fun m' hm => by
    obtain ⟨o', es', ep', ho', r'⟩ := hm
    rw [ho] at ho'; cases ho'
    exact ⟨_, es', ep', hL, r'⟩) hok I.bare
theorem Inv.call {g' : Array GenState} {t' : Nat} {d' : Drawn} {ch : List Addr} (I : Inv X pins σ H s) (u : Un (frs X.stack) ch H H' s.heap h') (hok : HOk X.prog X.w H' h') (hg : AllBare g')
    (hch : ∀ b ∈ ch, (b ∈ X.ex ∨ X.s₀.heap.objs.size ≤ b) ∧ b ≠ X.env.locals ∧ (∀ x c, X.env.cells.lookup x = some c → c ≠ b) ∧ ∀ p ∈ X.pn ++ pins, p.1 ≠ b) :
    Inv X pins σ H' { s with heap := h', gens := g', drawn := d', toks := t' } := by
  obtain ⟨m, ⟨o, es, ep, ho, r⟩, _⟩ := id I.loc
  obtain ⟨sl, hL⟩ := u.any ho I.free fun z => (hch _ z).2.1 rfl
  exact I.step (ch := ch) hch (fun b o hL hb hc e n => u.keep b o e n (fun z => (List.mem_cons.mp (I.stkSub b z)).elim hL hb) hc) (fun b o _ _ hc e n => u.any e n hc) (fun b o hc e n => u.free b o e n hc) (fun b o hc e => u.there b o e hc) u.tups u.frzs u.tbls (fun m' hm => by
    obtain ⟨o', es', ep', ho', r'⟩ := hm
    rw [ho] at ho'; cases ho'
    exact ⟨_, es', ep', hL, r'⟩) hok hg
theorem Inv.turned {t' : Nat} {it : Addr} (I : Inv X pins σ H s) (k : ∀ b o, b ≠ it → s.heap.get? b = some o → h'.get? b = some o) (hn : H it = none) (hL : it ≠ X.env.locals)
    (h1 : it ∈ X.ex ∨ X.s₀.heap.objs.size ≤ it) (h2 : ∀ x c, X.env.cells.lookup x = some c → c ≠ it) (h3 : ∀ p ∈ X.pn ++ pins, p.1 ≠ it) : Inv X pins σ H { s with heap := h', toks := t' } := by
  have nit : ∀ b u, H b = some u → b ≠ it := fun b u e z => by rw [z, hn] at e; cases e
  refine I.step (g' := s.gens) (d' := s.drawn) (ch := [it]) (fun b hb => ?_) (fun b o _ _ hc e _ => k b o (fun z => hc (by simp [z])) e) (fun b o _ _ hc e _ => ⟨o.slots, k b o (fun z => hc (by simp [z])) e⟩) (fun _ _ _ _ n => n)
    (fun b o hc e => ⟨o, k b o (fun z => hc (by simp [z])) e⟩) (fun _ _ e => e) (fun _ _ _ e => e) (fun b ps e => ⟨#[], by rw [e]; simp⟩) (fun m hm => ?_) (fun b u e => ?_) I.bare
  · have e : b = it := by simpa using hb
    subst e
    exact ⟨h1, hL, h2, h3⟩
  · obtain ⟨o, es, ep, ho, r⟩ := hm
    exact ⟨o, es, ep, k _ o (Ne.symm hL) ho, r⟩
  · refine (I.hok b u e).stay (fun c v hc q => k c v ?_ q) (fun _ q => q) fun _ _ q => q
    rcases hc with z | z
    · rw [z]; exact nit b u e
    · exact nit c _ z
theorem Inv.tok (I : Inv X pins σ H s) (t : Nat) : Inv X pins σ H { s with toks := t } := I.un (h' := s.heap) (t' := t) Un.refl I.hok
theorem Inv.kept {t' : Nat} (I : Inv X pins σ H s) (k : ∀ b u, s.heap.get? b = some u → h'.get? b = some u) : Inv X pins σ H { s with heap := h', toks := t' } := I.un (Un.kept k) (I.hok.kept k)
theorem Inv.laid {a : Addr} {o : HO} {t' : Nat} (I : Inv X pins σ H s) (k : ∀ b u, s.heap.get? b = some u → h'.get? b = some u) (hp : s.heap.objs.size ≤ a) (new : ObjOk X.prog X.w (upd H a o) h' a o) :
    Inv X pins σ (upd H a o) { s with heap := h', toks := t' } := I.un (Un.laid k hp (I.hok.fresh hp)) (I.hok.laid k hp new)
theorem Inv.write {x e : Addr} {o : HO} {t' : Nat} (I : Inv X pins σ H s) (mu : Mut (H x)) (he : e = x ∨ H e = some (.own x)) (k : ∀ b u, b ≠ e → s.heap.get? b = some u → h'.get? b = some u) (heo : ∃ u, h'.get? e = some u)
    (new : ObjOk X.prog X.w (upd H x o) h' x o) : Inv X pins σ (upd H x o) { s with heap := h', toks := t' } := I.un (Un.write mu he k heo) (I.hok.write mu he k heo new)
theorem Inv.pins_of {pins' : List (Addr × Obj)} (I : Inv X pins σ H s) (h : ∀ p ∈ pins', s.heap.get? p.1 = some p.2 ∧ H p.1 = none ∧ p.1 ≠ X.env.locals ∧ p.1 ∉ X.fs ∧ ∀ v, p.2.data ≠ .cell v) : Inv X pins' σ H s :=
  ⟨I.ok, I.os, I.bare, I.base, I.loc, I.cell, I.free, I.freeC, fun p hp => (List.mem_append.mp hp).elim (fun z => I.pin p (List.mem_append_left _ z)) (h p), I.hok, I.len⟩
theorem nodup_ix {N : List Str} (hN : N.Nodup) {i j : Nat} {x : Str} (a : N[i]? = some x) (b : N[j]? = some x) : i = j := by
  obtain ⟨h1, e1⟩ := List.getElem?_eq_some_iff.mp a
  obtain ⟨h2, e2⟩ := List.getElem?_eq_some_iff.mp b
  exact (List.getElem_inj hN).mp (e1.trans e2.symm)
theorem store_ok2 {M : Model} {A : Around} {E : Value → Shared → Prop} {i : Nat} {x : Str} {v : V} {u : Value} {Q : Unit → Shared → Prop} (I : Inv X pins σ H s) (hN : X.N.Nodup) (hi : X.N[i]? = some x) (hx : Loc X.env.scope x) (r : RelV v u)
    (h : ∀ s', Inv X pins (σ.set i (some v)) H s' → (∃ a, Heap.SameBut a s.heap s'.heap ∧ (a = X.env.locals ∨ X.env.cells.lookup x = some a)) → Q () s') (hf : X.fn x = true ∨ X.env.scope.names.lookup x = some .local := by first | exact .inl rfl | exact .inr rfl | assumption) : wpAny M A (storeName X.env x u) Q E s := by
  obtain ⟨m, hn, hl⟩ := id I.loc
  have hcls : (X.env.scope.kind == .class || (X.env.scope.kind == .module && X.env.locals != X.env.globals)) = false := by rw [I.ok.kind]; rfl
  have hiσ : i < σ.length := by rw [I.len]; exact (List.getElem?_eq_some_iff.mp hi).1
  have cne := I.cne
  have tracked : ∀ {a : Addr} {h' : Heap}, (∃ o, s.heap.get? a = some o ∧ H a = none) → Heap.SameBut a s.heap h' → HOk X.prog X.w H h' := fun {a h'} ha hs b ob e => by
    obtain ⟨_, _, hfree⟩ := ha
    refine (I.hok b ob e).stay (fun c w' hc q => (hs.2 c ?_).trans q) (fun _ q => q) fun _ _ q => q
    rintro rfl
    rcases hc with rfl | hc
    · rw [hfree] at e; cases e
    · rw [hfree] at hc; cases hc
  rcases hx with hk | hk
  · refine wpAny_storeName_local hk hn (fun h' hn' hs => ?_) hcls
    obtain ⟨oL, _, _, hoL, _⟩ := id hn
    refine h _ ⟨I.ok, I.os, I.bare, ⟨fun b o e n hb hx => ?_, fun b o e n hb hx => ?_, I.base.free, fun b o e hx => ?_, I.base.tups, I.base.frzs, I.base.tbls⟩, ⟨_, hn', fun j y v' e1 e2 e3 => ?_⟩, fun y c e => ?_, I.free, I.freeC, fun p hp => ?_, tracked ⟨oL, hoL, I.free⟩ hs, by simpa using I.len⟩ ⟨_, hs, .inl rfl⟩
    · exact (hs.2 b (Nat.ne_of_lt (Nat.lt_of_lt_of_le (Heap.lt_size e) I.ok.above))).trans (I.base.keep b o e n hb hx)
    · obtain ⟨sl, e1⟩ := I.base.slot b o e n hb hx
      exact ⟨sl, (hs.2 b (Nat.ne_of_lt (Nat.lt_of_lt_of_le (Heap.lt_size e) I.ok.above))).trans e1⟩
    · obtain ⟨o', e1⟩ := I.base.there b o e hx
      exact ⟨o', (hs.2 b (Nat.ne_of_lt (Nat.lt_of_lt_of_le (Heap.lt_size e) I.ok.above))).trans e1⟩
    · by_cases hj : j = i
      · subst hj
        rw [hi] at e1; cases e1
        rw [List.getElem?_set_self hiσ] at e2
        cases e2
        exact ⟨u, r, .inl ⟨hk, by simp⟩⟩
      · rw [List.getElem?_set_ne (Ne.symm hj)] at e2
        obtain ⟨u', r', q⟩ := hl j y v' e1 e2 e3
        refine ⟨u', r', ?_⟩
        rcases q with ⟨k, e⟩ | ⟨k, c, e, z⟩
        · refine .inl ⟨k, ?_⟩
          have : y ≠ x := fun e => hj (nodup_ix hN e1 (e ▸ hi))
          simp [this, e]
        · exact .inr ⟨k, c, e, z.sameBut hs (cne y c e)⟩
    · obtain ⟨w', z⟩ := I.cell y c e
      exact ⟨w', z.sameBut hs (cne y c e)⟩
    · obtain ⟨e, n, ne, nf, d⟩ := I.pin p hp
      exact ⟨(hs.2 p.1 ne).trans e, n, ne, nf, d⟩
  · have hfn : X.fn x = true := by
      rcases hf with z | z
      · exact z
      · rw [z] at hk; cases hk
    obtain ⟨c, hc⟩ := I.ok.has x (.inl hk)
    obtain ⟨w', z⟩ := I.cell x c hc
    refine wpAny_storeName_cell I.ok.kind hk hc z (fun h' hc' hs => ?_)
    obtain ⟨oc, hoc, hocd⟩ := id z
    refine h { s with heap := h' } ⟨I.ok, I.os, I.bare, ⟨fun b o e n hb hx => ?_, fun b o e n hb hx => ?_, I.base.free, fun b o e hx => ?_, I.base.tups, I.base.frzs, I.base.tbls⟩, ⟨m, hn.sameBut hs (Ne.symm (cne x c hc)), fun j y v' e1 e2 e3 => ?_⟩, fun y c' e => ?_, I.free, I.freeC, fun p hp => ?_, tracked ⟨oc, hoc, I.freeC x c hc⟩ hs, by simpa using I.len⟩ ⟨c, hs, .inr hc⟩
    · exact (hs.2 b (Nat.ne_of_lt (Nat.lt_of_lt_of_le (Heap.lt_size e) (I.ok.cab x c hfn hc)))).trans (I.base.keep b o e n hb hx)
    · obtain ⟨sl, e1⟩ := I.base.slot b o e n hb hx
      exact ⟨sl, (hs.2 b (Nat.ne_of_lt (Nat.lt_of_lt_of_le (Heap.lt_size e) (I.ok.cab x c hfn hc)))).trans e1⟩
    · obtain ⟨o', e1⟩ := I.base.there b o e hx
      exact ⟨o', (hs.2 b (Nat.ne_of_lt (Nat.lt_of_lt_of_le (Heap.lt_size e) (I.ok.cab x c hfn hc)))).trans e1⟩
    · by_cases hj : j = i
      · subst hj
        rw [hi] at e1; cases e1
        rw [List.getElem?_set_self hiσ] at e2
        cases e2
        exact ⟨u, r, .inr ⟨.inl hk, c, hc, hc'⟩⟩
      · rw [List.getElem?_set_ne (Ne.symm hj)] at e2
        obtain ⟨u', r', q⟩ := hl j y v' e1 e2 e3
        refine ⟨u', r', ?_⟩
        rcases q with q | ⟨k, c', e, z'⟩
        · exact .inl q
        · refine .inr ⟨k, c', e, z'.sameBut hs ?_⟩
          rintro rfl
          exact hj (nodup_ix hN e1 (I.ok.inj _ _ _ e hc ▸ hi))
    · by_cases hcc : c' = c
      · subst hcc; exact ⟨_, hc'⟩
      · obtain ⟨w2, z2⟩ := I.cell y c' e
        exact ⟨w2, z2.sameBut hs hcc⟩
    · obtain ⟨e, n, ne, nf, d⟩ := I.pin p hp
      refine ⟨(hs.2 p.1 ?_).trans e, n, ne, nf, d⟩
      intro q
      rw [q, hoc] at e
      have q' : oc = p.2 := Option.some.inj e
      exact d w' (by rw [← q']; exact hocd)
theorem store_ok {M : Model} {A : Around} {E : Value → Shared → Prop} {i : Nat} {x : Str} {v : V} {u : Value} {Q : Unit → Shared → Prop} (I : Inv X pins σ H s) (hN : X.N.Nodup) (hi : X.N[i]? = some x) (hx : Loc X.env.scope x) (r : RelV v u)
    (h : ∀ s', Inv X pins (σ.set i (some v)) H s' → Q () s') (hf : X.fn x = true ∨ X.env.scope.names.lookup x = some .local := by first | exact .inl rfl | exact .inr rfl | assumption) : wpAny M A (storeName X.env x u) Q E s :=
  store_ok2 I hN hi hx r (fun s' I' _ => h s' I') hf
theorem Inv.call' {s' : Shared} {ch : List Addr} (I : Inv X pins σ H s) (ho : s'.os = s.os) (u : Un (frs X.stack) ch H H' s.heap s'.heap) (hok : HOk X.prog X.w H' s'.heap) (hg : AllBare s'.gens)
    (hch : ∀ b ∈ ch, (b ∈ X.ex ∨ X.s₀.heap.objs.size ≤ b) ∧ b ≠ X.env.locals ∧ (∀ x c, X.env.cells.lookup x = some c → c ≠ b) ∧ ∀ p ∈ X.pn ++ pins, p.1 ≠ b) : Inv X pins σ H' s' := by
  obtain ⟨h', g', d', t', o'⟩ := s'
  have e : o' = s.os := ho
  subst e
  exact I.call (g' := g') (t' := t') (d' := d') u hok hg hch
end
abbrev XK := Value → Option Addr → Hp → Prop
abbrev St := List (Option V)
abbrev VK := V → Hp → Prop
abbrev TE := St → Hp → VK → Prop
abbrev TT := St → Hp → (Bool → Hp → Prop) → Prop
abbrev TA := St → Hp → (List V → Hp → Prop) → Prop
structure Ends where
  nx : St → Hp → Prop
  rt : VK
  bk : St → Hp → Prop := fun _ _ => False
  ct : St → Hp → Prop := fun _ _ => False
abbrev TS := Ends → St → Hp → Prop
def EP (X : Cx) (pins : List (Addr × Obj)) (σ : St) (Q : VK) (u : Value) (s' : Shared) : Prop := ∃ v H', Inv X pins σ H' s' ∧ RelV v u ∧ Q v H'
def TP (X : Cx) (pins : List (Addr × Obj)) (σ : St) (Q : Bool → Hp → Prop) (b : Bool) (s' : Shared) : Prop := ∃ H', Inv X pins σ H' s' ∧ Q b H'
def AP (X : Cx) (pins : List (Addr × Obj)) (σ : St) (Q : List V → Hp → Prop) (us : List Value) (s' : Shared) : Prop := ∃ vs H', Inv X pins σ H' s' ∧ Vals vs us ∧ Q vs H'
def SP (X : Cx) (pins : List (Addr × Obj)) (D : Ends) (f : Flow) (s' : Shared) : Prop :=
  match f with
  | .next => ∃ σ' H', Inv X pins σ' H' s' ∧ D.nx σ' H'
  | .brk => ∃ σ' H', Inv X pins σ' H' s' ∧ D.bk σ' H'
  | .cont => ∃ σ' H', Inv X pins σ' H' s' ∧ D.ct σ' H'
  | .ret u => ∃ v σ' H', Inv X pins σ' H' s' ∧ RelV v u ∧ D.rt v H'
def PE (X : Cx) (e : Expr) (t : TE) : Prop :=
  ∀ (pins : List (Addr × Obj)) (s : Shared) (σ : St) (H : Hp) (Q : VK), Inv X pins σ H s → t σ H Q → wpAny (model X.prog X.w) X.A (eval e X.env) (EP X pins σ Q) X.xe s
def PT (X : Cx) (e : Expr) (t : TT) : Prop :=
  ∀ (pins : List (Addr × Obj)) (s : Shared) (σ : St) (H : Hp) (Q : Bool → Hp → Prop), Inv X pins σ H s → t σ H Q → wpAny (model X.prog X.w) X.A (isTrue e X.env (eval e X.env)) (TP X pins σ Q) X.xe s
def PW (X : Cx) (e : Expr) (t : TT) : Prop :=
  ∀ (whole : Sem Value) (pins : List (Addr × Obj)) (s : Shared) (σ : St) (H : Hp) (Q : Bool → Hp → Prop), Inv X pins σ H s → t σ H Q → wpAny (model X.prog X.w) X.A (isTrue e X.env whole) (TP X pins σ Q) X.xe s
theorem PW.pt {X : Cx} {e : Expr} {t : TT} (h : PW X e t) : PT X e t := h _
def PA (X : Cx) (es : List Expr) (t : TA) : Prop :=
  ∀ (pos : Pos) (pins : List (Addr × Obj)) (s : Shared) (σ : St) (H : Hp) (Q : List V → Hp → Prop), Inv X pins σ H s → t σ H Q → wpAny (model X.prog X.w) X.A (spliced (backTo pos (starEach es X.env))) (AP X pins σ Q) X.xe s
def PS (X : Cx) (st : Stmt) (t : TS) : Prop :=
  ∀ (pins : List (Addr × Obj)) (s : Shared) (σ : St) (H : Hp) (D : Ends), Inv X pins σ H s → t D σ H → wpAny (model X.prog X.w) X.A (exec st X.env) (SP X pins D) X.xe s
def PSs (X : Cx) (st : List Stmt) (t : TS) : Prop :=
  ∀ (pins : List (Addr × Obj)) (s : Shared) (σ : St) (H : Hp) (D : Ends), Inv X pins σ H s → t D σ H → wpAny (model X.prog X.w) X.A (execs st X.env) (SP X pins D) X.xe s
theorem thn {α : Type} {t : Sem α} {Q Q' : α → Shared → Prop} {M : Model} {A : Around} {E : Value → Shared → Prop} {s : Shared} (h : wpAny M A t Q E s) (hQ : ∀ a s, Q a s → Q' a s) : wpAny M A t Q' E s := wpAny_mono h hQ fun _ _ x => x
end L2
namespace L2
open PySem PySem.Spec PyProof.Rows
section
variable {X : Cx}
def tVar (i : Nat) : TE := fun σ H Q => ∃ v, σ[i]? = some (some v) ∧ Q v H
def tC (v : V) : TE := fun _ H Q => Q v H
theorem pe_var {i : Nat} {x : Str} {pos : Pos} (hN : X.N[i]? = some x) (hv : Vis X.env.scope x) (hd : (x == ("__debug__" : Str)) = false := by decide) (hcd : (x == ("__classdict__" : Str)) = false := by decide) : PE X (.Name x pos) (tVar i) := by
  intro pins s σ H Q I h
  obtain ⟨v, e, h⟩ := h
  obtain ⟨m, hn, hl⟩ := I.loc
  obtain ⟨u, r, l⟩ := hl i x v hN e hv
  have fin : EP X pins σ Q u s := ⟨v, H, I, r, h⟩
  rcases l with ⟨hk, hm⟩ | ⟨hk, c, hc, hcell⟩
  · exact wpAny_Name (wpAny_loadName_local I.ok.kind hk hn hm fin) hd
  · rcases hk with hk | hk
    · exact wpAny_Name (wpAny_loadName_cell I.ok.kind hk hc hcell fin) hd
    · exact wpAny_Name (wpAny_loadName_free I.ok.kind hk hc hcell fin hcd) hd
theorem pe_int {i j pos} : PE X (.Constant (.int i) j pos) (tC (.int i)) := fun _ _ _ H _ I h => wpAny_Constant_int ⟨.int i, H, I.tok _, ⟨_, rfl⟩, h⟩
theorem pe_bl {b j pos} : PE X (.Constant (.bool b) j pos) (tC (.bl b)) := fun _ _ _ H _ I h => Constant_bool ⟨.bl b, H, I, rfl, h⟩
theorem pe_non {j pos} : PE X (.Constant .none j pos) (tC .non) := fun _ _ _ H _ I h => Constant_none ⟨.non, H, I, rfl, h⟩
theorem pe_str {x j pos} : PE X (.Constant (.str x) j pos) (tC (.str x)) := fun _ _ _ H _ I h => Calls.Constant_str ⟨.str x, H, I.tok _, ⟨_, rfl⟩, h⟩
def Gl (X : Cx) (x : Str) : Prop := X.env.kindOf x = some .globalImplicit
theorem ld_glob {E : Value → Shared → Prop} {pins : List (Addr × Obj)} {s : Shared} {σ : St} {H : Hp} {x : Str} {u : Value} {pos : Pos} {Q : Value → Shared → Prop} (I : Inv X pins σ H s) (hg : Gl X x) (hm : X.mg x = some u) (h : Q u s)
    (hd : (x == ("__debug__" : Str)) = false := by decide) : wpAny (model X.prog X.w) X.A (eval (.Name x pos) X.env) Q E s :=
  Calls.Name_function_global I.ok.kind hg (Calls.loadGlobal_global (by rw [I.ok.glob]; exact I.mod.glob.keeps I.bk) hm h) hd
theorem ld_blt {E : Value → Shared → Prop} {pins : List (Addr × Obj)} {s : Shared} {σ : St} {H : Hp} {x : Str} {u : Value} {pos : Pos} {Q : Value → Shared → Prop} (I : Inv X pins σ H s) (hg : Gl X x) (hm : X.mg x = none) (hv : bootBuiltins x = some u) (h : Q u s)
    (hn : x ≠ "__name__" := by decide) (hd : (x == ("__debug__" : Str)) = false := by decide) : wpAny (model X.prog X.w) X.A (eval (.Name x pos) X.env) Q E s := by
  obtain ⟨mb, h1, h2⟩ := I.mod.blt
  exact Calls.Name_function_global I.ok.kind hg (Calls.loadGlobal_builtin (by rw [I.ok.glob]; exact I.mod.glob.keeps I.bk) hm (by rw [I.ok.blt]; exact h1.keeps I.bk) ((h2 x hn).trans hv) h) hd
theorem pe_bltn {x : Str} {v : V} {u : Value} {pos : Pos} (hg : Gl X x) (hm : X.mg x = none) (hv : bootBuiltins x = some u) (r : RelV v u) (hn : x ≠ "__name__" := by decide) (hd : (x == ("__debug__" : Str)) = false := by decide) : PE X (.Name x pos) (tC v) :=
  fun _ _ _ H _ I h => ld_blt I hg hm hv ⟨v, H, I, r, h⟩ hn hd
def t2I (ta tb : TE) (k : Int → Int → Hp → Prop) : St → Hp → Prop := fun σ H => ta σ H fun x H1 => tb σ H1 fun y H2 => ∃ i j, x = .int i ∧ y = .int j ∧ k i j H2
def tAdd (ta tb : TE) : TE := fun σ H Q => t2I ta tb (fun i j H2 => Q (.int (i + j)) H2) σ H
def tSub (ta tb : TE) : TE := fun σ H Q => t2I ta tb (fun i j H2 => Q (.int (i - j)) H2) σ H
def tMul (ta tb : TE) : TE := fun σ H Q => t2I ta tb (fun i j H2 => (-(2 ^ 64) < i ∧ i < 2 ^ 64) ∧ Q (.int (i * j)) H2) σ H
variable {a b : Expr} {ta tb : TE} {pos : Pos}
def PC (X : Cx) (op : CmpOp) (a b : Expr) (t : TE) : Prop :=
  ∀ (pins : List (Addr × Obj)) (s : Shared) (σ : St) (H : Hp) (Q : VK), Inv X pins σ H s → t σ H Q →
    wpAny (model X.prog X.w) X.A (eval a X.env) (fun v s₁ => wpAny (model X.prog X.w) X.A (eval b X.env) (fun u s₂ => wpAny (model X.prog X.w) X.A (compareOp op v u) (EP X pins σ Q) X.xe s₂) X.xe s₁) X.xe s
def tCmp (p : Int → Int → Bool) (ta tb : TE) : TE := fun σ H Q => t2I ta tb (fun i j H2 => Q (.bl (p i j)) H2) σ H
abbrev tLt : TE → TE → TE := tCmp fun i j => decide (i < j)
abbrev tLe : TE → TE → TE := tCmp fun i j => decide (i ≤ j)
abbrev tGt : TE → TE → TE := tCmp fun i j => decide (j < i)
abbrev tGe : TE → TE → TE := tCmp fun i j => decide (j ≤ i)
abbrev tEqI : TE → TE → TE := tCmp fun i j => decide (i = j)
abbrev tNeI : TE → TE → TE := tCmp fun i j => !decide (i = j)
def tIsN (ta : TE) : TE := fun σ H Q => ta σ H fun x H1 => Q (.bl (decide (x = .non))) H1
def tNotN (ta : TE) : TE := fun σ H Q => ta σ H fun x H1 => Q (.bl (!decide (x = .non))) H1
def tB (t : TE) : TT := fun σ H Q => t σ H fun x H1 => ∃ c, x = .bl c ∧ Q c H1
theorem pe_cmp {op : CmpOp} {t : TE} (h : PC X op a b t) (h1 : behindInMarks op b = false := by first | exact nobehind _ (by decide) (by decide) | rfl) : PE X (.Compare a [op] [b] pos) t := fun pins s σ H Q I hw => wpAny_Compare1 (h pins s σ H Q I hw) h1
theorem pt_val {e : Expr} {t : TE} (h : PE X e t) (he : ∀ whole, isTrue e X.env whole = (do let v ← whole; standAt e.pos; holding [v] (truthy v)) := by intro _; rfl) : PT X e (tB t) := by
  intro pins s σ H Q I hw
  refine isTrue_plain (thn (h pins s σ H _ I hw) fun v s1 ⟨x, H1, I1, r1, q1⟩ => ?_) (he _)
  obtain ⟨d, rfl, q⟩ := q1
  cases r1
  exact wpAny_truthy_bool ⟨H1, I1, q⟩
variable {tA tB' : TT} {rest : List Expr}
def tAnd (t u : TT) : TT := fun σ H Q => t σ H fun c H1 => if c = true then u σ H1 Q else Q false H1
def tOr (t u : TT) : TT := fun σ H Q => t σ H fun c H1 => if c = true then Q true H1 else u σ H1 Q
def tNot (t : TT) : TT := fun σ H Q => t σ H fun c H1 => Q (!c) H1
theorem pw_and1 (ha : PT X a tA) : PW X (.BoolOp .And [a] pos) tA := by
  intro wh pins s σ H Q I h
  refine isTrue_and (thn (ha pins s σ H Q I h) fun c s1 e => ?_)
  cases c with
  | true => exact isTrue_and_nil e
  | false => exact e
theorem pw_or1 (ha : PT X a tA) : PW X (.BoolOp .Or [a] pos) tA := by
  intro wh pins s σ H Q I h
  refine isTrue_or (thn (ha pins s σ H Q I h) fun c s1 e => ?_)
  cases c with
  | false => exact isTrue_or_nil e
  | true => exact e
theorem pw_and (ha : PT X a tA) (hb : PW X (.BoolOp .And (b :: rest) pos) tB') : PW X (.BoolOp .And (a :: b :: rest) pos) (tAnd tA tB') := by
  intro wh pins s σ H Q I h
  refine isTrue_and (thn (ha pins s σ H _ I h) fun c s1 ⟨H1, I1, q1⟩ => ?_)
  cases c with
  | true => exact hb wh pins s1 σ H1 Q I1 q1
  | false => exact ⟨H1, I1, q1⟩
theorem pw_or (ha : PT X a tA) (hb : PW X (.BoolOp .Or (b :: rest) pos) tB') : PW X (.BoolOp .Or (a :: b :: rest) pos) (tOr tA tB') := by
  intro wh pins s σ H Q I h
  refine isTrue_or (thn (ha pins s σ H _ I h) fun c s1 ⟨H1, I1, q1⟩ => ?_)
  cases c with
  | true => exact ⟨H1, I1, q1⟩
  | false => exact hb wh pins s1 σ H1 Q I1 q1
theorem pt_not (ha : PT X a tA) : PT X (.UnaryOp .Not a pos) (tNot tA) := by
  intro pins s σ H Q I h
  exact isTrue_not (ha pins s σ H (fun c H1 => Q (!c) H1) I h)
def tAndV (ta tb : TE) : TE := fun σ H Q => ta σ H fun x H1 => ∃ c, x = .bl c ∧ if c = true then tb σ H1 Q else Q (.bl false) H1
def tOrV (ta tb : TE) : TE := fun σ H Q => ta σ H fun x H1 => ∃ c, x = .bl c ∧ if c = true then Q (.bl true) H1 else tb σ H1 Q
def tNotV (ta : TE) : TE := fun σ H Q => ta σ H fun x H1 => ∃ c, x = .bl c ∧ Q (.bl (!c)) H1
theorem pe_one {op} {t : TE} (h : PE X a t) : PE X (.BoolOp op [a] pos) t := fun pins s σ H Q I hw => BoolOp_one (h pins s σ H Q I hw)
theorem pe_and (ha : PE X a ta) (hb : PE X (.BoolOp .And (b :: rest) pos) tb) : PE X (.BoolOp .And (a :: b :: rest) pos) (tAndV ta tb) := by
  intro pins s σ H Q I h
  refine BoolOp_and (thn (ha pins s σ H _ I h) fun v s1 ⟨x, H1, I1, r1, q1⟩ => ?_)
  obtain ⟨c, rfl, q1⟩ := q1
  cases r1
  refine wpAny_truthy_bool ?_
  cases c with
  | true => exact hb pins s1 σ H1 Q I1 q1
  | false => exact ⟨.bl false, H1, I1, rfl, q1⟩
theorem pe_not (ha : PE X a ta) : PE X (.UnaryOp .Not a pos) (tNotV ta) := by
  intro pins s σ H Q I h
  refine UnaryOp_ (thn (ha pins s σ H _ I h) fun v s1 ⟨x, H1, I1, r1, q1⟩ => ?_)
  obtain ⟨c, rfl, q1⟩ := q1
  cases r1
  exact not_of (wpAny_truthy_bool ⟨.bl (!c), H1, I1, rfl, q1⟩)
def tIf (t : TT) (ta tb : TE) : TE := fun σ H Q => t σ H fun c H1 => if c = true then ta σ H1 Q else tb σ H1 Q
end
end L2
namespace L2
open PySem PySem.Spec PyProof.Rows
def SqL (K : PySem.W.Frag) (H : Hp) (a : Addr) (xs : List V) : Prop :=
  Rd H a (.lst xs) ∨
    ∃ (o : Obj) (its : Array Value) (n : Nat), K.lookup a = some o ∧ o.cls = .type "list" ∧ o.dict = none ∧ o.data = .seq its n ∧ its.size ≤ sizeLine ∧ Vals xs its.toList
def SqT (K : PySem.W.Frag) (H : Hp) (a : Addr) (xs : List V) : Prop :=
  Rd H a (.tup xs) ∨
    ∃ (o : Obj) (its : Array Value) (n : Nat), K.lookup a = some o ∧ o.cls = .type "tuple" ∧ o.data = .seq its n ∧ its.size ≤ sizeLine ∧ Vals xs its.toList
def absV : Value → Option V
  | .none => some .non
  | .bool b => some (.bl b)
  | .int i _ => some (.int i)
  | .str x _ => some (.str x)
  | .bytes b _ => some (.byt b)
  | .float b _ => some (.flt b)
  | .ref a => some (.ref a)
  | .type n => some (.ty n)
  | _ => none
theorem RelV.abs {x : V} {u : Value} (r : RelV x u) : absV u = some x := by
  cases x with
  | non => cases r; rfl
  | bl _ => cases r; rfl
  | int _ => obtain ⟨t, rfl⟩ := r; rfl
  | str _ => obtain ⟨t, rfl⟩ := r; rfl
  | byt _ => obtain ⟨t, rfl⟩ := r; rfl
  | flt _ => obtain ⟨t, rfl⟩ := r; rfl
  | ref _ => cases r; rfl
  | ty _ => cases r; rfl
theorem RelV.inj {x y : V} {u : Value} (r : RelV x u) (q : RelV y u) : x = y := Option.some.inj (r.abs.symm.trans q.abs)
theorem Vals.inj : ∀ {xs ys : List V} {us : List Value}, Vals xs us → Vals ys us → xs = ys
  | _, _, _, .nil, .nil => rfl
  | _, _, _, .cons r t, .cons r' t' => by rw [r.inj r', Vals.inj t t']
section
variable {X : Cx} {pins : List (Addr × Obj)} {σ : St} {H : Hp} {s : Shared} {a : Addr} {xs ys : List V}
theorem SqL.of {K : PySem.W.Frag} (h : H a = some (.lst xs)) : SqL K H a xs := .inl (.inl h)
theorem SqT.of {K : PySem.W.Frag} (h : H a = some (.tup xs)) : SqT K H a xs := .inl (.inl h)
theorem Inv.list (I : Inv X pins σ H s) (h : SqL X.K H a xs) : ∃ its : List Value, Vals xs its ∧ PlainL s.heap a its.toArray ∧ xs.length ≤ sizeLine := by
  rcases h with h | ⟨o, its, n, hk, hc, hd, hs, hz, r⟩
  · obtain ⟨z, its, n, r, e⟩ := h.ok I.hok
    exact ⟨its, r, ⟨_, n, e, rfl, rfl, rfl⟩, z⟩
  · refine ⟨its.toList, r, ⟨o, n, I.kIn a o hk, hc, hd, by simpa using hs⟩, ?_⟩
    have e := r.length
    simp only [Array.length_toList] at e
    omega
theorem Inv.tuple (I : Inv X pins σ H s) (h : SqT X.K H a xs) : ∃ its : List Value, Vals xs its ∧ IsTup s.heap a its.toArray ∧ xs.length ≤ sizeLine := by
  rcases h with h | ⟨o, its, n, hk, hc, hs, hz, r⟩
  · obtain ⟨z, its, r, p⟩ := h.ok I.hok
    exact ⟨its, r, p, z⟩
  · refine ⟨its.toList, r, ⟨o, I.kIn a o hk, hc, n, by simpa using hs⟩, ?_⟩
    have e := r.length
    simp only [Array.length_toList] at e
    omega
theorem Inv.list_inj (I : Inv X pins σ H s) (h : SqL X.K H a xs) (h' : SqL X.K H a ys) : xs = ys := by
  obtain ⟨its, r, ⟨o, n, e, _, _, d⟩, _⟩ := I.list h
  obtain ⟨its', r', ⟨o', n', e', _, _, d'⟩, _⟩ := I.list h'
  rw [e] at e'; cases e'
  rw [d] at d'
  injection d' with d1 _
  have : its = its' := by simpa using congrArg Array.toList d1
  subst this
  exact r.inj r'
theorem Inv.tuple_inj (I : Inv X pins σ H s) (h : SqT X.K H a xs) (h' : SqT X.K H a ys) : xs = ys := by
  obtain ⟨its, r, ⟨o, e, _, n, d⟩, _⟩ := I.tuple h
  obtain ⟨its', r', ⟨o', e', _, n', d'⟩, _⟩ := I.tuple h'
  rw [e] at e'; cases e'
  rw [d] at d'
  injection d' with d1 _
  have : its = its' := by simpa using congrArg Array.toList d1
  subst this
  exact r.inj r'
end
abbrev Cx.wish (X : Cx) (E : Value → Shared → Prop) : Cx := { X with xe := E }
abbrev Cx.nox (X : Cx) : Cx := X.wish fun _ _ => False
theorem Cx.Ok.wish {X : Cx} (ok : X.Ok) (E : Value → Shared → Prop) : (X.wish E).Ok :=
  ⟨ok.mod, ok.kind, ok.glob, ok.blt, ok.above, ok.inj, ok.has, ok.cab, ok.hd, ok.frames, ok.stk, ok.exf, ok.bs, ok.bsz, ok.noex, ok.exfs, ok.funs, ok.frf⟩
theorem Cx.Ok.unwish {X : Cx} {E : Value → Shared → Prop} (ok : (X.wish E).Ok) : X.Ok :=
  ⟨ok.mod, ok.kind, ok.glob, ok.blt, ok.above, ok.inj, ok.has, ok.cab, ok.hd, ok.frames, ok.stk, ok.exf, ok.bs, ok.bsz, ok.noex, ok.exfs, ok.funs, ok.frf⟩
section
variable {X : Cx} {pins : List (Addr × Obj)} {σ : St} {H : Hp} {s : Shared} {E : Value → Shared → Prop}
theorem Inv.wish (I : Inv X pins σ H s) (E : Value → Shared → Prop) : Inv (X.wish E) pins σ H s := ⟨I.ok.wish E, I.os, I.bare, I.base, I.loc, I.cell, I.free, I.freeC, I.pin, I.hok, I.len⟩
theorem Inv.unwish (I : Inv (X.wish E) pins σ H s) : Inv X pins σ H s := ⟨I.ok.unwish, I.os, I.bare, I.base, I.loc, I.cell, I.free, I.freeC, I.pin, I.hok, I.len⟩
theorem SP.unwish {D : Ends} {f : Flow} {s' : Shared} (h : SP (X.wish E) pins D f s') : SP X pins D f s' := by
  cases f with
  | next => obtain ⟨σ', H', I, q⟩ := h; exact ⟨σ', H', I.unwish, q⟩
  | brk => obtain ⟨σ', H', I, q⟩ := h; exact ⟨σ', H', I.unwish, q⟩
  | cont => obtain ⟨σ', H', I, q⟩ := h; exact ⟨σ', H', I.unwish, q⟩
  | ret u => obtain ⟨v, σ', H', I, r, q⟩ := h; exact ⟨v, σ', H', I.unwish, r, q⟩
theorem PSs.nox {st : List Stmt} {t : TS} (h : PSs X.nox st t) : PSs X st t := fun pins s σ H D I hw =>
  wpAny_mono (h pins s σ H D (I.wish _) hw) (fun _ _ q => q.unwish) fun _ _ z => False.elim z
end
section
variable {X : Cx} {st : Stmt} {rest : List Stmt} {t u : TS} {e : Expr} {te : TE} {pos : Pos}
def tNext : TS := fun D σ H => D.nx σ H
def tSeq (t u : TS) : TS := fun D σ H => t { D with nx := u D } σ H
theorem pss_nil : PSs X [] tNext := fun _ _ σ H _ I h => wpAny_execs_nil ⟨σ, H, I, h⟩
theorem pss_cons (h1 : PS X st t) (h2 : PSs X rest u) : PSs X (st :: rest) (tSeq t u) := by
  intro pins s σ H D I h
  refine wpAny_execs_cons (thn (h1 pins s σ H { D with nx := u D } I h) fun f s1 q => ?_)
  cases f with
  | next =>
    obtain ⟨σ', H', I', q⟩ := q
    exact h2 pins s1 σ' H' D I' q
  | ret v => exact q
  | brk => exact q
  | cont => exact q
theorem pss_one (h1 : PS X st t) : PSs X [st] t := by
  intro pins s σ H D I h
  refine wpAny_execs_cons (thn (h1 pins s σ H D I h) fun f s1 q => ?_)
  cases f with
  | next => exact wpAny_execs_nil q
  | ret v => exact q
  | brk => exact q
  | cont => exact q
def tBreak : TS := fun D σ H => D.bk σ H
def tCont : TS := fun D σ H => D.ct σ H
theorem Inv.quiet {pins : List (Addr × Obj)} {σ : St} {H : Hp} {s : Shared} (I : Inv X pins σ H s) : interactive X.env = false := by simp [interactive, I.ok.kind]
def tDrop (te : TE) : TS := fun D σ H => te σ H fun _ H1 => D.nx σ H1
theorem ps_expr (he : PE X e te) (hs : swapsWith e none pos.line X.env = pure false := by rfl) : PS X (.Expr e pos) (tDrop te) := by
  intro pins s σ H D I h
  exact wpAny_Expr_any (thn (he pins s σ H _ I h) fun v s1 ⟨x, H1, I1, r1, q1⟩ => ⟨σ, H1, I1, q1⟩) I.quiet hs
def tRet (te : TE) : TS := fun D σ H => te σ H D.rt
theorem ps_ret (he : PE X e te) : PS X (.Return (some e) pos) (tRet te) := by
  intro pins s σ H D I h
  exact wpAny_Return_some (thn (he pins s σ H _ I h) fun v s1 ⟨x, H1, I1, r1, q1⟩ => ⟨x, σ, H1, I1, r1, q1⟩)
def tRetN : TS := fun D _ H => D.rt .non H
def tIfS (c : TT) (t u : TS) : TS := fun D σ H => c σ H fun b H1 => if b = true then t D σ H1 else u D σ H1
theorem ps_if {c : Expr} {a b : List Stmt} {tc : TT} (hc : PT X c tc) (ha : PSs X a t) (hb : PSs X b u) : PS X (.If c a b pos) (tIfS tc t u) := by
  intro pins s σ H D I h
  refine wpAny_If (thn (hc pins s σ H _ I h) fun d s1 ⟨H1, I1, q1⟩ => ?_)
  cases d with
  | true => exact ha pins s1 σ H1 D I1 q1
  | false => exact hb pins s1 σ H1 D I1 q1
def tNever : TS := fun _ _ _ => False
theorem ps_never : PS X st tNever := fun _ _ _ _ _ _ h => h.elim
end
abbrev TG := V → St → Hp → (St → Hp → Prop) → Prop
abbrev TGs := List V → St → Hp → (St → Hp → Prop) → Prop
def PG (X : Cx) (target : Expr) (t : TG) : Prop :=
  ∀ (pins : List (Addr × Obj)) (s : Shared) (σ : St) (H : Hp) (v : V) (u : Value) (Q : St → Hp → Prop), Inv X pins σ H s → RelV v u → t v σ H Q →
    wpAny (model X.prog X.w) X.A (assign target X.env u) (fun _ s' => ∃ σ' H', Inv X pins σ' H' s' ∧ Q σ' H') X.xe s
def PGs (X : Cx) (ts : List Expr) (t : TGs) : Prop :=
  ∀ (pins : List (Addr × Obj)) (s : Shared) (σ : St) (H : Hp) (vs : List V) (us : List Value) (Q : St → Hp → Prop), Inv X pins σ H s → Vals vs us → t vs σ H Q →
    wpAny (model X.prog X.w) X.A (assignInOrder ((assignEach ts X.env).map (·.2)) us) (fun _ s' => ∃ σ' H', Inv X pins σ' H' s' ∧ Q σ' H') X.xe s
abbrev TSet := V → V → V → Hp → (Hp → Prop) → Prop
def PSet (X : Cx) (t : TSet) : Prop :=
  ∀ (pins : List (Addr × Obj)) (s : Shared) (σ : St) (H : Hp) (o i v : V) (ov iv u : Value) (Q : Hp → Prop), Inv X pins σ H s → RelV o ov → RelV i iv → RelV v u → t o i v H Q →
    wpAny (model X.prog X.w) X.A (setItem ov iv u) (fun _ s' => ∃ H', Inv X pins σ H' s' ∧ Q H') X.xe s
abbrev TIp := V → V → Hp → VK → Prop
def PIp (X : Cx) (op : Operator) (t : TIp) : Prop :=
  ∀ (pins : List (Addr × Obj)) (s : Shared) (σ : St) (H : Hp) (x y : V) (v u : Value) (Q : VK), Inv X pins σ H s → RelV x v → RelV y u → t x y H Q →
    wpAny (model X.prog X.w) X.A (inplaceOp op v u) (EP X pins σ Q) X.xe s
section
variable {X : Cx} {pos : Pos}
def gName (i : Nat) : TG := fun v σ H Q => Q (σ.set i (some v)) H
theorem pg_name {i : Nat} {x : Str} (hN : X.N.Nodup) (hi : X.N[i]? = some x) (hx : Loc X.env.scope x) (hf : X.fn x = true ∨ X.env.scope.names.lookup x = some .local := by first | exact .inl rfl | exact .inr rfl | assumption) : PG X (.Name x pos) (gName i) := by
  intro pins s σ H v u Q I r h
  exact wpAny_assign_Name (store_ok I hN hi hx r (fun s' I' => ⟨_, H, I', h⟩) hf)
def gNil : TGs := fun vs σ H Q => vs = [] ∧ Q σ H
def gCons (t : TG) (u : TGs) : TGs := fun vs σ H Q => ∃ v r, vs = v :: r ∧ t v σ H fun σ' H' => u r σ' H' Q
theorem pgs_nil : PGs X [] gNil := by
  intro pins s σ H vs us Q I r h
  obtain ⟨e, h⟩ := h
  subst e
  cases r
  exact assignInOrder_nil ⟨σ, H, I, h⟩
theorem pgs_cons {e : Expr} {es : List Expr} {t : TG} {u : TGs} (h1 : PG X e t) (h2 : PGs X es u)
    (hs : (assignEach (e :: es) X.env).map (·.2) = assign e X.env :: (assignEach es X.env).map (·.2) := by rfl) : PGs X (e :: es) (gCons t u) := by
  intro pins s σ H vs us Q I r h
  obtain ⟨v, vr, e1, h⟩ := h
  subst e1
  cases r with
  | cons r rr =>
    rw [hs]
    refine assignInOrder_cons (thn (h1 pins s σ H _ _ _ I r h) fun _ s1 ⟨σ1, H1, I1, q1⟩ => ?_)
    exact h2 pins s1 σ1 H1 _ _ Q I1 rr q1
def gTup (K : PySem.W.Frag) (n : Nat) (t : TGs) : TG := fun v σ H Q => ∃ a xs, v = .ref a ∧ SqT K H a xs ∧ xs.length = n ∧ t xs σ H Q
theorem pg_tup {es : List Expr} {k : Nat} {t : TGs} {n : Nat} (hc : X.calm = true) (h : PGs X es t)
    (hn : (assignEach es X.env).length = n := by rfl) (hst : (assignEach es X.env).findIdx? (·.1) = none := by rfl) : PG X (.Tuple es k pos) (gTup X.K n t) := by
  intro pins s σ H v u Q I r hw
  obtain ⟨a, xs, e1, hq, hl, hw⟩ := hw
  subst e1
  cases r
  obtain ⟨its, rv, ht, hz⟩ := I.tuple hq
  refine assign_Tuple_tuple (I.ok.hd hc) ht (by simp [hn, ← hl, rv.length]) hst fun h' hx => ?_
  have I1 : Inv X pins σ H { s with heap := h' } := I.kept (t' := s.toks) fun b o e => hx b o (Nat.ne_of_lt (Heap.lt_size e)) e
  exact h pins _ σ H xs _ Q I1 (by simpa using rv) hw
def gSub (to ti : TE) (t : TSet) : TG := fun v σ H Q => to σ H fun o H1 => ti σ H1 fun i H2 => t o i v H2 fun H3 => Q σ H3
theorem pg_sub {o i : Expr} {to ti : TE} {t : TSet} (ho : PE X o to) (hi : PE X i ti) (hs : PSet X t)
    (ha : ∀ v, assign (.Subscript o i pos) X.env v = (do
      let ov ← holding [v] (eval o X.env)
      let iv ← holding [v, ov] (eval i X.env)
      standAt pos
      holding [v, ov, iv] (setItem ov iv v)
      release [v, ov, iv] []) := by intro _; rfl) : PG X (.Subscript o i pos) (gSub to ti t) := by
  intro pins s σ H v u Q I r h
  rw [ha]
  refine wpAny_bind (wpAny_holding (thn (ho pins s σ H _ I h) fun ov s1 ⟨x, H1, I1, r1, q1⟩ => ?_))
  refine wpAny_bind (wpAny_holding (thn (hi pins s1 σ H1 _ I1 q1) fun iv s2 ⟨y, H2, I2, r2, q2⟩ => ?_))
  refine wpAny_bind (wpAny_standAt (wpAny_bind (wpAny_holding (thn (hs pins s2 σ H2 x y v ov iv u _ I2 r1 r2 r q2) fun _ s3 ⟨H3, I3, q3⟩ => ?_))))
  exact wpAny_release ⟨σ, H3, I3, q3⟩
def tAsg (te : TE) (g : TG) : TS := fun D σ H => te σ H fun x H1 => g x σ H1 D.nx
theorem ps_asg {tg e : Expr} {te : TE} {g : TG} (he : PE X e te) (hg : PG X tg g) (hs : swapsWithSole [tg] e pos.line X.env = pure false := by rfl) (hw : swappedStores [tg] e X.env = pure none := by rfl)
    (h1 : (assignEach [tg] X.env).map (·.2) = [assign tg X.env] := by rfl) : PS X (.Assign [tg] e pos) (tAsg te g) := by
  intro pins s σ H D I h
  refine wpAny_Assign_stores (thn (he pins s σ H _ I h) fun v s1 ⟨x, H1, I1, r1, q1⟩ => ?_) hs hw
  rw [h1]
  exact thn (hg pins s1 σ H1 x v _ I1 r1 q1) fun _ s2 q => q
theorem ps_set {i : Nat} {x : Str} {e : Expr} {te : TE} {pos' : Pos} (hN : X.N.Nodup) (hi : X.N[i]? = some x) (hx : Loc X.env.scope x) (he : PE X e te) (hs : swapsWith e (some (.Name x pos')) pos.line X.env = pure false := by rfl) (hf : X.fn x = true ∨ X.env.scope.names.lookup x = some .local := by first | exact .inl rfl | exact .inr rfl | assumption) :
    PS X (.Assign [.Name x pos'] e pos) (tAsg te (gName i)) := by
  intro pins s σ H D I h
  refine wpAny_Assign_Name (thn (he pins s σ H _ I h) fun v s1 ⟨y, H1, I1, r1, q1⟩ => ?_) hs
  exact store_ok I1 hN hi hx r1 (fun s2 I2 => ⟨_, H1, I2, q1⟩) hf
def tPar (i j : Nat) (ta : TA) : TS := fun D σ H => ta σ H fun vs H1 => ∃ v w, vs = [v, w] ∧ D.nx ((σ.set i (some v)).set j (some w)) H1
def tAug (i : Nat) (te : TE) (ti : TIp) : TS := fun D σ H => ∃ x, σ[i]? = some (some x) ∧ te σ H fun y H1 => ti x y H1 fun z H2 => D.nx (σ.set i (some z)) H2
def tAugS (to ti te : TE) (tget : V → V → Hp → VK → Prop) (tip : TIp) (tset : TSet) : TS := fun D σ H => to σ H fun o H1 => ti σ H1 fun i H2 => tget o i H2 fun x H3 => te σ H3 fun y H4 => tip x y H4 fun z H5 => tset o i z H5 fun H6 => D.nx σ H6
def PGet (X : Cx) (t : V → V → Hp → VK → Prop) : Prop :=
  ∀ (pins : List (Addr × Obj)) (s : Shared) (σ : St) (H : Hp) (o i : V) (ov iv : Value) (Q : VK), Inv X pins σ H s → RelV o ov → RelV i iv → t o i H Q →
    wpAny (model X.prog X.w) X.A (getItem ov iv) (EP X pins σ Q) X.xe s
def ipI (f : Int → Int → Int) : TIp := fun x y H Q => ∃ i j, x = .int i ∧ y = .int j ∧ Q (.int (f i j)) H
end
section
variable {X : Cx} {pos : Pos}
def tWhile (c : TT) (tb : TS) : TS := fun D σ H => ∃ W : Nat → St → Hp → Prop, (∃ m, W m σ H) ∧ ∀ m σ H, W m σ H →
  c σ H fun b H1 => if b = true then ∃ N : St → Hp → Prop, (∀ σ' H', N σ' H' → ∃ m', m' < m ∧ W m' σ' H') ∧ tb { D with nx := N, ct := N, bk := D.nx } σ H1 else D.nx σ H1
theorem ps_while {c : Expr} {body : List Stmt} {tc : TT} {tb : TS} (hp : PassesOwn (model X.prog X.w) X.A X.env X.xe) (hc : PT X c tc) (hb : PSs X body tb) : PS X (.While c body [] pos) (tWhile tc tb) := by
  intro pins s σ H D I h
  obtain ⟨W, ⟨m0, w0⟩, turn⟩ := h
  refine wpAny_While (codeAny_whileLoop (fun n s' => ∃ σ' H', Inv X pins σ' H' s' ∧ W n σ' H') ?_ m0 ⟨σ, H, I, w0⟩)
  rintro n s1 ⟨σ1, H1, I1, w1⟩
  refine wpAny_passesOwn hp (thn (hc pins s1 σ1 H1 _ I1 (turn n σ1 H1 w1)) fun b s2 ⟨H2, I2, q2⟩ => ?_)
  cases b with
  | true =>
    obtain ⟨N, hN, q2⟩ := q2
    rw [if_pos rfl]
    refine wpAny_passesOwn hp (thn (hb pins s2 σ1 H2 _ I2 q2) fun f s3 q3 => ?_)
    cases f with
    | next =>
      obtain ⟨σ3, H3, I3, n3⟩ := q3
      obtain ⟨m', hm, w3⟩ := hN σ3 H3 n3
      exact ⟨m', hm, σ3, H3, I3, w3⟩
    | cont =>
      obtain ⟨σ3, H3, I3, n3⟩ := q3
      obtain ⟨m', hm, w3⟩ := hN σ3 H3 n3
      exact ⟨m', hm, σ3, H3, I3, w3⟩
    | brk => exact q3
    | ret v => exact q3
  | false =>
    rw [if_neg Bool.false_ne_true]
    exact wpAny_execs_nil ⟨σ1, H2, I2, q2⟩
end
structure It where
  go : Nat → Hp → Prop
  yld : Nat → Hp → V → Hp → Prop
  stop : Nat → Hp → Prop
def FpOk (X : Cx) (pins : List (Addr × Obj)) (H : Hp) (b : Addr) : Prop :=
  H b = none ∧ b ≠ X.env.locals ∧ b ∉ X.fs ∧ (b ∈ X.ex ∨ X.s₀.heap.objs.size ≤ b) ∧ (∀ x c, X.env.cells.lookup x = some c → c ≠ b) ∧ ∀ p ∈ X.pn ++ pins, p.1 ≠ b
theorem Inv.fpOk {X : Cx} {pins : List (Addr × Obj)} {σ : St} {H H' : Hp} {s : Shared} {b : Addr} (I : Inv X pins σ H s) (hb : s.heap.objs.size ≤ b) (hn : H' b = none) : FpOk X pins H' b := by
  refine ⟨hn, Nat.ne_of_gt (Nat.lt_of_lt_of_le I.lt hb), I.nofs hb, .inr (Nat.le_trans I.sz hb), fun x c e z => ?_, fun p hp z => ?_⟩
  · obtain ⟨v, q⟩ := I.cell x c e
    exact absurd (Nat.lt_of_lt_of_le q.lt (by rw [z]; exact hb)) (Nat.lt_irrefl _)
  · exact absurd (Nat.lt_of_lt_of_le (Heap.lt_size (I.pin p hp).1) (by rw [z]; exact hb)) (Nat.lt_irrefl _)
structure Turn (P : Program) (w : World) (K : PySem.W.Frag) (tg : Expr) (J : It) (fp : List Addr) (it : Addr) (tn : Nat → Heap → Prop) : Prop where
  mem : it ∈ fp
  obj : ∀ i h, tn i h → ∀ b ∈ fp, ∃ o, h.get? b = some o ∧ ∀ v, o.data ≠ .cell v
  keep : ∀ i h h', tn i h → (∀ b ∈ fp, ∀ o, h.get? b = some o → h'.get? b = some o) → tn i h'
  item : ∀ (X : Cx), X.prog = P → X.w = w → X.K = K → X.calm = true → ∀ (i : Nat) (pins : List (Addr × Obj)) (s : Shared) (σ : St) (H : Hp) (E : Value → Shared → Prop), Inv X pins σ H s → (∀ b ∈ fp, FpOk X pins H b) → tn i s.heap → J.go i H →
    wpAny (model P w) X.A (pyNext (.ref it)) (fun r s1 => ∃ u, r = some u ∧
      wpAny (model P w) X.A (letOwnedTupleGo tg (.ref it) u) (fun _ s2 => ∃ x H', Inv X pins σ H' s2 ∧ RelV x u ∧ J.yld i H x H' ∧ tn (i + 1) s2.heap ∧ ∀ b ∈ fp, H' b = none) E s1) E s
  done : ∀ (X : Cx), X.prog = P → X.w = w → X.K = K → X.calm = true → ∀ (i : Nat) (pins : List (Addr × Obj)) (s : Shared) (σ : St) (H : Hp) (E : Value → Shared → Prop), Inv X pins σ H s → (∀ b ∈ fp, FpOk X pins H b) → tn i s.heap → J.stop i H →
    wpAny (model P w) X.A (pyNext (.ref it)) (fun r s1 => r = none ∧ Inv X pins σ H s1) E s
  self : ∀ (A : Around) (i : Nat) (s : Shared) (Q : Value → Shared → Prop) (E : Value → Shared → Prop), tn i s.heap → Q (.ref it) s → wpAny (model P w) A (pyIter (.ref it)) Q E s
abbrev TI := St → Hp → (It → Hp → Prop) → Prop
def PIE (X : Cx) (pins : List (Addr × Obj)) (σ : St) (tg : Expr) (R : It → Hp → Prop) (itv : Value) (s2 : Shared) : Prop :=
  ∃ (it : Addr) (fp : List Addr) (tn : Nat → Heap → Prop) (J : It) (H' : Hp), itv = .ref it ∧ Inv X pins σ H' s2 ∧ Turn X.prog X.w X.K tg J fp it tn ∧ tn 0 s2.heap ∧ (∀ b ∈ fp, FpOk X pins H' b) ∧ R J H'
def PI (X : Cx) (tg iter : Expr) (wi : TI) : Prop :=
  ∀ (pins : List (Addr × Obj)) (s : Shared) (σ : St) (H : Hp) (R : It → Hp → Prop), Inv X pins σ H s → wi σ H R →
    wpAny (model X.prog X.w) X.A (eval iter X.env) (fun v s1 => wpAny (model X.prog X.w) X.A (pyIter v) (PIE X pins σ tg R) X.xe s1) X.xe s
theorem go_of {M : Model} {A : Around} {E : Value → Shared → Prop} {s : Shared} {tg : Expr} {it : Addr} {u : Value} {o : Obj} {n : String} {vs : Array Value} {Q : Unit → Shared → Prop} (ho : s.heap.get? it = some o) (hc : o.cls = .type n) (hd : o.data = .fields vs)
    (hn : ["enumerate", "zip", "dict_itemiterator", "dict_reverseitemiterator", "odict_iterator", "itertools.zip_longest", "itertools.pairwise"].contains n = false) (hQ : Q () s) : wpAny M A (letOwnedTupleGo tg (.ref it) u) Q E s := by
  unfold letOwnedTupleGo
  cases tg <;> first
    | exact wpAny_pure hQ
    | (cases u <;> first
        | exact wpAny_pure hQ
        | (refine wpAny_bind (wpAny_load ho ?_)
           rw [hc, hd]
           show wpAny M A (if (["enumerate", "zip", "dict_itemiterator", "dict_reverseitemiterator", "odict_iterator", "itertools.zip_longest", "itertools.pairwise"].contains n && vs[0]? == some (rawInt _)) = true then _ else _) Q E s
           rw [if_neg (by intro h; rw [hn, Bool.false_and] at h; cases h)]
           exact wpAny_pure hQ))
def Itl (K : PySem.W.Frag) (a : Addr) : It :=
  ⟨fun i H => ∃ xs x, SqL K H a xs ∧ xs[i]? = some x, fun i H x H' => H' = H ∧ ∀ xs, SqL K H a xs → xs[i]? = some x, fun i H => ∃ xs, SqL K H a xs ∧ xs.length ≤ i⟩
def Itt (K : PySem.W.Frag) (a : Addr) : It :=
  ⟨fun i H => ∃ xs x, SqT K H a xs ∧ xs[i]? = some x, fun i H x H' => H' = H ∧ ∀ xs, SqT K H a xs → xs[i]? = some x, fun i H => ∃ xs, SqT K H a xs ∧ xs.length ≤ i⟩
def Itr (lo : Int) (n : Nat) : It := ⟨fun i _ => i < n, fun i H x H' => H' = H ∧ x = .int (lo + i), fun i _ => n ≤ i⟩
theorem turn_list {P : Program} {w : World} {K : PySem.W.Frag} {tg : Expr} (a it : Addr) : Turn P w K tg (Itl K a) [it] it (fun i h => h.IsListIter it a i) where
  mem := by simp
  obj := fun i h st b hb => by
    have e : b = it := by simpa using hb
    subst e
    obtain ⟨o, e, c, d⟩ := st
    exact ⟨o, e, fun v z => by rw [d] at z; cases z⟩
  keep := fun i h h' st k => st.at fun o e => k it (by simp) o e
  item := by
    intro X hP hw hK hc i pins s σ H E I hf st hg
    subst hP hw hK
    obtain ⟨xs, x, hq, hx⟩ := hg
    obtain ⟨its, rv, p, hz⟩ := I.list hq
    obtain ⟨u, hu, ru⟩ := rv.get hx
    obtain ⟨f0, f1, f2, f3, f4, f5⟩ := hf it (by simp)
    refine wpAny_pyNext_list_item st p.isList (x := u) (by simpa using hu) fun h' st' sb => ?_
    have I1 : Inv X pins σ H { s with heap := h' } := I.turned (t' := s.toks) (fun b o hb e => (sb.2 b hb).trans e) f0 f1 f3 f4 f5
    obtain ⟨o, e, c, d⟩ := id st'
    exact ⟨u, rfl, go_of (s := { s with heap := h' }) e c d (by decide) ⟨x, H, I1, ru, ⟨rfl, fun ys hy => by rw [I.list_inj hy hq]; exact hx⟩, st', fun b hb => (hf b hb).1⟩⟩
  done := by
    intro X hP hw hK hc i pins s σ H E I hf st hg
    subst hP hw hK
    obtain ⟨xs, hq, hx⟩ := hg
    obtain ⟨its, rv, p, hz⟩ := I.list hq
    obtain ⟨f0, f1, f2, f3, f4, f5⟩ := hf it (by simp)
    have hl := rv.length
    exact wpAny_pyNext_list_end (I.ok.hd hc) st p.isList (by simp; omega) fun h' eb => ⟨rfl, I.turned (t' := s.toks) (fun b o hb e => eb b o hb e) f0 f1 f3 f4 f5⟩
  self := fun _ _ _ _ _ st h => wpAny_pyIter_listiter st h
theorem turn_tuple {P : Program} {w : World} {K : PySem.W.Frag} {tg : Expr} (a it : Addr) : Turn P w K tg (Itt K a) [it] it (fun i h => h.IsTupleIter it a i) where
  mem := by simp
  obj := fun i h st b hb => by
    have e : b = it := by simpa using hb
    subst e
    obtain ⟨o, e, c, d⟩ := st
    exact ⟨o, e, fun v z => by rw [d] at z; cases z⟩
  keep := fun i h h' st k => st.at fun o e => k it (by simp) o e
  item := by
    intro X hP hw hK hc i pins s σ H E I hf st hg
    subst hP hw hK
    obtain ⟨xs, x, hq, hx⟩ := hg
    obtain ⟨its, rv, p, hz⟩ := I.tuple hq
    obtain ⟨u, hu, ru⟩ := rv.get hx
    obtain ⟨f0, f1, f2, f3, f4, f5⟩ := hf it (by simp)
    refine wpAny_pyNext_tuple_item st (show s.heap.IsTuple a its.toArray from p) (x := u) (by simpa using hu) fun h' st' sb => ?_
    have I1 : Inv X pins σ H { s with heap := h' } := I.turned (t' := s.toks) (fun b o hb e => (sb.2 b hb).trans e) f0 f1 f3 f4 f5
    obtain ⟨o, e, c, d⟩ := id st'
    exact ⟨u, rfl, go_of (s := { s with heap := h' }) e c d (by decide) ⟨x, H, I1, ru, ⟨rfl, fun ys hy => by rw [I.tuple_inj hy hq]; exact hx⟩, st', fun b hb => (hf b hb).1⟩⟩
  done := by
    intro X hP hw hK hc i pins s σ H E I hf st hg
    subst hP hw hK
    obtain ⟨xs, hq, hx⟩ := hg
    obtain ⟨its, rv, p, hz⟩ := I.tuple hq
    obtain ⟨f0, f1, f2, f3, f4, f5⟩ := hf it (by simp)
    have hl := rv.length
    exact wpAny_pyNext_tuple_end (I.ok.hd hc) st (show s.heap.IsTuple a its.toArray from p) (by simp; omega) fun h' eb => ⟨rfl, I.turned (t' := s.toks) (fun b o hb e => eb b o hb e) f0 f1 f3 f4 f5⟩
  self := fun _ _ _ _ _ st h => wpAny_pyIter_tupleiter st h
theorem turn_range {P : Program} {w : World} {K : PySem.W.Frag} {tg : Expr} (it : Addr) (lo : Int) (n : Nat) : Turn P w K tg (Itr lo n) [it] it (fun i h => IsRangeIter h it (lo + (i : Nat) * 1) ((n : Int) - (i : Nat)) 1) where
  mem := by simp
  obj := fun i h st b hb => by
    have e : b = it := by simpa using hb
    subst e
    exact ⟨_, st, fun v z => by
      have z' : Data.fields _ = Data.cell v := z
      cases z'⟩
  keep := fun i h h' st k => k it (by simp) _ st
  item := by
    intro X hP hw hK hc i pins s σ H E I hf st hg
    subst hP hw hK
    obtain ⟨f0, f1, f2, f3, f4, f5⟩ := hf it (by simp)
    have W := Walks.range (prog := X.prog) (w := X.w) (I.ok.hd hc) it lo 1 n
    refine W.item i s _ _ hg st fun v h' tk hv st' kk => ?_
    obtain ⟨t, rfl⟩ := hv
    have I1 : Inv X pins σ H { s with heap := h', toks := tk } := I.turned (fun b o hb e => kk b o (by simpa using hb) e) f0 f1 f3 f4 f5
    refine ⟨_, rfl, go_of (s := { s with heap := h', toks := tk }) (n := "range_iterator") st' rfl rfl (by decide) ⟨.int (lo + i), H, I1, ⟨t, ?_⟩, ⟨rfl, rfl⟩, st', fun b hb => (hf b hb).1⟩⟩
    rw [Int.mul_one]
  done := by
    intro X hP hw hK hc i pins s σ H E I hf st hg
    subst hP hw hK
    obtain ⟨f0, f1, f2, f3, f4, f5⟩ := hf it (by simp)
    exact wpAny_pyNext_range_end (I.ok.hd hc) st (by have : n ≤ i := hg; omega) fun h' eb => ⟨rfl, I.turned (t' := s.toks) (fun b o hb e => eb b o hb e) f0 f1 f3 f4 f5⟩
  self := fun _ _ _ _ _ st h => wpAny_pyIter_rangeiter st h
end L2
namespace L2
open PySem PySem.Spec PyProof.Rows
section
variable {X : Cx} {tg : Expr}
def iList (K : PySem.W.Frag) (tl : TE) : TI := fun σ H R => tl σ H fun x H1 => ∃ a, x = .ref a ∧ (∃ xs, SqL K H1 a xs) ∧ R (Itl K a) H1
def iTup (K : PySem.W.Frag) (tl : TE) : TI := fun σ H R => tl σ H fun x H1 => ∃ a, x = .ref a ∧ (∃ xs, SqT K H1 a xs) ∧ R (Itt K a) H1
theorem pi_list {l : Expr} {tl : TE} (hl : PE X l tl) : PI X tg l (iList X.K tl) := by
  intro pins s σ H R I h
  refine thn (hl pins s σ H _ I h) fun v s1 ⟨x, H1, I1, r1, q1⟩ => ?_
  obtain ⟨a, e, ⟨xs, hq⟩, q⟩ := q1
  subst e
  cases r1
  obtain ⟨its, rv, p, hz⟩ := I1.list hq
  refine wpAny_pyIter_list p.isList ?_
  refine ⟨s1.heap.objs.size, [s1.heap.objs.size], _, _, H1, rfl, I1.kept (t' := s1.toks) fun b o e => Heap.get?_push_of_some _ e, turn_list a _, ⟨_, Heap.get?_push_size _ rfl, rfl, rfl⟩, fun b hb => ?_, q⟩
  have e : b = s1.heap.objs.size := by simpa using hb
  subst e
  exact I1.fpOk (Nat.le_refl _) (I1.hok.fresh (Nat.le_refl _))
theorem pi_tup {l : Expr} {tl : TE} (hl : PE X l tl) : PI X tg l (iTup X.K tl) := by
  intro pins s σ H R I h
  refine thn (hl pins s σ H _ I h) fun v s1 ⟨x, H1, I1, r1, q1⟩ => ?_
  obtain ⟨a, e, ⟨xs, hq⟩, q⟩ := q1
  subst e
  cases r1
  obtain ⟨its, rv, p, hz⟩ := I1.tuple hq
  refine wpAny_pyIter_tuple (show s1.heap.IsTuple a its.toArray from p) ?_
  refine ⟨s1.heap.objs.size, [s1.heap.objs.size], _, _, H1, rfl, I1.kept (t' := s1.toks) fun b o e => Heap.get?_push_of_some _ e, turn_tuple a _, ⟨_, Heap.get?_push_size _ rfl, rfl, rfl⟩, fun b hb => ?_, q⟩
  have e : b = s1.heap.objs.size := by simpa using hb
  subst e
  exact I1.fpOk (Nat.le_refl _) (I1.hok.fresh (Nat.le_refl _))
theorem range_it {pins : List (Addr × Obj)} {σ : St} {H : Hp} {s : Shared} {R : It → Hp → Prop} {E : Value → Shared → Prop} {lo hi : Int} {t u v : Tok} {tk : Nat} (I : Inv X pins σ H s) (h1 : -(2 ^ 62) ≤ lo) (h2 : lo < 2 ^ 62) (h3 : -(2 ^ 62) ≤ hi) (h4 : hi < 2 ^ 62)
    (q : R (Itr lo (hi - lo).toNat) H) : wpAny (model X.prog X.w) X.A (pyIter (.ref s.heap.objs.size)) (PIE X pins σ tg R) E { s with heap := s.heap.push { cls := .type "range", data := .fields #[.int lo t, .int hi u, .int 1 v] }, toks := tk } := by
  refine wpAny_pyIter_range (IsRange.new ..) (small_one h1 h2 h3 h4) ?_
  have I1 : Inv X pins σ H { s with heap := s.heap.push { cls := .type "range", data := .fields #[.int lo t, .int hi u, .int 1 v] }, toks := tk } := I.kept fun b o e => Heap.get?_push_of_some _ e
  refine ⟨(s.heap.push { cls := .type "range", data := .fields #[.int lo t, .int hi u, .int 1 v] }).objs.size, [(s.heap.push { cls := .type "range", data := .fields #[.int lo t, .int hi u, .int 1 v] }).objs.size], _, _, H, rfl,
    I1.kept (t' := tk) fun b o e => Heap.get?_push_of_some _ e, turn_range _ lo (hi - lo).toNat, ?_, fun b hb => ?_, q⟩
  · have e1 : lo + ((0 : Nat) : Int) * 1 = lo := by simp
    have e2 : (((hi - lo).toNat : Nat) : Int) - ((0 : Nat) : Int) = Builtin.Range.rangeSize lo hi 1 := by rw [rangeSize_one]; split <;> omega
    show IsRangeIter _ _ (lo + ((0 : Nat) : Int) * 1) ((((hi - lo).toNat : Nat) : Int) - ((0 : Nat) : Int)) 1
    rw [e1, e2]
    exact Heap.get?_push_size _ rfl
  · have e : b = (s.heap.push { cls := .type "range", data := .fields #[.int lo t, .int hi u, .int 1 v] }).objs.size := by simpa using hb
    subst e
    exact I1.fpOk (Nat.le_refl _) (I1.hok.fresh (Nat.le_refl _))
def iRng1 (ta : TA) : TI := fun σ H R => ta σ H fun vs H1 => ∃ j : Int, vs = [.int j] ∧ -(2 ^ 62) ≤ j ∧ j < 2 ^ 62 ∧ R (Itr 0 j.toNat) H1
def iRng2 (ta : TA) : TI := fun σ H R => ta σ H fun vs H1 => ∃ i j : Int, vs = [.int i, .int j] ∧ (-(2 ^ 62) ≤ i ∧ i < 2 ^ 62 ∧ -(2 ^ 62) ≤ j ∧ j < 2 ^ 62) ∧ R (Itr i (j - i).toNat) H1
theorem pi_range1 {a : Expr} {ta : TA} {p pos : Pos} (hg : Gl X "range") (hm : X.mg "range" = none) (ha : PA X [a] ta) (hs : starEach [a] X.env = [(false, eval a X.env)] := by rfl) : PI X tg (.Call (.Name "range" p) [a] [] pos) (iRng1 ta) := by
  intro pins s σ H R I h
  refine Call_ (ld_blt I hg hm boot_range (PyProof.Rows.callWith_type1 (thn (ha pos pins s σ H _ I h) fun us s1 ⟨vs, H1, I1, r1, q1⟩ => ?_) hs rfl))
  obtain ⟨j, e, q1, q2, q⟩ := q1
  subst e
  cases r1 with
  | cons r rr =>
    cases rr
    obtain ⟨t, rfl⟩ := r
    exact call_range_1 (range_it I1 (by omega) (by omega) q1 q2 (by simpa using q))
def tFor (wi : TI) (g : TG) (tb : TS) : TS := fun D σ H => wi σ H fun J H1 => ∃ W : Nat → Nat → St → Hp → Prop, (∃ m, W 0 m σ H1) ∧ ∀ i m σ H, W i m σ H →
  (J.stop i H ∧ D.nx σ H) ∨ (J.go i H ∧ ∃ N : St → Hp → Prop, (∀ σ' H', N σ' H' → ∃ m', m' < m ∧ W (i + 1) m' σ' H') ∧ ∀ x H', J.yld i H x H' → g x σ H' fun σ2 H2 => tb { D with nx := N, ct := N, bk := D.nx } σ2 H2)
def pinsAt (fp : List Addr) (h : Heap) : List (Addr × Obj) := fp.filterMap fun b => (h.get? b).map fun o => (b, o)
theorem mem_pinsAt {fp : List Addr} {h : Heap} {b : Addr} {o : Obj} (hb : b ∈ fp) (e : h.get? b = some o) : (b, o) ∈ pinsAt fp h := List.mem_filterMap.mpr ⟨b, hb, by rw [e]; rfl⟩
theorem of_pinsAt {fp : List Addr} {h : Heap} {p : Addr × Obj} (hp : p ∈ pinsAt fp h) : p.1 ∈ fp ∧ h.get? p.1 = some p.2 := by
  obtain ⟨b, hb, e⟩ := List.mem_filterMap.mp hp
  cases q : h.get? b with
  | none => rw [q] at e; cases e
  | some o =>
    rw [q] at e
    have e' : (b, o) = p := Option.some.inj e
    subst e'
    exact ⟨hb, q⟩
theorem Inv.pinned {pins : List (Addr × Obj)} {σ : St} {H : Hp} {s : Shared} {fp : List Addr} (I : Inv X pins σ H s) (hf : ∀ b ∈ fp, FpOk X pins H b) (ho : ∀ b ∈ fp, ∃ o, s.heap.get? b = some o ∧ ∀ v, o.data ≠ .cell v) : Inv X (pins ++ pinsAt fp s.heap) σ H s :=
  I.pins_of fun p hp => (List.mem_append.mp hp).elim (fun z => I.pin p (List.mem_append_right _ z)) fun z => by
    obtain ⟨hb, e⟩ := of_pinsAt z
    obtain ⟨f0, f1, f2, _⟩ := hf p.1 hb
    obtain ⟨o, e', d⟩ := ho p.1 hb
    rw [e] at e'; cases e'
    exact ⟨e, f0, f1, f2, d⟩
theorem Inv.unpinned {pins pl : List (Addr × Obj)} {σ : St} {H : Hp} {s : Shared} (I : Inv X (pins ++ pl) σ H s) : Inv X pins σ H s := I.pins_of fun p hp => I.pin p (List.mem_append_right _ (List.mem_append_left _ hp))
theorem ps_for {iter : Expr} {body : List Stmt} {wi : TI} {g : TG} {tb : TS} {pos : Pos} (hp : PassesOwn (model X.prog X.w) X.A X.env X.xe) (hc : X.calm = true) (hi : PI X tg iter wi) (hg : PG X tg g) (hb : PSs X body tb)
    (hs : ∀ x, foldedSetIterable iter X.env x = pure x := by intro _; rfl) : PS X (.For tg iter body [] pos) (tFor wi g tb) := by
  intro pins s σ H D I h
  refine wpAny_For (thn (hi pins s σ H _ I h) fun v s1 h1 => thn h1 fun itv s2 h2 => ?_) hs
  obtain ⟨it, fp, tn, J, H2, e, I2, T, st2, f2, W, ⟨m0, w0⟩, turn⟩ := h2
  subst e
  have stat : ∀ {H' : Hp}, (∀ b ∈ fp, H' b = none) → ∀ b ∈ fp, FpOk X pins H' b := fun hn b hb => ⟨hn b hb, (f2 b hb).2⟩
  refine codeAny_forLoop_any (fun n s' => ∃ i σ' H', Inv X pins σ' H' s' ∧ tn i s'.heap ∧ (∀ b ∈ fp, H' b = none) ∧ W i n σ' H') ?_ m0 ⟨0, σ, H2, I2, st2, fun b hb => (f2 b hb).1, w0⟩
  rintro n s3 ⟨i, σ3, H3, I3, st3, fr3, w3⟩
  rcases turn i n σ3 H3 w3 with ⟨stop, qn⟩ | ⟨go, N, hN, step⟩
  · refine wpAny_passesOwn hp (thn (T.done X rfl rfl rfl hc i pins s3 σ3 H3 X.xe I3 (stat fr3) st3 stop) fun r s4 ⟨hr, I4⟩ => ?_)
    subst hr
    exact wpAny_execs_nil ⟨σ3, H3, I4, qn⟩
  · refine wpAny_passesOwn hp (thn (T.item X rfl rfl rfl hc i pins s3 σ3 H3 X.xe I3 (stat fr3) st3 go) fun r s4 ⟨u, hr, h4⟩ => ?_)
    subst hr
    refine wpAny_passesOwn hp (thn h4 fun _ s5 ⟨x, H5, I5, r5, y5, st5, fr5⟩ => ?_)
    have I5' := I5.pinned (stat fr5) (T.obj _ _ st5)
    refine wpAny_passesOwn hp (thn (hg _ s5 σ3 H5 x u _ I5' r5 (step x H5 y5)) fun _ s6 ⟨σ6, H6, I6, q6⟩ => ?_)
    refine wpAny_passesOwn hp (thn (hb _ s6 σ6 H6 _ I6 q6) fun f s7 q7 => ?_)
    have again : ∀ {σ7 : St} {H7 : Hp}, Inv X (pins ++ pinsAt fp s5.heap) σ7 H7 s7 → N σ7 H7 → ∃ m, m < n ∧ ∃ i σ' H', Inv X pins σ' H' s7 ∧ tn i s7.heap ∧ (∀ b ∈ fp, H' b = none) ∧ W i m σ' H' := fun {σ7 H7} I7 n7 => by
      obtain ⟨m', hm, w7⟩ := hN σ7 H7 n7
      refine ⟨m', hm, i + 1, σ7, H7, I7.unpinned, T.keep _ _ _ st5 fun b hb o e => (I7.pin (b, o) (List.mem_append_right _ (List.mem_append_right _ (mem_pinsAt hb e)))).1, fun b hb => ?_, w7⟩
      obtain ⟨o, e, d⟩ := T.obj _ _ st5 b hb
      exact (I7.pin (b, o) (List.mem_append_right _ (List.mem_append_right _ (mem_pinsAt hb e)))).2.1
    cases f with
    | next => obtain ⟨σ7, H7, I7, n7⟩ := q7; exact again I7 n7
    | cont => obtain ⟨σ7, H7, I7, n7⟩ := q7; exact again I7 n7
    | brk => obtain ⟨σ7, H7, I7, q7⟩ := q7; exact ⟨σ7, H7, I7.unpinned, q7⟩
    | ret v => obtain ⟨x7, σ7, H7, I7, r7, q7⟩ := q7; exact ⟨x7, σ7, H7, I7.unpinned, r7, q7⟩
end
theorem for_list {K : PySem.W.Frag} {a : Addr} {xs : List V} {g : TG} {tb : TS} {D : Ends} {σ : St} {H : Hp} (Pv : Nat → St → Hp → Prop) (h0 : Pv 0 σ H) (hl : ∀ i σ H, i ≤ xs.length → Pv i σ H → SqL K H a xs)
    (hs : ∀ i x σ H, xs[i]? = some x → Pv i σ H → g x σ H fun σ2 H2 => tb { D with nx := Pv (i + 1), ct := Pv (i + 1), bk := D.nx } σ2 H2) (hd : ∀ σ H, Pv xs.length σ H → D.nx σ H) :
    ∃ W : Nat → Nat → St → Hp → Prop, (∃ m, W 0 m σ H) ∧ ∀ i m σ H, W i m σ H →
      ((Itl K a).stop i H ∧ D.nx σ H) ∨ ((Itl K a).go i H ∧ ∃ N : St → Hp → Prop, (∀ σ' H', N σ' H' → ∃ m', m' < m ∧ W (i + 1) m' σ' H') ∧ ∀ x H', (Itl K a).yld i H x H' → g x σ H' fun σ2 H2 => tb { D with nx := N, ct := N, bk := D.nx } σ2 H2) := by
  refine ⟨fun i m σ H => m = xs.length - i ∧ i ≤ xs.length ∧ Pv i σ H, ⟨xs.length, by simp, Nat.zero_le _, h0⟩, ?_⟩
  rintro i m σ H ⟨rfl, hi, p⟩
  have q := hl i σ H hi p
  by_cases hlt : i < xs.length
  · refine .inr ⟨⟨xs, xs[i], q, by simp [hlt]⟩, Pv (i + 1), fun σ' H' p' => ⟨xs.length - (i + 1), by omega, rfl, hlt, p'⟩, fun x H' y => ?_⟩
    obtain ⟨e, y⟩ := y
    subst e
    exact hs i x σ _ (y xs q) p
  · have e : i = xs.length := by omega
    subst e
    exact .inl ⟨⟨xs, q, Nat.le_refl _⟩, hd σ H p⟩
theorem for_range {lo : Int} {n : Nat} {g : TG} {tb : TS} {D : Ends} {σ : St} {H : Hp} (Pv : Nat → St → Hp → Prop) (h0 : Pv 0 σ H)
    (hs : ∀ i σ H, i < n → Pv i σ H → g (.int (lo + i)) σ H fun σ2 H2 => tb { D with nx := Pv (i + 1), ct := Pv (i + 1), bk := D.nx } σ2 H2) (hd : ∀ σ H, Pv n σ H → D.nx σ H) :
    ∃ W : Nat → Nat → St → Hp → Prop, (∃ m, W 0 m σ H) ∧ ∀ i m σ H, W i m σ H →
      ((Itr lo n).stop i H ∧ D.nx σ H) ∨ ((Itr lo n).go i H ∧ ∃ N : St → Hp → Prop, (∀ σ' H', N σ' H' → ∃ m', m' < m ∧ W (i + 1) m' σ' H') ∧ ∀ x H', (Itr lo n).yld i H x H' → g x σ H' fun σ2 H2 => tb { D with nx := N, ct := N, bk := D.nx } σ2 H2) := by
  refine ⟨fun i m σ H => m = n - i ∧ i ≤ n ∧ Pv i σ H, ⟨n, by simp, Nat.zero_le _, h0⟩, ?_⟩
  rintro i m σ H ⟨rfl, hi, p⟩
  by_cases hlt : i < n
  · refine .inr ⟨hlt, Pv (i + 1), fun σ' H' p' => ⟨n - (i + 1), by omega, rfl, hlt, p'⟩, fun x H' y => ?_⟩
    obtain ⟨e, y⟩ := y
    subst e y
    exact hs i σ _ hlt p
  · have e : i = n := by omega
    subst e
    exact .inl ⟨Nat.le_refl _, hd σ H p⟩
end L2
namespace L2
open PySem PySem.Spec PyProof.Rows
abbrev R2 := V → V → Hp → VK → Prop
def OpR (X : Cx) (f : Value → Value → Sem Value) (r : R2) : Prop :=
  ∀ (pins : List (Addr × Obj)) (s : Shared) (σ : St) (H : Hp) (x y : V) (v u : Value) (Q : VK), Inv X pins σ H s → RelV x v → RelV y u → r x y H Q →
    wpAny (model X.prog X.w) X.A (f v u) (EP X pins σ Q) X.xe s
def UnR (X : Cx) (f : Value → Sem Value) (r : V → Hp → VK → Prop) : Prop :=
  ∀ (pins : List (Addr × Obj)) (s : Shared) (σ : St) (H : Hp) (x : V) (v : Value) (Q : VK), Inv X pins σ H s → RelV x v → r x H Q →
    wpAny (model X.prog X.w) X.A (f v) (EP X pins σ Q) X.xe s
def CallR (X : Cx) (f : Value) (r : List V → Hp → VK → Prop) : Prop :=
  ∀ (pins : List (Addr × Obj)) (s : Shared) (σ : St) (H : Hp) (xs : List V) (us : List Value) (Q : VK), Inv X pins σ H s → Vals xs us → r xs H Q →
    wpAny (model X.prog X.w) X.A (call f us) (EP X pins σ Q) X.xe s
def TruR (X : Cx) (r : V → Hp → (Bool → Hp → Prop) → Prop) : Prop :=
  ∀ (pins : List (Addr × Obj)) (s : Shared) (σ : St) (H : Hp) (x : V) (v : Value) (Q : Bool → Hp → Prop), Inv X pins σ H s → RelV x v → r x H Q →
    wpAny (model X.prog X.w) X.A (truthy v) (TP X pins σ Q) X.xe s
def tOp (r : R2) (ta tb : TE) : TE := fun σ H Q => ta σ H fun x H1 => tb σ H1 fun y H2 => r x y H2 Q
def tUn (r : V → Hp → VK → Prop) (ta : TE) : TE := fun σ H Q => ta σ H fun x H1 => r x H1 Q
def rI (C : Int → Int → Prop) (g : Int → Int → V) : R2 := fun x y H Q => ∃ i j, x = .int i ∧ y = .int j ∧ C i j ∧ Q (g i j) H
def rI0 (g : Int → Int → V) : R2 := fun x y H Q => ∃ i j, x = .int i ∧ y = .int j ∧ Q (g i j) H
def rU (g : Int → V) : V → Hp → VK → Prop := fun x H Q => ∃ i, x = .int i ∧ Q (g i) H
section
variable {X : Cx} {a b c : Expr} {ta tb tc : TE} {pos : Pos}
theorem binT (ha : PE X a ta) (hb : PE X b tb) {pins : List (Addr × Obj)} {s : Shared} {σ : St} {H : Hp} {R : V → V → Hp → Prop} (I : Inv X pins σ H s)
    (h : ta σ H fun x H1 => tb σ H1 fun y H2 => R x y H2) {Q : Value → Shared → Prop} {f : Value → Value → Sem Value}
    (hf : ∀ v u s2 x y H2, Inv X pins σ H2 s2 → RelV x v → RelV y u → R x y H2 → wpAny (model X.prog X.w) X.A (f v u) Q X.xe s2) :
    wpAny (model X.prog X.w) X.A (eval a X.env) (fun v s₁ => wpAny (model X.prog X.w) X.A (eval b X.env) (fun u s₂ => wpAny (model X.prog X.w) X.A (f v u) Q X.xe s₂) X.xe s₁) X.xe s := by
  refine thn (ha pins s σ H _ I h) fun v s1 ⟨x, H1, I1, r1, q1⟩ => ?_
  refine thn (hb pins s1 σ H1 _ I1 q1) fun u s2 ⟨y, H2, I2, r2, q2⟩ => ?_
  exact hf v u s2 x y H2 I2 r1 r2 q2
theorem pe_op {op : Operator} {r : R2} (ho : OpR X (binaryOp op) r) (ha : PE X a ta) (hb : PE X b tb) : PE X (.BinOp a op b pos) (tOp r ta tb) := by
  intro pins s σ H Q I h
  exact wpAny_BinOp (binT ha hb I h fun v u s2 x y H2 I2 rx ry q => ho pins s2 σ H2 x y v u Q I2 rx ry q)
theorem pe_un {op : UnaryOp} {r : V → Hp → VK → Prop} (ho : UnR X (unaryOp op) r) (ha : PE X a ta) : PE X (.UnaryOp op a pos) (tUn r ta) := by
  intro pins s σ H Q I h
  exact UnaryOp_ (thn (ha pins s σ H _ I h) fun v s1 ⟨x, H1, I1, r1, q1⟩ => ho pins s1 σ H1 x v Q I1 r1 q1)
theorem opI {f : Value → Value → Sem Value} {C : Int → Int → Prop} {g : Int → Int → Int}
    (rule : ∀ (i j : Int) (t u : Tok) (s : Shared) (Q : Value → Shared → Prop) (E : Value → Shared → Prop), C i j → Q (.int (g i j) s.toks) { s with toks := s.toks + 1 } → wpAny (model X.prog X.w) X.A (f (.int i t) (.int j u)) Q E s) :
    OpR X f (rI C fun i j => .int (g i j)) := by
  intro pins s σ H x y v u Q I rx ry h
  obtain ⟨i, j, rfl, rfl, hc, q⟩ := h
  obtain ⟨t, rfl⟩ := rx
  obtain ⟨t', rfl⟩ := ry
  exact rule i j t t' s _ _ hc ⟨.int (g i j), H, I.tok _, ⟨_, rfl⟩, q⟩
theorem opI0 {f : Value → Value → Sem Value} {g : Int → Int → Int}
    (rule : ∀ (i j : Int) (t u : Tok) (s : Shared) (Q : Value → Shared → Prop) (E : Value → Shared → Prop), Q (.int (g i j) s.toks) { s with toks := s.toks + 1 } → wpAny (model X.prog X.w) X.A (f (.int i t) (.int j u)) Q E s) :
    OpR X f (rI0 fun i j => .int (g i j)) := by
  intro pins s σ H x y v u Q I rx ry h
  obtain ⟨i, j, rfl, rfl, q⟩ := h
  obtain ⟨t, rfl⟩ := rx
  obtain ⟨t', rfl⟩ := ry
  exact rule i j t t' s _ _ ⟨.int (g i j), H, I.tok _, ⟨_, rfl⟩, q⟩
theorem opB0 {f : Value → Value → Sem Value} {g : Int → Int → Bool}
    (rule : ∀ (i j : Int) (t u : Tok) (s : Shared) (Q : Value → Shared → Prop) (E : Value → Shared → Prop), Q (.bool (g i j)) s → wpAny (model X.prog X.w) X.A (f (.int i t) (.int j u)) Q E s) :
    OpR X f (rI0 fun i j => .bl (g i j)) := by
  intro pins s σ H x y v u Q I rx ry h
  obtain ⟨i, j, rfl, rfl, q⟩ := h
  obtain ⟨t, rfl⟩ := rx
  obtain ⟨t', rfl⟩ := ry
  exact rule i j t t' s _ _ ⟨.bl (g i j), H, I, rfl, q⟩
def CDiv (i j : Int) : Prop := 0 < j ∧ j < 1073741824
def CDivN (i j : Int) : Prop := j ≠ 0 ∧ j.natAbs < 1073741824
def CPow (i j : Int) : Prop := 0 ≤ j ∧ j ≤ 1000000 ∧ i.natAbs < 2 ^ 64
def CMul (i j : Int) : Prop := (-(2 ^ 64) < i ∧ i < 2 ^ 64) ∨ (-(2 ^ 64) < j ∧ j < 2 ^ 64)
theorem CMul.ok {i j : Int} (h : CMul i j) : IntMulOk i j := by
  rcases h with ⟨h1, h2⟩ | ⟨h1, h2⟩
  · exact .of_left (intBits_le_64 h1 h2)
  · exact .of_right (intBits_le_64 h1 h2)
theorem op_add : OpR X (binaryOp .Add) (rI0 fun i j => .int (i + j)) := opI0 fun _ _ _ _ _ _ _ q => add_int q
theorem op_sub : OpR X (binaryOp .Sub) (rI0 fun i j => .int (i - j)) := opI0 fun _ _ _ _ _ _ _ q => sub_int q
theorem op_mul : OpR X (binaryOp .Mult) (rI CMul fun i j => .int (i * j)) := opI fun _ _ _ _ _ _ _ hc q => mul_int q hc.ok
theorem op_mod : OpR X (binaryOp .Mod) (rI (fun _ j => 0 < j) fun i j => .int (i % j)) := opI fun i j _ _ _ _ _ hc q => by
  have h1 : (0 : Int) < j := hc
  exact mod_int' (by omega) (by rw [Int.fmod_eq_emod_of_nonneg i (by omega)]; exact q)
theorem op_shl : OpR X (binaryOp .LShift) (rI CPow fun i j => .int (i * 2 ^ j.toNat)) := opI fun _ _ _ _ _ _ _ hc q => lshift_int_small hc.1 hc.2.1 hc.2.2 q
theorem unI {f : Value → Sem Value} {g : Int → Int}
    (rule : ∀ (i : Int) (t : Tok) (s : Shared) (Q : Value → Shared → Prop) (E : Value → Shared → Prop), Q (.int (g i) s.toks) { s with toks := s.toks + 1 } → wpAny (model X.prog X.w) X.A (f (.int i t)) Q E s) :
    UnR X f (rU fun i => .int (g i)) := by
  intro pins s σ H x v Q I rx h
  obtain ⟨i, rfl, q⟩ := h
  obtain ⟨t, rfl⟩ := rx
  exact rule i t s _ _ ⟨.int (g i), H, I.tok _, ⟨_, rfl⟩, q⟩
theorem un_neg : UnR X (unaryOp .USub) (rU fun i => .int (-i)) := unI fun _ _ _ _ _ q => neg_int q
end
def scal : V → V → Bool
  | .non, .non => true | .non, .int _ => true | .int _, .non => true | .non, .bl _ => true | .bl _, .non => true | .non, .str _ => true | .str _, .non => true
  | .int _, .int _ => true | .bl _, .bl _ => true | .str _, .str _ => true | .byt _, .byt _ => true
  | .int _, .str _ => true | .str _, .int _ => true | .bl _, .str _ => true | .str _, .bl _ => true
  | _, _ => false
def rEq : R2 := fun x y H Q => scal x y = true ∧ Q (.bl (decide (x = y))) H
def rNe : R2 := fun x y H Q => scal x y = true ∧ Q (.bl (!decide (x = y))) H
theorem dec_int {i j : Int} : decide (V.int i = V.int j) = (i == j) := by
  rw [Bool.eq_iff_iff]
  simp
theorem dec_bl {i j : Bool} : decide (V.bl i = V.bl j) = (i == j) := by
  rw [Bool.eq_iff_iff]
  simp
theorem dec_str {i j : Str} : decide (V.str i = V.str j) = (i == j) := by
  rw [Bool.eq_iff_iff]
  simp
theorem dec_byt {i j : Array UInt8} : decide (V.byt i = V.byt j) = (i.toList == j.toList) := by
  rw [Bool.eq_iff_iff]
  cases i
  cases j
  simp
section
variable {X : Cx} {a b c : Expr} {ta tb tc : TE} {pos : Pos}
theorem fin_bl {pins : List (Addr × Obj)} {σ : St} {H : Hp} {s : Shared} {Q : VK} {k k' : Bool} (I : Inv X pins σ H s) (q : Q (.bl k) H) (e : k = k') : EP X pins σ Q (.bool k') s := by
  subst e
  exact ⟨.bl k, H, I, rfl, q⟩
theorem op_eq : OpR X (compareOp .Eq) rEq := by
  intro pins s σ H x y v u Q I rx ry h
  obtain ⟨hs, q⟩ := h
  cases x with
  | non =>
    cases rx
    cases y with
    | non => cases ry; exact PySem.EqNone.eq_none_none (fin_bl I q (by simp))
    | bl j => cases ry; exact PySem.EqNone.eq_none_bool (fin_bl I q (by simp))
    | int j => obtain ⟨t', rfl⟩ := ry; exact PySem.EqNone.eq_none_int (fin_bl I q (by simp))
    | str j => obtain ⟨t', rfl⟩ := ry; exact PySem.EqNone.eq_none_str (fin_bl I q (by simp))
    | _ => exact absurd (show false = true from hs) Bool.false_ne_true
  | bl i =>
    cases rx
    cases y with
    | non => cases ry; exact PySem.EqNone.eq_bool_none (fin_bl I q (by simp))
    | bl j => cases ry; exact eq_bool (fin_bl I q dec_bl)
    | str j => obtain ⟨t', rfl⟩ := ry; exact PySem.EqMixed.eq_bool_str (fin_bl I q (by simp))
    | _ => exact absurd (show false = true from hs) Bool.false_ne_true
  | int i =>
    obtain ⟨t, rfl⟩ := rx
    cases y with
    | non => cases ry; exact PySem.EqNone.eq_int_none (fin_bl I q (by simp))
    | int j => obtain ⟨t', rfl⟩ := ry; exact eq_int (fin_bl I q dec_int)
    | str j => obtain ⟨t', rfl⟩ := ry; exact PySem.EqMixed.eq_int_str (fin_bl I q (by simp))
    | _ => exact absurd (show false = true from hs) Bool.false_ne_true
  | str i =>
    obtain ⟨t, rfl⟩ := rx
    cases y with
    | non => cases ry; exact PySem.EqNone.eq_str_none (fin_bl I q (by simp))
    | bl j => cases ry; exact PySem.EqMixed.eq_str_bool (fin_bl I q (by simp))
    | int j => obtain ⟨t', rfl⟩ := ry; exact PySem.EqMixed.eq_str_int (fin_bl I q (by simp))
    | str j => obtain ⟨t', rfl⟩ := ry; exact eq_str (fin_bl I q dec_str)
    | _ => exact absurd (show false = true from hs) Bool.false_ne_true
  | byt i =>
    obtain ⟨t, rfl⟩ := rx
    cases y with
    | byt j => obtain ⟨t', rfl⟩ := ry; exact PySem.W.eq_bytes (fin_bl I q dec_byt)
    | _ => exact absurd (show false = true from hs) Bool.false_ne_true
  | _ => cases y <;> exact absurd (show false = true from hs) Bool.false_ne_true
theorem op_ne : OpR X (compareOp .NotEq) rNe := by
  intro pins s σ H x y v u Q I rx ry h
  obtain ⟨hs, q⟩ := h
  cases x with
  | non =>
    cases rx
    cases y with
    | non => cases ry; exact PySem.EqNone.ne_none_none (fin_bl I q (by simp))
    | bl j => cases ry; exact PySem.EqNone.ne_none_bool (fin_bl I q (by simp))
    | int j => obtain ⟨t', rfl⟩ := ry; exact PySem.EqNone.ne_none_int (fin_bl I q (by simp))
    | str j => obtain ⟨t', rfl⟩ := ry; exact PySem.EqNone.ne_none_str (fin_bl I q (by simp))
    | _ => exact absurd (show false = true from hs) Bool.false_ne_true
  | bl i =>
    cases rx
    cases y with
    | non => cases ry; exact PySem.EqNone.ne_bool_none (fin_bl I q (by simp))
    | bl j => cases ry; exact ne_bool (fin_bl I q (congrArg not dec_bl))
    | str j => obtain ⟨t', rfl⟩ := ry; exact PySem.EqMixed.ne_bool_str (fin_bl I q (by simp))
    | _ => exact absurd (show false = true from hs) Bool.false_ne_true
  | int i =>
    obtain ⟨t, rfl⟩ := rx
    cases y with
    | non => cases ry; exact PySem.EqNone.ne_int_none (fin_bl I q (by simp))
    | int j => obtain ⟨t', rfl⟩ := ry; exact ne_int (fin_bl I q (congrArg not dec_int))
    | str j => obtain ⟨t', rfl⟩ := ry; exact PySem.EqMixed.ne_int_str (fin_bl I q (by simp))
    | _ => exact absurd (show false = true from hs) Bool.false_ne_true
  | str i =>
    obtain ⟨t, rfl⟩ := rx
    cases y with
    | non => cases ry; exact PySem.EqNone.ne_str_none (fin_bl I q (by simp))
    | bl j => cases ry; exact PySem.EqMixed.ne_str_bool (fin_bl I q (by simp))
    | int j => obtain ⟨t', rfl⟩ := ry; exact PySem.EqMixed.ne_str_int (fin_bl I q (by simp))
    | str j => obtain ⟨t', rfl⟩ := ry; exact ne_str (fin_bl I q (congrArg not dec_str))
    | _ => exact absurd (show false = true from hs) Bool.false_ne_true
  | byt i =>
    obtain ⟨t, rfl⟩ := rx
    cases y with
    | byt j => obtain ⟨t', rfl⟩ := ry; exact PySem.W.ne_bytes (fin_bl I q (congrArg not dec_byt))
    | _ => exact absurd (show false = true from hs) Bool.false_ne_true
  | _ => cases y <;> exact absurd (show false = true from hs) Bool.false_ne_true
theorem op_lt : OpR X (compareOp .Lt) (rI0 fun i j => .bl (decide (i < j))) := opB0 fun _ _ _ _ _ _ _ q => lt_int q
theorem op_le : OpR X (compareOp .LtE) (rI0 fun i j => .bl (decide (i ≤ j))) := opB0 fun _ _ _ _ _ _ _ q => le_int q
theorem op_gt : OpR X (compareOp .Gt) (rI0 fun i j => .bl (decide (j < i))) := opB0 fun _ _ _ _ _ _ _ q => gt_int q
theorem op_isN : OpR X (compareOp .Is) (fun x y H Q => y = .non ∧ Q (.bl (decide (x = .non))) H) := by
  intro pins s σ H x y v u Q I rx ry h
  obtain ⟨rfl, q⟩ := h
  cases ry
  refine is_none_gen (fin_bl I q ?_)
  cases x <;> first
    | (cases rx; rfl)
    | (obtain ⟨t, rfl⟩ := rx; rfl)
def isObj : HO → Bool
  | .lst _ => true
  | .ins _ _ _ => true
  | _ => false
theorem nomark (b : Expr) {op : CmpOp} (h : op ≠ .In := by decide) (h2 : op ≠ .NotIn := by decide) : behindInMarks op b = false := by
  have e1 : (op == CmpOp.In) = false := by cases op <;> first | rfl | exact absurd rfl h
  have e2 : (op == CmpOp.NotIn) = false := by cases op <;> first | rfl | exact absurd rfl h2
  cases b <;> simp [behindInMarks, e1, e2]
theorem pe_cmpR {op : CmpOp} {r : R2} (ho : OpR X (compareOp op) r) (ha : PE X a ta) (hb : PE X b tb) (hm : behindInMarks op b = false) : PE X (.Compare a [op] [b] pos) (tOp r ta tb) := by
  intro pins s σ H Q I h
  exact wpAny_Compare1 (binT ha hb I h fun v u s2 x y H2 I2 rx ry q => ho pins s2 σ H2 x y v u Q I2 rx ry q) hm
def tTest (t : TE) : TT := fun σ H Q => t σ H fun x H' => ∃ k, x = .bl k ∧ Q k H'
theorem pt_cmpR {op : CmpOp} {r : R2} (ho : OpR X (compareOp op) r) (ha : PE X a ta) (hb : PE X b tb) (hm : behindInMarks op b = false) : PT X (.Compare a [op] [b] pos) (tTest (tOp r ta tb)) := by
  intro pins s σ H Q I h
  refine wpAny_isTrue_Compare1 (thn (ha pins s σ H _ I h) fun v s1 ⟨x, H1, I1, r1, q1⟩ => thn (hb pins s1 σ H1 _ I1 q1) fun u s2 ⟨y, H2, I2, r2, q2⟩ =>
    thn (ho pins s2 σ H2 x y v u _ I2 r1 r2 q2) fun c s3 ⟨z, H3, I3, r3, k, e, q3⟩ => ?_) hm
  subst e
  cases r3
  exact wpAny_truthy_bool ⟨H3, I3, q3⟩
def tChain (r r' : R2) (ta tb tc : TE) : TE := fun σ H Q => ta σ H fun x H1 => tb σ H1 fun y H2 => r x y H2 fun z H3 => ∃ k, z = .bl k ∧
  (if k = true then tc σ H3 fun w' H4 => r' y w' H4 Q else Q (.bl false) H3)
theorem pe_chain {op op' : CmpOp} {r r' : R2} (ho : OpR X (compareOp op) r) (ho' : OpR X (compareOp op') r') (ha : PE X a ta) (hb : PE X b tb) (hc : PE X c tc)
    (hm : lastMarks [op, op'] [b, c] = false := by with_unfolding_all rfl) : PE X (.Compare a [op, op'] [b, c] pos) (tChain r r' ta tb tc) := by
  intro pins s σ H Q I h
  refine Compare_chain (thn (ha pins s σ H _ I h) fun v s1 ⟨x, H1, I1, r1, q1⟩ => chain_link (thn (hb pins s1 σ H1 _ I1 q1) fun u s2 ⟨y, H2, I2, r2, q2⟩ =>
    thn (ho pins s2 σ H2 x y v u _ I2 r1 r2 q2) fun d s3 ⟨z, H3, I3, r3, k, e, q3⟩ => ?_)) hm
  subst e
  cases r3
  refine wpAny_truthy_bool ?_
  cases k with
  | false => exact ite_ff ⟨.bl false, H3, I3, rfl, q3⟩
  | true => exact ite_tt (chain_last (thn (hc pins s3 σ H3 _ I3 q3) fun w' s4 ⟨z', H4, I4, r4, q4⟩ => ho' pins s4 σ H4 y z' u w' Q I4 r2 r4 q4))
def TruV (K : PySem.W.Frag) (x : V) (H : Hp) (k : Bool) : Prop :=
  match x with
  | .non => k = false
  | .bl b => k = b
  | .int i => k = (i != 0)
  | .str y => y.length ≤ sizeLine ∧ k = ((y.length : Int) != 0)
  | .byt y => y.size ≤ sizeLine ∧ k = ((y.size : Int) != 0)
  | .ref p => (∃ xs, SqL K H p xs ∧ k = !xs.isEmpty) ∨ (∃ xs, SqT K H p xs ∧ k = !xs.isEmpty) ∨ ∃ kvs, H p = some (.dK kvs) ∧ k = !kvs.isEmpty
  | _ => False
theorem line63 : (sizeLine : Nat) < 2 ^ 63 := by rw [sizeLine_eq]; decide
def PlainIxT (b : Expr) : Prop := ∀ o i, subscripted b false o i = operate [o, i] (getItem o i)
theorem vals1 {x : V} {us : List Value} (r : Vals [x] us) : ∃ u, us = [u] ∧ RelV x u := by
  cases r with
  | cons r1 r2 => cases r2; exact ⟨_, rfl, r1⟩
theorem vals2 {x y : V} {us : List Value} (r : Vals [x, y] us) : ∃ u w', us = [u, w'] ∧ RelV x u ∧ RelV y w' := by
  cases r with
  | cons r1 r2 =>
    cases r2 with
    | cons r3 r4 => cases r4; exact ⟨_, _, rfl, r1, r3⟩
theorem call_int1 : CallR X (.type "int") (fun xs H Q => (∃ i, xs = [.int i] ∧ Q (.int i) H) ∨ ∃ k, xs = [.bl k] ∧ Q (.int (if k then 1 else 0)) H) := by
  intro pins s σ H xs us Q I r h
  rcases h with ⟨i, rfl, q⟩ | ⟨k, rfl, q⟩
  · obtain ⟨u, rfl, t, rfl⟩ := vals1 r
    exact call_int_int ⟨.int i, H, I, ⟨_, rfl⟩, q⟩
  · obtain ⟨u, rfl, r1⟩ := vals1 r
    cases r1
    exact call_int_bool ⟨.int (if k then 1 else 0), H, I.tok _, ⟨_, rfl⟩, q⟩
def LenV (K : PySem.W.Frag) (x : V) (H : Hp) (n : Nat) : Prop :=
  match x with
  | .str y => y.length ≤ sizeLine ∧ n = y.length
  | .byt y => y.size ≤ sizeLine ∧ n = y.size
  | .ref p => (∃ xs, SqL K H p xs ∧ n = xs.length) ∨ ∃ xs, SqT K H p xs ∧ n = xs.length
  | _ => False
end
end L2
namespace L2
open PySem PySem.Spec PyProof.Rows
structure ObjM (h : Heap) (x dx C : Addr) (mA : Str → Option Value) : Prop where
  obj : h.get? x = some (PySem.W.instObj C dx)
  ns : h.Ns1 dx mA
  ne : dx ≠ x
theorem lookIn_ns {h : Heap} {dx : Addr} {mA : Str → Option Value} (n : h.Ns1 dx mA) : ∃ od, h.get? dx = some od ∧ ∀ name, PySem.W.lookIn name od = some (mA name) := by
  obtain ⟨o, es, ep, ho, hd, hk, _, hm⟩ := n
  refine ⟨o, ho, fun name => ?_⟩
  have e := hm name
  unfold nsFind findBy at e
  rw [← Array.find?_toList] at e
  unfold PySem.W.lookIn
  rw [hd]
  dsimp only
  split
  · rename_i y q
    rw [q] at e
    exact congrArg some e
  · rename_i q
    rw [q] at e
    have a : es.toList.any (·.refKey) = false := by
      rw [List.any_eq_false]
      intro y hy
      obtain ⟨z, t, hkey⟩ := hk y (Array.mem_toList_iff.mp hy)
      simp [DictEntry.refKey, hkey]
    have a' : ¬ es.toList.any (·.refKey) = true := by rw [a]; exact Bool.false_ne_true
    rw [if_neg a']
    exact congrArg some e
theorem ObjM.look {h : Heap} {x dx C : Addr} {mA : Str → Option Value} (I : ObjM h x dx C mA) : ∃ od, PySem.W.InstAt h x (PySem.W.instObj C dx) C (some od) ∧ ∀ name, PySem.W.lookIn name od = some (mA name) :=
  let ⟨od, ho, hl⟩ := lookIn_ns I.ns
  ⟨od, ⟨I.obj, rfl, rfl, ho⟩, hl⟩
section
variable {prog : Program} {w : World} {A : Around} {E : Value → Shared → Prop} {s : Shared} {K : PySem.W.Frag} {x dx C f : Addr} {mA : Str → Option Value} {name : Str} {v : Value}
theorem get_map {expr : Bool} {Q : Value → Shared → Prop} (X : K.In s.heap) (I : ObjM s.heap x dx C mA) (hg : PySem.W.plainGet K C name = true) (hh : PySem.W.hasDictIn K C = true)
    (ha : PySem.W.findIn K (.ref C) name = some none) (hv : mA name = some v) (hv' : PySem.W.handedIn v = true) (h : Q v { s with toks := s.toks + 1 }) :
    wpAny (model prog w) A (getAttr (.ref x) name expr) Q E s := by
  obtain ⟨od, J, hl⟩ := I.look
  exact PySem.W.get_value X J (PySem.W.plainGet_of hg).1 (PySem.W.findObj_own hh ha rfl (by rw [hl, hv])) hv' h
theorem set_map {ns : List Str} {Q : Unit → Shared → Prop} (X : K.In s.heap) (I : ObjM s.heap x dx C mA)
    (hs : PySem.W.findIn K (.ref C) "__setattr__" = some (some (.builtin "object.__setattr__"))) (hp : PySem.W.plainOver K C = true) (ht : PySem.W.takerIn K C name = some none) (hh : PySem.W.hasDictIn K C = true)
    (hw : PySem.Within mA ns) (hsz : ns.length ≤ sizeLine)
    (h : ∀ h', ObjM h' x dx C (fun y => if y = name then some v else mA y) → Heap.SameBut dx s.heap h' → Q () { s with heap := h', toks := s.toks + 2 }) :
    wpAny (model prog w) A (setAttr (.ref x) name v) Q E s := by
  obtain ⟨od, J, hl⟩ := I.look
  refine PySem.W.set_plain X J hs (PySem.W.osa_open (s := { s with toks := s.toks + 1 }) (r := none) X J hp ht fun b => ?_)
  obtain ⟨cd, hc, hd'⟩ := PySem.W.any_some hh
  have hx : s.heap.get? x = some ⟨.ref C, some dx, .plain, #[]⟩ := I.obj
  refine wpAny_bind (wpAny_pure (wpAny_bind (wpAny_bind (wpAny_loadPart hx (wpAny_bind (PySem.W.Looks.here (s := { s with toks := s.toks + 1 }) (PySem.W.looks_clsIn X hc) ?_))))))
  rw [hd']
  refine wpAny_pure (a := some dx) (wpAny_bind (wpAny_pure (wpAny_bind ?_)))
  refine wpAny_nsSet1 (s := { s with toks := s.toks + 1 }) I.ns fun h' hn2 hs2 => ?_
  obtain ⟨oD, esD, epD, hoD, hdD, hcD⟩ := hn2.count (PySem.Within.cons name v hw)
  refine wpAny_bind (wpAny_lookBehind hoD (by rw [hdD]; exact pastItsLine_dict (Nat.le_trans hcD (by rw [List.length_cons]; omega))) ?_)
  exact wpAny_pure (h _ ⟨(hs2.2 _ (Ne.symm I.ne)).trans I.obj, hn2, I.ne⟩ hs2)
theorem make_map {R : Result → Shared → Prop} {vs : List Value} {kw : List (Str × Value)} (X : K.In s.heap) (hm : PySem.W.makesIn K C = true)
    (hi : PySem.W.findIn K (.ref C) "__init__" = some (some (.ref f))) (hf : PySem.W.typeIn K (.ref f) = some (.type "function"))
    (h : codeAny (model prog w) (A.under (.builtin "type.__call__" ⟨.ref C :: vs, kw⟩)) (.call (.ref f) ⟨.ref (s.heap.objs.size + 1) :: vs, kw⟩) (PySem.W.InitBack (s.heap.objs.size + 1) R)
      { s with heap := (s.heap.push PySem.W.emptyDict).push (PySem.W.instObj C s.heap.objs.size) }) :
    codeAny (model prog w) A (.call (.ref C) ⟨vs, kw⟩) R s := by
  obtain ⟨hh, g, d, t, os⟩ := s
  exact PySem.W.make_core (PySem.W.makes_of X hm) (PySem.W.looks_findIn X hi) (fun self => PySem.W.bind_fn X self hf) (.inl rfl) h
end
def putF (f : Str) (v : V) : List (Str × V) → List (Str × V)
  | [] => [(f, v)]
  | (g, x) :: r => if g = f then (g, v) :: r else (g, x) :: putF f v r
theorem lookup_putF (f g : Str) (v : V) : ∀ fs : List (Str × V), (putF f v fs).lookup g = if g = f then some v else fs.lookup g
  | [] => by
    show List.lookup g [(f, v)] = _
    by_cases h : g = f
    · have hb : (g == f) = true := beq_iff_eq.mpr h
      simp only [List.lookup, hb, if_pos h]
    · have hb : (g == f) = false := beq_eq_false_iff_ne.mpr h
      simp only [List.lookup, hb, if_neg h]
  | (k, x) :: r => by
    have ih := lookup_putF f g v r
    rw [show putF f v ((k, x) :: r) = (if k = f then (k, v) :: r else (k, x) :: putF f v r) from rfl]
    by_cases hk : k = f
    · rw [if_pos hk]
      by_cases h : g = k
      · have hb : (g == k) = true := beq_iff_eq.mpr h
        simp only [List.lookup, hb, if_pos (h.trans hk)]
      · have hb : (g == k) = false := beq_eq_false_iff_ne.mpr h
        simp only [List.lookup, hb, if_neg (fun e : g = f => h (e.trans hk.symm))]
    · rw [if_neg hk]
      by_cases h : g = k
      · have hb : (g == k) = true := beq_iff_eq.mpr h
        simp only [List.lookup, hb, if_neg (fun e : g = f => hk (h.symm.trans e))]
      · have hb : (g == k) = false := beq_eq_false_iff_ne.mpr h
        simp only [List.lookup, hb]
        exact ih
theorem keys_putF (f : Str) (v : V) : ∀ fs : List (Str × V), f ∈ (putF f v fs).map (·.1) ∧ ∀ g, g ∈ fs.map (·.1) → g ∈ (putF f v fs).map (·.1)
  | [] => ⟨by simp [putF], fun g h => by simp at h⟩
  | (k, x) :: r => by
    obtain ⟨i1, i2⟩ := keys_putF f v r
    rw [show putF f v ((k, x) :: r) = (if k = f then (k, v) :: r else (k, x) :: putF f v r) from rfl]
    by_cases hk : k = f
    · rw [if_pos hk]
      subst hk
      exact ⟨by simp, fun g h => by simpa using h⟩
    · rw [if_neg hk]
      refine ⟨?_, fun g h => ?_⟩
      · rw [List.map_cons]
        exact List.mem_cons_of_mem _ i1
      · rw [List.map_cons] at h ⊢
        rcases List.mem_cons.mp h with e | e
        · exact List.mem_cons.mpr (.inl e)
        · exact List.mem_cons_of_mem _ (i2 g e)
theorem length_putF (f : Str) (v : V) : ∀ fs : List (Str × V), (putF f v fs).length ≤ fs.length + 1
  | [] => by simp [putF]
  | (k, x) :: r => by
    have ih := length_putF f v r
    rw [show putF f v ((k, x) :: r) = (if k = f then (k, v) :: r else (k, x) :: putF f v r) from rfl]
    by_cases hk : k = f
    · rw [if_pos hk, List.length_cons, List.length_cons]; omega
    · rw [if_neg hk, List.length_cons, List.length_cons]; omega
theorem RelO.some_of {v : V} {o : Option Value} (r : RelO (some v) o) : ∃ u, o = some u ∧ RelV v u := by
  cases o with
  | none => exact (show False from r).elim
  | some u => exact ⟨u, rfl, r⟩
theorem handed_of {v : V} {u : Value} (r : RelV v u) : PySem.W.handedIn u = true := by
  cases v with
  | non => cases (show u = Value.none from r); rfl
  | bl b => cases (show u = Value.bool b from r); rfl
  | int i => obtain ⟨t, e⟩ := (show ∃ t, u = Value.int i t from r); cases e; rfl
  | str x => obtain ⟨t, e⟩ := (show ∃ t, u = Value.str x t from r); cases e; rfl
  | byt b => obtain ⟨t, e⟩ := (show ∃ t, u = Value.bytes b t from r); cases e; rfl
  | flt b => obtain ⟨t, e⟩ := (show ∃ t, u = Value.float b t from r); cases e; rfl
  | ref a => cases (show u = Value.ref a from r); rfl
  | ty n => cases (show u = Value.type n from r); rfl
section
variable {P : Program} {w : World} {H H' : Hp} {h h' : Heap} {a C dx : Addr} {fs fs' : List (Str × V)}
theorem ins_get (hok : HOk P w H h) (e : H a = some (.ins C dx fs)) : ∃ mA, ObjM h a dx C mA ∧ (∀ f, RelO (fs.lookup f) (mA f)) ∧ PySem.Within mA (fs.map (·.1)) ∧ fs.length ≤ 1000 ∧ H dx = some (.own a) := by
  obtain ⟨d, z, ne, ob, mA, n, r, q⟩ := (show ObjOk P w H h a (.ins C dx fs) from hok a _ e)
  exact ⟨mA, ⟨ob, n, ne⟩, r, q, z, d⟩
end
structure Cls (K : PySem.W.Frag) (C : Addr) : Prop where
  pg : PySem.W.plainGet K C Str.empty = true
  hd : PySem.W.hasDictIn K C = true
  po : PySem.W.plainOver K C = true
  sa : PySem.W.findIn K (.ref C) "__setattr__" = some (some (.builtin "object.__setattr__"))
theorem Cls.get {K : PySem.W.Frag} {C : Addr} (c : Cls K C) (f : Str) : PySem.W.plainGet K C f = true := c.pg
def NoAttr (K : PySem.W.Frag) (C : Addr) (f : Str) : Prop := PySem.W.findIn K (.ref C) f = some none
theorem NoAttr.taker {K : PySem.W.Frag} {C : Addr} {f : Str} (n : NoAttr K C f) : PySem.W.takerIn K C f = some none := by
  unfold PySem.W.takerIn
  rw [show PySem.W.findIn K (.ref C) f = some none from n]
  rfl
structure Con (K : PySem.W.Frag) (C : Addr) (f : Str) (v : V) (u : Value) : Prop where
  at_ : PySem.W.findIn K (.ref C) f = some (some u)
  rel : RelV v u
  get : PySem.W.specialIn K u "__get__" = some none
  cp : PySem.W.copiedNames.contains f = false
structure Meth (K : PySem.W.Frag) (C : Addr) (m : Str) (f : Addr) : Prop where
  at_ : PySem.W.findIn K (.ref C) m = some (some (.ref f))
  fn : PySem.W.isFn K (.ref f) = true
  kp : PySem.W.keepIn K (.ref f) = true
section
variable {X : Cx} {pins : List (Addr × Obj)} {σ : St} {H : Hp} {s : Shared} {a C dx : Addr} {fs : List (Str × V)} {f : Str} {v : V} {A : Around} {E : Value → Shared → Prop}
theorem getattr_ok {b : Bool} {Q : Value → Shared → Prop} (I : Inv X pins σ H s) (e : H a = some (.ins C dx fs)) (c : Cls X.K C) (n : NoAttr X.K C f) (l : fs.lookup f = some v)
    (h : ∀ u s', Inv X pins σ H s' → RelV v u → Q u s') : wpAny (model X.prog X.w) A (getAttr (.ref a) f b) Q E s := by
  obtain ⟨mA, O, r, _, _, _⟩ := ins_get I.hok e
  obtain ⟨u, hu, ru⟩ := RelO.some_of (v := v) (o := mA f) (by rw [← l]; exact r f)
  exact get_map I.kIn O (c.get f) c.hd n hu (handed_of ru) (h u _ (I.tok _) ru)
theorem setattr_ok {y : V} {u : Value} {Q : Unit → Shared → Prop} (I : Inv X pins σ H s) (e : H a = some (.ins C dx fs)) (c : Cls X.K C) (n : NoAttr X.K C f) (hl : fs.length < 1000) (ry : RelV y u)
    (h : ∀ s', Inv X pins σ (upd H a (.ins C dx (putF f y fs))) s' → Q () s') : wpAny (model X.prog X.w) A (setAttr (.ref a) f u) Q E s := by
  obtain ⟨mA, O, r, wi, _, ho⟩ := ins_get I.hok e
  have hz : (fs.map (·.1)).length ≤ sizeLine := by rw [List.length_map, sizeLine_eq]; omega
  refine set_map I.kIn O c.sa c.po n.taker c.hd wi hz fun h' O' sb => h _ ?_
  have hd : ∃ o, h'.get? dx = some o := let ⟨o, _, _, e', _⟩ := O'.ns; ⟨o, e'⟩
  refine I.write (x := a) (e := dx) (by rw [e]; exact True.intro) (.inr ho) (fun b q hb z => (sb.2 b hb).trans z) hd ?_
  refine ⟨by rw [upd_ne O.ne]; exact ho, ?_, O.ne, O'.obj, _, O'.ns, fun g => ?_, fun g hg => ?_⟩
  · have := length_putF f y fs; omega
  · show RelO ((putF f y fs).lookup g) (if g = f then some u else mA g)
    rw [lookup_putF]
    by_cases q : g = f
    · rw [if_pos q, if_pos q]; exact ry
    · rw [if_neg q, if_neg q]; exact r g
  · by_cases q : g = f
    · rw [q]; exact (keys_putF f y fs).1
    · refine (keys_putF f y fs).2 g (wi g fun z => hg ?_)
      show (if g = f then some u else mA g) = none
      rw [if_neg q]; exact z
theorem Inv.made (I : Inv X pins σ H s) : Inv X pins σ (upd (upd H s.heap.objs.size (.own (s.heap.objs.size + 1))) (s.heap.objs.size + 1) (.ins C s.heap.objs.size []))
    { s with heap := (s.heap.push PySem.W.emptyDict).push (PySem.W.instObj C s.heap.objs.size) } := by
  have e1 : (s.heap.push PySem.W.emptyDict).get? s.heap.objs.size = some PySem.W.emptyDict := Heap.get?_push_size s.heap rfl
  have e2 : ((s.heap.push PySem.W.emptyDict).push (PySem.W.instObj C s.heap.objs.size)).get? (s.heap.objs.size + 1) = some (PySem.W.instObj C s.heap.objs.size) := by
    have := Heap.get?_push_size (s.heap.push PySem.W.emptyDict) (o := PySem.W.instObj C s.heap.objs.size) rfl
    rwa [Heap.size_push] at this
  have e3 : (s.heap.push PySem.W.emptyDict).Ns s.heap.objs.size (fun _ => none) := ⟨PySem.W.emptyDict, #[], _, e1, rfl, (fun e he => absurd he (by simp)), fun _ => rfl⟩
  have I1 := I.laid (a := s.heap.objs.size) (o := .own (s.heap.objs.size + 1)) (h' := s.heap.push PySem.W.emptyDict) (t' := s.toks) (fun b u q => Heap.get?_push_of_some _ q) (Nat.le_refl _) ⟨_, e1⟩
  refine I1.laid (a := s.heap.objs.size + 1) (o := .ins C s.heap.objs.size []) (t' := s.toks) (fun b u q => Heap.get?_push_of_some _ q) (Nat.le_of_eq (Heap.size_push _ _)) ?_
  have ne : s.heap.objs.size ≠ s.heap.objs.size + 1 := Nat.ne_of_lt (Nat.lt_succ_self _)
  refine ⟨by rw [upd_ne ne, upd_same], Nat.zero_le _, ne, e2, fun _ => none, (Heap.Ns1.of_empty e3).at fun o q => Heap.get?_push_of_some _ q, fun _ => True.intro, fun y hy => absurd rfl hy⟩
theorem attr_of {prog : Program} {w : World} {env : Env} {e : Expr} {f : Str} {pos : Pos} {s : Shared} {Q : Value → Shared → Prop} (hb : attributeBase e f env (eval e env) = eval e env)
    (h : wpAny (model prog w) A (eval e env) (fun o s₁ => wpAny (model prog w) A (getAttr o f true) Q E s₁) E s) : wpAny (model prog w) A (eval (.Attribute e f pos) env) Q E s :=
  Attribute_any_ h (by rw [arm_eval_Attribute, hb])
end
def tFld (K : PySem.W.Frag) (ta : TE) (f : Str) : TE := fun σ H Q => ta σ H fun x H1 => ∃ a C dx fs v, x = .ref a ∧ H1 a = some (.ins C dx fs) ∧ Cls K C ∧ NoAttr K C f ∧ fs.lookup f = some v ∧ Q v H1
def tCon (K : PySem.W.Frag) (ta : TE) (f : Str) : TE := fun σ H Q => ta σ H fun x H1 => ∃ a C dx fs v u, x = .ref a ∧ H1 a = some (.ins C dx fs) ∧ Cls K C ∧ Con K C f v u ∧ fs.lookup f = none ∧ Q v H1
def sFld (K : PySem.W.Frag) (ta tv : TE) (f : Str) : TS := fun D σ H => tv σ H fun y H1 => ta σ H1 fun x H2 => ∃ a C dx fs, x = .ref a ∧ H2 a = some (.ins C dx fs) ∧ Cls K C ∧ NoAttr K C f ∧ fs.length < 1000 ∧
  D.nx σ (upd H2 a (.ins C dx (putF f y fs)))
def InOp (X : Cx) (op : Operator) (rd : V → V → Hp → VK → Prop) : Prop :=
  ∀ (pins : List (Addr × Obj)) (s : Shared) (σ : St) (H : Hp) (x y : V) (u v : Value) (Q : VK), Inv X pins σ H s → RelV x u → RelV y v → rd x y H Q → wpAny (model X.prog X.w) X.A (inplaceOp op u v) (EP X pins σ Q) X.xe s
def sFldAug (K : PySem.W.Frag) (ta tv : TE) (rd : V → V → Hp → VK → Prop) (f : Str) : TS := fun D σ H => ta σ H fun x H1 => ∃ a C dx fs v, x = .ref a ∧ H1 a = some (.ins C dx fs) ∧ Cls K C ∧ NoAttr K C f ∧ fs.lookup f = some v ∧
  tv σ H1 fun y H2 => rd v y H2 fun z H3 => ∃ dx' fs', H3 a = some (.ins C dx' fs') ∧ fs'.length < 1000 ∧ D.nx σ (upd H3 a (.ins C dx' (putF f z fs')))
section
variable {X : Cx} {o e value : Expr} {f : Str} {pos pos' tpos : Pos} {ta tv : TE}
theorem pe_fld (he : PE X e ta) (hb : attributeBase e f X.env (eval e X.env) = eval e X.env) : PE X (.Attribute e f pos) (tFld X.K ta f) := by
  intro pins s σ H Q I h
  refine attr_of hb (thn (he pins s σ H _ I h) fun u s1 ⟨x, H1, I1, rx, a, C, dx, fs, v, ex, ea, c, n, l, q⟩ => ?_)
  subst ex
  obtain rfl : u = Value.ref a := rx
  exact getattr_ok I1 ea c n l fun u' s2 I2 ru => ⟨v, H1, I2, ru, q⟩
theorem ps_fld (ha : PE X o ta) (hv : PE X value tv) (hs : swapsWith value (some (.Attribute o f pos')) pos.line X.env = pure false) : PS X (.Assign [.Attribute o f pos'] value pos) (sFld X.K ta tv f) := by
  intro pins s σ H D I h
  refine plainObj_wpAny_Assign_Attribute (thn (hv pins s σ H _ I h) fun u s1 ⟨y, H1, I1, ry, q⟩ => thn (ha pins s1 σ H1 _ I1 q) fun ov s2 ⟨x, H2, I2, rx, a, C, dx, fs, ex, ea, c, n, l, q2⟩ => ?_) hs
  subst ex
  obtain rfl : ov = Value.ref a := rx
  exact setattr_ok I2 ea c n l ry fun s3 I3 => ⟨σ, _, I3, q2⟩
def rAdd : V → V → Hp → VK → Prop := fun x y H Q => ∃ i j, x = .int i ∧ y = .int j ∧ Q (.int (i + j)) H
def rSub : V → V → Hp → VK → Prop := fun x y H Q => ∃ i j, x = .int i ∧ y = .int j ∧ Q (.int (i - j)) H
end
section
variable {X : Cx} {pins : List (Addr × Obj)} {σ : St} {H : Hp} {s : Shared} {A : Around} {E : Value → Shared → Prop} {Q : Value → Shared → Prop} {c : Value} {b : Bool}
inductive TyOf (K : PySem.W.Frag) (H : Hp) : V → Value → Prop where
  | non : TyOf K H .non (.type "NoneType")
  | bl (x : Bool) : TyOf K H (.bl x) (.type "bool")
  | int (i : Int) : TyOf K H (.int i) (.type "int")
  | str (x : Str) : TyOf K H (.str x) (.type "str")
  | flt (x : UInt64) : TyOf K H (.flt x) (.type "float")
  | lst {a : Addr} {xs : List V} (e : H a = some (.lst xs)) : TyOf K H (.ref a) (.type "list")
  | frz {a : Addr} {o : Obj} {xs : List V} (e : H a = some (.frz o (.lst xs))) : TyOf K H (.ref a) (.type "list")
  | tup {a : Addr} {xs : List V} (e : H a = some (.tup xs)) : TyOf K H (.ref a) (.type "tuple")
  | dK {a : Addr} {kvs : List (Key × V)} (e : H a = some (.dK kvs)) : TyOf K H (.ref a) (.type "dict")
  | dT {a : Addr} {kvs : List (List Key × V)} (e : H a = some (.dT kvs)) : TyOf K H (.ref a) (.type "dict")
  | ins {a C dx : Addr} {fs : List (Str × V)} (e : H a = some (.ins C dx fs)) (cl : Cls K C) (ha : PySem.W.findIn K (.ref C) "__class__" = some (some (.builtin "object.__class__")))
      (hn : PySem.W.specialIn K (.builtin "object.__class__") "__get__" = some (some (.builtin "getset_descriptor.__get__"))) (htk : PySem.W.takesIn K (.builtin "object.__class__") = some true)
      (hm : PySem.W.mroIn K C (.type "object") = some true) : TyOf K H (.ref a) (.ref C)
theorem isinst_ok {x : V} {u t : Value} (I : Inv X pins σ H s) (rx : RelV x u) (ty : TyOf X.K H x t) (e : PySem.W.kitOne X.K t c = some b) (h : ∀ tk, Q (.bool b) { s with toks := tk }) :
    wpAny (model X.prog X.w) A (call (.builtin "isinstance") [u, c]) Q E s := by
  cases ty with
  | non => cases (show u = Value.none from rx); exact PySem.W.kia_one PySem.W.kitx_none I.kIn True.intro e (fun z => nomatch z) h
  | bl y => cases (show u = Value.bool y from rx); exact PySem.W.kia_one PySem.W.kitx_bool I.kIn True.intro e (fun z => nomatch z) h
  | int i => obtain ⟨t, q⟩ := (show ∃ t, u = Value.int i t from rx); cases q; exact PySem.W.kia_one PySem.W.kitx_int I.kIn True.intro e (fun z => nomatch z) h
  | str y => obtain ⟨t, q⟩ := (show ∃ t, u = Value.str y t from rx); cases q; exact PySem.W.kia_one PySem.W.kitx_str I.kIn True.intro e (fun z => nomatch z) h
  | flt y => obtain ⟨t, q⟩ := (show ∃ t, u = Value.float y t from rx); cases q; exact PySem.W.kia_one PySem.W.kitx_float I.kIn True.intro e (fun z => nomatch z) h
  | @lst a xs ea =>
    cases (show u = Value.ref a from rx)
    obtain ⟨_, _, n, _, h1⟩ := (show ObjOk X.prog X.w H s.heap a (.lst xs) from I.hok a _ ea)
    exact PySem.W.kia_one PySem.W.kitx_list I.kIn ⟨_, h1, rfl⟩ e (fun z => nomatch z) h
  | @frz a ob xs ea =>
    cases (show u = Value.ref a from rx)
    obtain ⟨_, _, _, n, _, h1⟩ := (show ObjOk X.prog X.w H s.heap a (.frz ob (.lst xs)) from I.hok a _ ea)
    exact PySem.W.kia_one PySem.W.kitx_list I.kIn ⟨_, h1, rfl⟩ e (fun z => nomatch z) h
  | @tup a xs ea =>
    cases (show u = Value.ref a from rx)
    obtain ⟨_, _, _, p⟩ := (show ObjOk X.prog X.w H s.heap a (.tup xs) from I.hok a _ ea)
    obtain ⟨o, h1, h2, _⟩ := p
    exact PySem.W.kia_one PySem.W.kitx_tuple I.kIn ⟨o, h1, h2⟩ e (fun z => nomatch z) h
  | @dK a kvs ea =>
    cases (show u = Value.ref a from rx)
    obtain ⟨_, _, vs, _, p⟩ := (show ObjOk X.prog X.w H s.heap a (.dK kvs) from I.hok a _ ea)
    obtain ⟨o, es, ep, h1, h2, _⟩ := p
    exact PySem.W.kia_one PySem.W.kitx_dict I.kIn ⟨o, h1, h2.1⟩ e (fun z => nomatch z) h
  | @dT a kvs ea =>
    cases (show u = Value.ref a from rx)
    obtain ⟨_, _, xs, _, o, es, ep, h1, h2, _⟩ := (show ObjOk X.prog X.w H s.heap a (.dT kvs) from I.hok a _ ea)
    exact PySem.W.kia_one PySem.W.kitx_dict I.kIn ⟨o, h1, h2.1⟩ e (fun z => nomatch z) h
  | @ins a C dx fs ea cl ha hn htk hm =>
    cases (show u = Value.ref a from rx)
    obtain ⟨mA, O, _⟩ := ins_get I.hok ea
    obtain ⟨od, J, _⟩ := O.look
    exact PySem.W.kia_one (PySem.W.kitx_own (cl.get _) cl.hd ha hn htk hm) I.kIn J e (fun z => nomatch z) h
end
end L2
namespace L2
open PySem PySem.Spec PyProof.Rows
structure Room (k : Nat) (A : Around) : Prop where
  hd : A.handled = none
  dp : A.depth + 3 * k + 5 < recursionLimit
  un : A.units + 16 * k + 200 < cLine
theorem Room.mono {j k : Nat} {A : Around} (r : Room k A) (h : j ≤ k) : Room j A := ⟨r.hd, by have := r.dp; omega, by have := r.un; omega⟩
theorem Room.deeper {k : Nat} {A : Around} (r : Room (k + 1) A) (env : Env) : Room k (A.deeper env) :=
  ⟨r.hd, by have := r.dp; show A.depth + 1 + 3 * k + 5 < _; omega, by have := r.un; show A.units + 3 + 16 * k + 200 < _; omega⟩
theorem make_depth {A : Around} {C : Addr} {us : List Value} {kw : List (Str × Value)} : (A.under (.builtin "type.__call__" ⟨.ref C :: us, kw⟩)).depth = A.depth + 1 := by
  first | rfl | simp [Around.under, Code.weight, Code.isCreation, Code.isGuard, Code.isCaller, Code.frames, Code.isFrame, guardIds]
theorem make_units {A : Around} {C : Addr} {us : List Value} {kw : List (Str × Value)} : (A.under (.builtin "type.__call__" ⟨.ref C :: us, kw⟩)).units = A.units + 1 := by
  first | rfl | simp [Around.under, Code.cUnits, Code.frames, Code.isFrame]
theorem Room.make {k : Nat} {A : Around} (r : Room (k + 1) A) (C : Addr) (us : List Value) (kw : List (Str × Value)) : Room k (A.under (.builtin "type.__call__" ⟨.ref C :: us, kw⟩)) :=
  ⟨r.hd, by have := r.dp; rw [make_depth]; omega, by have := r.un; rw [make_units]; omega⟩
theorem Room.depth {k : Nat} {A : Around} (r : Room k A) : A.depth < recursionLimit := by have := r.dp; omega
theorem Room.units {k : Nat} {A : Around} (r : Room k A) : A.units + 64 < cLine := by have := r.un; omega
def tNil : TA := fun _ H Q => Q [] H
def tCons (ta : TE) (tr : TA) : TA := fun σ H Q => ta σ H fun x H1 => tr σ H1 fun xs H2 => Q (x :: xs) H2
section
variable {X : Cx} {e : Expr} {es : List Expr} {te : TE} {t : TA} {pos : Pos}
theorem pa_nil : PA X [] tNil := fun _ _ _ _ H Q I h => Calls.spliced_nil ⟨[], H, I, .nil, h⟩
theorem pa_cons (ha : PE X e te) (hr : PA X es t) (hs : starEach (e :: es) X.env = (false, eval e X.env) :: starEach es X.env := by rfl) : PA X (e :: es) (tCons te t) := by
  intro pos pins s σ H Q I h
  rw [hs]
  show wpAny _ _ (spliced ((false, eval e X.env) :: backTo pos (starEach es X.env))) _ _ s
  refine Calls.spliced_cons (thn (ha pins s σ H _ I h) fun u s1 ⟨x, H1, I1, r1, q1⟩ => ?_)
  exact thn (hr pos pins s1 σ H1 _ I1 q1) fun us s2 ⟨xs, H2, I2, r2, q2⟩ => ⟨x :: xs, H2, I2, .cons r1 r2, q2⟩
def tTup (t : TA) : TE := fun σ H Q => t σ H fun xs H1 => xs.length ≤ sizeLine ∧ ∀ p, H1 p = none → Q (.ref p) (upd H1 p (.tup xs))
def tLst (t : TA) : TE := fun σ H Q => t σ H fun xs H1 => xs.length ≤ sizeLine ∧ ∀ p, H1 p = none → Q (.ref p) (upd H1 p (.lst xs))
theorem pe_tup {x1} (h : PA X es t) : PE X (.Tuple es x1 pos) (tTup t) := by
  intro pins s σ H Q I hq
  refine wpAny_Tuple_spliced (thn (h pos pins s σ H _ I hq) fun us s1 ⟨xs, H1, I1, r, z, q⟩ => ⟨by rw [← r.length]; exact z, ?_⟩)
  have hf : H1 s1.heap.objs.size = none := I1.hok.fresh (Nat.le_refl _)
  refine ⟨.ref s1.heap.objs.size, upd H1 s1.heap.objs.size (.tup xs), I1.laid (t' := s1.toks) (fun b u e => Heap.get?_push_of_some _ e) (Nat.le_refl _) ?_, rfl, q _ hf⟩
  exact ⟨z, us, r, ⟨_, Heap.get?_push_size _ rfl, rfl, _, rfl⟩⟩
theorem pe_lst (h : PA X es t) : PE X (.List es pos) (tLst t) := by
  intro pins s σ H Q I hq
  refine wpAny_List_spliced (thn (h pos pins s σ H _ I hq) fun us s1 ⟨xs, H1, I1, r, z, q⟩ => ⟨by rw [← r.length]; exact z, ?_⟩)
  have hf : H1 s1.heap.objs.size = none := I1.hok.fresh (Nat.le_refl _)
  refine ⟨.ref s1.heap.objs.size, upd H1 s1.heap.objs.size (.lst xs), I1.laid (t' := s1.toks) (fun b u e => Heap.get?_push_of_some _ e) (Nat.le_refl _) ?_, rfl, q _ hf⟩
  exact ⟨z, us, 0, r, Heap.get?_push_size _ rfl⟩
end
abbrev Sp := List V → Hp → VK → XK → Prop
abbrev CXT := List Env → Hp → Shared → XK → Value → Shared → Prop
structure Env0 (P : Program) (w : World) (K : PySem.W.Frag) (mg : Str → Option Value) (base : Heap) (A : Around) (outer : List Env) (s : Shared) (H : Hp) : Prop where
  frames : A.frames = some outer
  mod : Mod K mg base
  bs : ∀ b o, base.get? b = some o → s.heap.get? b = some o ∧ H b = none
  bsz : base.objs.size ≤ s.heap.objs.size
  funs : s.heap.FunFrames base outer
  frf : ∀ b ∈ frs outer, H b = none
  hok : HOk P w H s.heap
  bare : AllBare s.gens
def CE (outer : List Env) (P : Program) (w : World) (H : Hp) (s : Shared) (Q : VK) (u : Value) (s' : Shared) : Prop :=
  ∃ v H', s'.os = s.os ∧ AllBare s'.gens ∧ Un (frs outer) [] H H' s.heap s'.heap ∧ HOk P w H' s'.heap ∧ RelV v u ∧ Q v H'
def CR (CX : CXT) (outer : List Env) (P : Program) (w : World) (H : Hp) (s : Shared) (Q : VK) (E : XK) (r : Result) (s' : Shared) : Prop :=
  match r with
  | .ok (.ret u) => CE outer P w H s Q u s'
  | .ok _ => False
  | .error e => CX outer H s E e s'
structure FnOk (P : Program) (w : World) (K : PySem.W.Frag) (mg : Str → Option Value) (base : Heap) (CX : CXT) (k : Nat) (f : Addr) (fd : FuncData) (ps : List Str) (sp : Sp) : Prop where
  len : ∀ vs H Q E, sp vs H Q E → vs.length = ps.length
  run : ∀ (A : Around) (outer : List Env) (s : Shared) (H : Hp) (args : Args) (us : List Value) (vs : List V) (Q : VK) (E : XK), Room k A → Env0 P w K mg base A outer s H → BindsTo s fd args (ps.zip us) → Vals vs us → sp vs H Q E →
    codeAny (model P w) A (.call (.ref f) args) (CR CX outer P w H s Q E) s
theorem FnOk.mono {P : Program} {w : World} {K : PySem.W.Frag} {mg : Str → Option Value} {base : Heap} {CX : CXT} {j k : Nat} {f : Addr} {fd : FuncData} {ps : List Str} {sp : Sp} (F : FnOk P w K mg base CX j f fd ps sp) (h : j ≤ k) :
    FnOk P w K mg base CX k f fd ps sp := ⟨F.len, fun A outer s H args us vs Q E hr => F.run A outer s H args us vs Q E (hr.mono h)⟩
theorem Env0.make {P : Program} {w : World} {K : PySem.W.Frag} {mg : Str → Option Value} {base : Heap} {A : Around} {outer : List Env} {s : Shared} {H : Hp} (e : Env0 P w K mg base A outer s H) (C : Addr) (us : List Value) (kw : List (Str × Value)) :
    Env0 P w K mg base (A.under (.builtin "type.__call__" ⟨.ref C :: us, kw⟩)) outer s H := ⟨by first | exact e.frames | (simpa [Around.under, Code.envs, Code.isFrame, pushEnvs] using e.frames), e.mod, e.bs, e.bsz, e.funs, e.frf, e.hok, e.bare⟩
section
variable {X : Cx} {pins : List (Addr × Obj)} {σ : St} {H : Hp} {s s' : Shared}
theorem Inv.env0 (I : Inv X pins σ H s) : Env0 X.prog X.w X.K X.mg X.base X.A X.stack s H :=
  ⟨I.ok.frames, I.ok.mod, I.bs, Nat.le_trans I.ok.bsz I.sz, I.stack, I.stkFree, I.hok, I.bare⟩
theorem Inv.after {Q : VK} {u : Value} (I : Inv X pins σ H s) (h : CE X.stack X.prog X.w H s Q u s') : EP X pins σ Q u s' := by
  obtain ⟨v, H', os, bare, un, hok, r, q⟩ := h
  obtain ⟨hh, g, d, t, os'⟩ := s'
  obtain rfl : os' = s.os := os
  exact ⟨v, H', I.call (h' := hh) (g' := g) (d' := d) (t' := t) (ch := []) un hok bare (fun b z => absurd z (by simp)), r, q⟩
end
def tCall (sp : Sp) (dvs : List V) (E : XK) (t : TA) : TE := fun σ H Q => t σ H fun vs H1 => sp (vs ++ dvs) H1 Q E
def tMeth (C : Addr) (m : Str) (sp : Sp) (dvs : List V) (E : XK) (ta : TE) (t : TA) : TE := fun σ H Q => ta σ H fun x H1 => ∃ a dx fs, x = .ref a ∧ H1 a = some (.ins C dx fs) ∧ fs.lookup m = none ∧
  t σ H1 fun vs H2 => sp (x :: (vs ++ dvs)) H2 Q E
def tMake (C : Addr) (sp : Sp) (dvs : List V) (E : XK) (t : TA) : TE := fun σ H Q => t σ H fun vs H1 => ∀ x dx, H1 x = none → H1 dx = none → dx ≠ x →
  sp (.ref x :: (vs ++ dvs)) (upd (upd H1 dx (.own x)) x (.ins C dx [])) (fun v H2 => v = .non ∧ Q (.ref x) H2) E
def Binds (K : PySem.W.Frag) (fd : FuncData) (ps : List Str) (ds : List Value) : Prop :=
  ∀ (s : Shared) (us : List Value), K.In s.heap → (us ++ ds).length = ps.length → BindsTo s fd ⟨us, []⟩ (ps.zip (us ++ ds))
theorem Binds.all {K : PySem.W.Frag} {fd : FuncData} {ps : List Str} (h : ∀ us : List Value, us.length = ps.length → bindArgs fd ⟨us, []⟩ = pure (ps.zip us)) : Binds K fd ps [] := fun s us _ hl => by
  rw [List.append_nil] at hl ⊢
  exact .of_eq (h us hl)
def Passes (CX : CXT) (X : Cx) (E : XK) : Prop := ∀ (pins : List (Addr × Obj)) (σ : St) (H : Hp) (s : Shared) (e : Value) (s' : Shared), Inv X pins σ H s → CX X.stack H s E e s' → X.xe e s'
section
variable {X : Cx} {CX : CXT} {k : Nat} {f C : Addr} {fd : FuncData} {ps : List Str} {sp : Sp} {dvs : List V} {ds : List Value} {E : XK} {x m : Str} {p pos apos : Pos} {e o : Expr} {es : List Expr} {ta : TE} {t : TA}
theorem run_fn {pins : List (Addr × Obj)} {σ : St} {H : Hp} {s : Shared} {Q : VK} {us : List Value} {vs : List V} (F : FnOk X.prog X.w X.K X.mg X.base CX k f fd ps sp) (hr : Room k X.A) (hb : Binds X.K fd ps ds) (hd : Vals dvs ds) (hx : Passes CX X E)
    (I : Inv X pins σ H s) (r : Vals vs us) (h : sp (vs ++ dvs) H Q E) : wpAny (model X.prog X.w) X.A (call (.ref f) us) (EP X pins σ Q) X.xe s := by
  have r2 : Vals (vs ++ dvs) (us ++ ds) := r.append hd
  have hl : (us ++ ds).length = ps.length := by rw [← r2.length]; exact F.len _ _ _ _ h
  refine wpAny_call (codeAny_mono (F.run X.A X.stack s H ⟨us, []⟩ (us ++ ds) (vs ++ dvs) Q E hr I.env0 (hb s us I.kIn hl) r2 h) fun r s' hq => ?_)
  cases r with
  | error e => exact hx pins σ H s e s' I hq
  | ok fl =>
    cases fl with
    | ret u => exact I.after hq
    | next => exact False.elim hq
    | brk => exact False.elim hq
    | cont => exact False.elim hq
theorem pe_call (F : FnOk X.prog X.w X.K X.mg X.base CX k f fd ps sp) (hr : Room k X.A) (hg : Gl X x) (hm : X.mg x = some (.ref f)) (hk : PySem.W.keepIn X.K (.ref f) = true) (hb : Binds X.K fd ps ds) (hd : Vals dvs ds) (hx : Passes CX X E)
    (ha : PA X (e :: es) t) (hdb : (x == ("__debug__" : Str)) = false := by decide) (he : starEach (e :: es) X.env = (false, eval e X.env) :: starEach es X.env := by rfl) (hpl : (backTo pos (starEach es X.env)).any (·.1) = false := by rfl) :
    PE X (.Call (.Name x p) (e :: es) [] pos) (tCall sp dvs E t) := by
  intro pins s σ H Q I h
  refine wpAny_Call_Name_kw (ld_glob I hg hm ?_ hdb)
  refine PySem.W.callWith_K (h₀ := X.base) I.ok.mod.kin hk (thn (ha pos pins s σ H _ I h) fun us s1 ⟨vs, H1, I1, r, q⟩ => ⟨I1.kIn, ?_⟩) he hpl
  exact run_fn F hr hb hd hx I1 r q
structure Mk (K : PySem.W.Frag) (C f : Addr) : Prop where
  makes : PySem.W.makesIn K C = true
  init : PySem.W.findIn K (.ref C) "__init__" = some (some (.ref f))
  fn : PySem.W.isFn K (.ref f) = true
  kp : PySem.W.keepIn K (.ref C) = true
theorem run_make {pins : List (Addr × Obj)} {σ : St} {H : Hp} {s : Shared} {Q : VK} {us : List Value} {vs : List V} (M : Mk X.K C f) (F : FnOk X.prog X.w X.K X.mg X.base CX k f fd ps sp) (hr : Room (k + 1) X.A) (hb : Binds X.K fd ps ds) (hd : Vals dvs ds)
    (hx : Passes CX X E) (I : Inv X pins σ H s) (r : Vals vs us)
    (h : ∀ x dx, H x = none → H dx = none → dx ≠ x → sp (.ref x :: (vs ++ dvs)) (upd (upd H dx (.own x)) x (.ins C dx [])) (fun v H2 => v = .non ∧ Q (.ref x) H2) E) :
    wpAny (model X.prog X.w) X.A (call (.ref C) us) (EP X pins σ Q) X.xe s := by
  have hq := h (s.heap.objs.size + 1) s.heap.objs.size (I.hok.fresh (Nat.le_succ _)) (I.hok.fresh (Nat.le_refl _)) (Nat.ne_of_lt (Nat.lt_succ_self _))
  have I2 := Inv.made (C := C) I
  have r2 : Vals (V.ref (s.heap.objs.size + 1) :: (vs ++ dvs)) (Value.ref (s.heap.objs.size + 1) :: (us ++ ds)) := .cons rfl (r.append hd)
  have hl : (Value.ref (s.heap.objs.size + 1) :: us ++ ds).length = ps.length := by
    have e := r2.length
    rw [F.len _ _ _ _ hq] at e
    exact e.symm
  refine wpAny_call (make_map (f := f) I.kIn M.makes M.init (beq_iff_eq.mp M.fn) (codeAny_mono (F.run _ X.stack _ _ ⟨Value.ref (s.heap.objs.size + 1) :: us, []⟩ (Value.ref (s.heap.objs.size + 1) :: (us ++ ds)) _ _ E (hr.make C us [])
    (I2.env0.make C us []) (hb _ (Value.ref (s.heap.objs.size + 1) :: us) I2.kIn hl) r2 hq) fun r s' hq' => ?_))
  cases r with
  | error e => exact hx pins σ _ _ e s' I2 hq'
  | ok fl =>
    cases fl with
    | ret u =>
      obtain ⟨v, H', I3, rv, ev, q3⟩ := I2.after hq'
      subst ev
      exact ⟨rv, ⟨V.ref (s.heap.objs.size + 1), H', I3, rfl, q3⟩⟩
    | next => exact False.elim hq'
    | brk => exact False.elim hq'
    | cont => exact False.elim hq'
theorem pe_make (M : Mk X.K C f) (F : FnOk X.prog X.w X.K X.mg X.base CX k f fd ps sp) (hr : Room (k + 1) X.A) (hg : Gl X x) (hm : X.mg x = some (.ref C)) (hb : Binds X.K fd ps ds) (hd : Vals dvs ds) (hx : Passes CX X E)
    (ha : PA X (e :: es) t) (hdb : (x == ("__debug__" : Str)) = false := by decide) (he : starEach (e :: es) X.env = (false, eval e X.env) :: starEach es X.env := by rfl) (hpl : (backTo pos (starEach es X.env)).any (·.1) = false := by rfl) :
    PE X (.Call (.Name x p) (e :: es) [] pos) (tMake C sp dvs E t) := by
  intro pins s σ H Q I h
  refine wpAny_Call_Name_kw (ld_glob I hg hm ?_ hdb)
  refine PySem.W.callWith_K (h₀ := X.base) I.ok.mod.kin M.kp (thn (ha pos pins s σ H _ I h) fun us s1 ⟨vs, H1, I1, r, q⟩ => ⟨I1.kIn, ?_⟩) he hpl
  exact run_make M F hr hb hd hx I1 r q
end
def PK (X : Cx) (kws : List Keyword) (t : TA) : Prop :=
  ∀ (pos : Pos) (pins : List (Addr × Obj)) (s : Shared) (σ : St) (H : Hp) (Q : List V → Hp → Prop), Inv X pins σ H s → t σ H Q → wpAny (model X.prog X.w) X.A (evalAll ((backToKw pos (keywordEach kws X.env)).map (·.2))) (AP X pins σ Q) X.xe s
section
variable {X : Cx} {CX : CXT} {k : Nat} {f C : Addr} {fd : FuncData} {ps ks : List Str} {sp : Sp} {E : XK} {x m : Str} {p pos apos kpos : Pos} {e o : Expr} {es : List Expr} {kws : List Keyword} {te ta : TE} {t tk : TA} {nm : Option Str}
structure KBinds (K : PySem.W.Frag) (fd : FuncData) (ps ks : List Str) (g : List Value → List Value → List Value) (gV : List V → List V → List V) : Prop where
  to : ∀ (s : Shared) (us ws : List Value), K.In s.heap → (g us ws).length = ps.length → BindsTo s fd ⟨us, ks.zip ws⟩ (ps.zip (g us ws))
  rel : ∀ {vs : List V} {us : List Value} {zs : List V} {ws : List Value}, Vals vs us → Vals zs ws → Vals (gV vs zs) (g us ws)
def tCallK (sp : Sp) (gV : List V → List V → List V) (E : XK) (t tk : TA) : TE := fun σ H Q => t σ H fun vs H1 => tk σ H1 fun zs H2 => sp (gV vs zs) H2 Q E
variable {g : List Value → List Value → List Value} {gV : List V → List V → List V}
end
structure FnScope (N P : List Str) (sc : Scope) : Prop where
  kind : sc.kind = .function
  co : sc.isCoroutine = false
  gen : sc.isGenerator = false
  nd : N.Nodup
  pre : N.take P.length = P
  par : ∀ x ∈ P, sc.names.lookup x = some .local ∨ sc.names.lookup x = some .cell
  nofree : ∀ y ∈ sc.names, y.2 ≠ .free
theorem bindL_out {kindOf : Str → Option NameKind} {x : Str} : ∀ {binds : List (Str × Value)} {m : Str → Option Value}, (∀ v, (x, v) ∉ binds) → bindL kindOf binds m x = m x
  | [], _, _ => rfl
  | (n, v) :: r, m, h => by
    unfold bindL
    rw [bindL_out fun w hw => h w (List.mem_cons_of_mem _ hw)]
    split
    · have : x ≠ n := by rintro rfl; exact h v List.mem_cons_self
      simp [this]
    · rfl
theorem bindC_out {kindOf : Str → Option NameKind} {x : Str} : ∀ {binds : List (Str × Value)} {m : Str → Option Value}, (∀ v, (x, v) ∉ binds) → bindC kindOf binds m x = m x
  | [], _, _ => rfl
  | (n, v) :: r, m, h => by
    unfold bindC
    rw [bindC_out fun w hw => h w (List.mem_cons_of_mem _ hw)]
    split
    · rfl
    · have : x ≠ n := by rintro rfl; exact h v List.mem_cons_self
      simp [this]
theorem bindL_get {kindOf : Str → Option NameKind} {x : Str} {v : Value} : ∀ {P : List Str} {vs : List Value} {i : Nat} {m : Str → Option Value}, P.Nodup → P[i]? = some x → vs[i]? = some v → kindOf x = some .local →
    bindL kindOf (P.zip vs) m x = some v
  | [], _, _, _, _, h, _, _ => by simp at h
  | _ :: _, [], _, _, _, _, h, _ => by simp at h
  | p :: P, w :: vs, 0, m, nd, h1, h2, hk => by
    simp at h1 h2; subst h1; subst h2
    show bindL kindOf ((p, w) :: P.zip vs) m p = _
    unfold bindL
    rw [bindL_out fun v hv => (List.nodup_cons.mp nd).1 (List.of_mem_zip hv).1, if_pos hk]
    simp
  | p :: P, w :: vs, i + 1, m, nd, h1, h2, hk => by
    show bindL kindOf ((p, w) :: P.zip vs) m x = _
    unfold bindL
    exact bindL_get (i := i) (List.nodup_cons.mp nd).2 (by simpa using h1) (by simpa using h2) hk
theorem bindC_get {kindOf : Str → Option NameKind} {x : Str} {v : Value} : ∀ {P : List Str} {vs : List Value} {i : Nat} {m : Str → Option Value}, P.Nodup → P[i]? = some x → vs[i]? = some v → kindOf x ≠ some .local →
    bindC kindOf (P.zip vs) m x = some v
  | [], _, _, _, _, h, _, _ => by simp at h
  | _ :: _, [], _, _, _, _, h, _ => by simp at h
  | p :: P, w :: vs, 0, m, nd, h1, h2, hk => by
    simp at h1 h2; subst h1; subst h2
    show bindC kindOf ((p, w) :: P.zip vs) m p = _
    unfold bindC
    rw [bindC_out fun v hv => (List.nodup_cons.mp nd).1 (List.of_mem_zip hv).1, if_neg hk]
    simp
  | p :: P, w :: vs, i + 1, m, nd, h1, h2, hk => by
    show bindC kindOf ((p, w) :: P.zip vs) m x = _
    unfold bindC
    exact bindC_get (i := i) (List.nodup_cons.mp nd).2 (by simpa using h1) (by simpa using h2) hk
def start (N : List Str) (vs : List V) : St := vs.map some ++ List.replicate (N.length - vs.length) none
def cxOf (CX : CXT) (P : Program) (w : World) (K : PySem.W.Frag) (mg : Str → Option Value) (base : Heap) (N : List Str) (qual : Str) (scope : Scope) (f : Addr) (cd : Value) (A : Around) (outer : List Env) (s : Shared) (H : Hp) (E : XK) : Cx where
  prog := P
  w := w
  K := K
  mg := mg
  base := base
  A := A.deeper (envOfC qual scope s.heap.objs.size f cd)
  N := N
  s₀ := s
  H₀ := H
  env := envOfC qual scope s.heap.objs.size f cd
  outer := outer
  stack := envOfC qual scope s.heap.objs.size f cd :: outer
  ex := []
  calm := true
  fn := fun _ => true
  pn := []
  xe := fun e s' => wpAny (model P w) (A.deeper (envOfC qual scope s.heap.objs.size f cd)) (leaving (envOfC qual scope s.heap.objs.size f cd) e) (fun _ s'' => CX outer H s E e s'') (fun e' s'' => CX outer H s E e' s'') s'
theorem cell_has {sc : Scope} {n : Nat} {x : Str} (h : sc.names.lookup x = some .cell) : ∃ c, (cellsFrom n sc.names []).lookup x = some c := by
  have q := PySem.W.cellsFrom_some sc.names n [] (.inl h)
  exact Option.isSome_iff_exists.mp q
theorem inv_start {CX : CXT} {P : Program} {w : World} {K : PySem.W.Frag} {mg : Str → Option Value} {base : Heap} {N ps : List Str} {qual : Str} {scope : Scope} {f : Addr} {cd : Value} {A : Around} {outer : List Env} {s s1 : Shared} {H : Hp} {E : XK} {us : List Value} {vs : List V}
    (S : FnScope N ps scope) (hd : A.handled = none) (e0 : Env0 P w K mg base A outer s H) (hl : vs.length = ps.length) (r : Vals vs us)
    (x : InCallC s s.heap.objs.size (bindL (envOfC qual scope s.heap.objs.size f cd).kindOf (ps.zip us) fun _ => none) (cellsFrom (s.heap.objs.size + 1) scope.names []) (bindC (envOfC qual scope s.heap.objs.size f cd).kindOf (ps.zip us) fun _ => none) s1) :
    Inv (cxOf CX P w K mg base N qual scope f cd A outer s H E) [] (start N vs) H s1 := by
  have hpl : ps.length ≤ N.length := by have := congrArg List.length S.pre; rw [List.length_take] at this; omega
  obtain ⟨h1, tk, rfl, hk⟩ := x.done
  have noA : ∀ b : Addr, b ∉ (cxOf CX P w K mg base N qual scope f cd A outer s H E).ex := fun b z => absurd (show b ∈ ([] : List Addr) from z) (by simp)
  refine ⟨⟨e0.mod, S.kind, rfl, rfl, Nat.le_refl _, fun y z c h1 h2 => ?_, fun y hy => ?_, fun y c _ h => ?_, fun _ => hd, Around.frames_deeper e0.frames, .inr ⟨rfl, rfl⟩, fun b z => absurd z (noA b), e0.bs, e0.bsz, fun b _ _ => noA b, fun b z => absurd z (noA b), e0.funs, e0.frf⟩,
    rfl, e0.bare, Un.kept hk, ⟨_, x.toInCall.ns, fun i y v h1 h2 h3 => ?_⟩, fun y c h => ⟨_, x.cell y c h⟩, e0.hok.fresh (Nat.le_refl _), fun y c h => ?_, fun p hp => absurd (show p ∈ ([] : List (Addr × Obj)) from hp) (by simp), e0.hok.kept hk, ?_⟩
  · exact name_of_addr x.apart (PySem.mem_of_lookup h1) (PySem.mem_of_lookup h2)
  · have hy : scope.names.lookup y = some .cell ∨ scope.names.lookup y = some .free := hy
    rcases hy with hy | hy
    · exact cell_has hy
    · exact absurd rfl (S.nofree _ (PySem.mem_of_lookup hy))
  · exact Nat.le_of_lt (x.above y c (PySem.mem_of_lookup h))
  · have hi : i < vs.length := by
      unfold start at h2
      by_cases hi : i < vs.length
      · exact hi
      · rw [List.getElem?_append_right (by simpa using hi)] at h2
        rw [List.getElem?_replicate] at h2
        split at h2 <;> cases h2
    have ha : vs[i]? = some v := by
      unfold start at h2
      rw [List.getElem?_append_left (by simpa using hi), List.getElem?_map] at h2
      cases e : vs[i]? with
      | none => rw [e] at h2; cases h2
      | some a => rw [e] at h2; cases h2; rfl
    obtain ⟨u, hu, rv⟩ := r.get ha
    have hp : ps[i]? = some y := by
      rw [← S.pre, List.getElem?_take_of_lt (by omega)]; exact h1
    have ndP : ps.Nodup := by rw [← S.pre]; exact S.nd.sublist (List.take_sublist _ _)
    refine ⟨u, rv, ?_⟩
    rcases S.par y (List.mem_of_getElem? hp) with k | k
    · exact .inl ⟨k, bindL_get ndP hp hu k⟩
    · obtain ⟨c, e⟩ := cell_has (n := s.heap.objs.size + 1) k
      refine .inr ⟨.inl k, c, e, ?_⟩
      have q := x.cell y c e
      rw [bindC_get ndP hp hu (by show scope.names.lookup y ≠ _; rw [k]; decide)] at q
      exact q
  · exact e0.hok.fresh (Nat.le_of_lt (x.above y c (PySem.mem_of_lookup h)))
  · unfold start
    show _ = N.length
    rw [List.length_append, List.length_map, List.length_replicate]
    omega
theorem fn_of {CX : CXT} {P : Program} {w : World} {K : PySem.W.Frag} {mg : Str → Option Value} {base : Heap} {k : Nat} {f : Addr} {name qual : Str} {params : Arguments} {body : List Stmt} {scope : Scope} {dV kV doc pm cdv ct oc : Value} {an od : Option Addr}
    {osl : Array (Option Value)} {N ps : List Str} {sp : Sp} (lk : K.lookup f = some ⟨oc, od, .func (PySem.W.fnOf name qual params body scope dV kV doc pm an cdv ct), osl⟩) (hcd : PySem.W.codeIn K cdv qual = true) (S : FnScope N ps scope)
    (len : ∀ vs H Q E, sp vs H Q E → vs.length = ps.length)
    (hbody : ∀ (A : Around) (outer : List Env) (s : Shared) (H : Hp) (vs : List V) (Q : VK) (E : XK), Room k (A.deeper (envOfC qual scope s.heap.objs.size f cdv)) → sp vs H Q E →
      ∃ t, PSs (cxOf CX P w K mg base N qual scope f cdv A outer s H E) body t ∧ t { nx := fun _ H' => Q .non H', rt := Q } (start N vs) H) :
    FnOk P w K mg base CX (k + 1) f (PySem.W.fnOf name qual params body scope dV kV doc pm an cdv ct) ps sp := by
  refine ⟨len, fun A outer s H args us vs Q E hr e0 hb r hsp => ?_⟩
  have hl := len _ _ _ _ hsp
  have KX : K.In s.heap := e0.mod.kin.keeps fun b o e => (e0.bs b o e).1
  have lim : s.heap.NoLimit := e0.mod.nolimit.keeps fun b o e => (e0.bs b o e).1
  have hkind : ∀ y ∈ ps.zip us, scope.names.lookup y.1 = some .local ∨ (scope.names.lookup y.1 = some .cell ∧ ((cellsFrom (s.heap.objs.size + 1) scope.names []).lookup y.1).isSome = true) := fun ⟨n, v⟩ hy => by
    rcases S.par n (List.of_mem_zip hy).1 with q | q
    · exact .inl q
    · exact .inr ⟨q, PySem.W.cellsFrom_some _ _ _ (.inl q)⟩
  refine codeAny_call_function hr.depth (KX _ _ lk) rfl S.co S.gen rfl (PySem.W.codeRec_of KX hcd) (hb _ _ _ _ ?_)
  refine wpAny_newFunctionEnv_cells S.kind hkind fun env he s1 x => ?_
  subst he
  refine ⟨lim.keeps x.toInCall.keep, codeAny_func ?_⟩
  obtain ⟨t, ht, hq⟩ := hbody A outer s H vs Q E (hr.deeper _) hsp
  have I : Inv (cxOf CX P w K mg base N qual scope f cdv A outer s H E) [] (start N vs) H s1 := inv_start S hr.hd e0 hl r x
  refine wpAny_mono (ht [] s1 (start N vs) H _ I hq) (fun fl s' hs => ?_) fun e s' hs => hs
  have fin : ∀ {σ' : St} {H' : Hp} {v : V} {u : Value}, Inv (cxOf CX P w K mg base N qual scope f cdv A outer s H E) [] σ' H' s' → RelV v u → Q v H' → CE outer P w H s Q u s' :=
    fun {σ' H' v u} J rv q => ⟨v, H', J.os, J.bare, J.base, J.hok, rv, q⟩
  cases fl with
  | ret u =>
    obtain ⟨v, σ', H', J, rv, q⟩ := hs
    exact fin J rv q
  | next =>
    obtain ⟨σ', H', J, q⟩ := hs
    exact fin (v := V.non) (u := Value.none) J rfl q
  | brk =>
    obtain ⟨_, _, _, q⟩ := hs
    exact False.elim q
  | cont =>
    obtain ⟨_, _, _, q⟩ := hs
    exact False.elim q
end L2
namespace L2
open PySem PySem.Spec PyProof.Rows
section
variable {X : Cx} {x : Str} {p pos : Pos} {e : Expr} {es : List Expr} {t : TA} {id T : String} {r : List V → Hp → VK → Prop}
def tCB (r : List V → Hp → VK → Prop) (t : TA) : TE := fun σ H Q => t σ H fun vs H1 => r vs H1 Q
theorem pe_callB (hc : CallR X (.builtin id) r) (hg : Gl X x) (hm : X.mg x = none) (hv : bootBuiltins x = some (.builtin id)) (ha : PA X (e :: es) t) (hn : x ≠ "__name__" := by decide) (hdb : (x == ("__debug__" : Str)) = false := by decide)
    (he : starEach (e :: es) X.env = (false, eval e X.env) :: starEach es X.env := by rfl) (hpl : (backTo pos (starEach es X.env)).any (·.1) = false := by rfl) : PE X (.Call (.Name x p) (e :: es) [] pos) (tCB r t) := by
  intro pins s σ H Q I h
  refine wpAny_Call_Name_kw (ld_blt I hg hm hv ?_ hn hdb)
  exact PyProof.Rows.callWith_builtin1 (thn (ha pos pins s σ H _ I h) fun us s1 ⟨vs, H1, I1, r1, q1⟩ => hc pins s1 σ H1 vs us Q I1 r1 q1) he hpl
theorem pe_callTy (hc : CallR X (.type T) r) (hg : Gl X x) (hm : X.mg x = none) (hv : bootBuiltins x = some (.type T)) (ha : PA X (e :: es) t) (hn : x ≠ "__name__" := by decide) (hdb : (x == ("__debug__" : Str)) = false := by decide)
    (he : starEach (e :: es) X.env = (false, eval e X.env) :: starEach es X.env := by rfl) (hpl : (backTo pos (starEach es X.env)).any (·.1) = false := by rfl) : PE X (.Call (.Name x p) (e :: es) [] pos) (tCB r t) := by
  intro pins s σ H Q I h
  refine wpAny_Call_Name_kw (ld_blt I hg hm hv ?_ hn hdb)
  exact PyProof.Rows.callWith_type1 (thn (ha pos pins s σ H _ I h) fun us s1 ⟨vs, H1, I1, r1, q1⟩ => hc pins s1 σ H1 vs us Q I1 r1 q1) he hpl
end
end L2
namespace HT
open PySem PyProof.Rows
def lexLt : List Int → List Int → Bool
  | [], [] => false
  | [], _ :: _ => true
  | _ :: _, [] => false
  | x :: xs, y :: ys => if x = y then lexLt xs ys else decide (x < y)
section
open PySem.SeqAt
open PySem.AutoSeq1 (wpAny_loadPart')
open PySem.MeetsSeq PySem.MeetsSeq2 PySem.MeetsSeq3
end
section
variable {prog : Program} {w : World} {A : Around} {E : Value → Shared → Prop} {s : Shared}
def sIx (n d : Nat) : Option Int → Nat
  | none => d
  | some v => if v < 0 then (v + (n : Int)).toNat else min v.toNat n
theorem sIx_le (n d : Nat) (hd : d ≤ n) (o : Option Int) : sIx n d o ≤ n := by
  cases o with
  | none => exact hd
  | some v =>
    show (if v < 0 then (v + (n : Int)).toNat else min v.toNat n) ≤ n
    by_cases hv : v < 0
    · rw [if_pos hv]; omega
    · rw [if_neg hv]; exact Nat.min_le_right _ _
theorem clip_eq (v : Int) (n d : Nat) : (if v < 0 then max (v + (n : Int)) 0 else min v (n : Int)) = ((sIx n d (some v) : Nat) : Int) := by
  show (if v < 0 then max (v + (n : Int)) 0 else min v (n : Int)) = (((if v < 0 then (v + (n : Int)).toNat else min v.toNat n) : Nat) : Int)
  by_cases hv : v < 0
  · simp only [if_pos hv]; omega
  · simp only [if_neg hv]; omega
theorem adjust_gen (lo hi : Option Int) (n : Nat) : Builtin.Slice.sliceAdjust lo hi 1 (n : Int) = (((sIx n 0 lo : Nat) : Int), ((sIx n n hi : Nat) : Int)) := by
  have h1 : ¬ ((1 : Int) < 0) := by omega
  unfold Builtin.Slice.sliceAdjust
  simp only [h1, if_false]
  refine Prod.ext ?_ ?_
  · cases lo with
    | none => rfl
    | some v => exact clip_eq v n 0
  · cases hi with
    | none => rfl
    | some v => exact clip_eq v n n
theorem places_gen (i j : Nat) : Builtin.Slice.slicePlaces (i : Int) (j : Int) 1 = j - i := by
  unfold Builtin.Slice.slicePlaces
  have h1 : (1 : Int) > 0 := by omega
  simp only [h1, if_true, Int.ediv_one]
  split <;> omega
theorem slicePart_ {v : Value} {o : Option Int} {Q : Option Int → Shared → Prop} (p : IsPart v o) (h : Q o s) : wpAny (model prog w) A (Builtin.Slice.slicePartIndex v) Q E s := by
  cases p with
  | none => exact slicePart_none h
  | int i t => exact slicePart_int h
theorem sliceApplied_gen {sl : Addr} {vl vu : Value} {lo hi : Option Int} {n : Nat} {Q : Int × Int × Nat → Shared → Prop} (hs : s.heap.IsSliceOf sl vl vu .none) (pl : IsPart vl lo) (pu : IsPart vu hi)
    (h : Q (((sIx n 0 lo : Nat) : Int), 1, sIx n n hi - sIx n 0 lo) s) : wpAny (model prog w) A (Builtin.Slice.sliceApplied (.ref sl) (pure (n : Int))) Q E s := by
  obtain ⟨os, hos, hcs, hds⟩ := id hs
  unfold Builtin.Slice.sliceApplied Builtin.Slice.sliceFields
  refine wpAny_bind (wpAny_bind (wpAny_field hos hds (x := vl) rfl (wpAny_bind (wpAny_field hos hds (x := vu) rfl (wpAny_bind (wpAny_field hos hds (x := .none) rfl (wpAny_pure ?_)))))))
  refine wpAny_bind (slicePart_none ?_)
  show wpAny _ _ (if ((1 : Int) == 0) = true then _ else _) _ _ s
  rw [if_neg (by decide)]
  refine wpAny_bind (slicePart_ pl (wpAny_bind (slicePart_ pu (wpAny_bind (wpAny_pure ?_)))))
  show wpAny _ _ (match Builtin.Slice.sliceAdjust lo hi 1 (n : Int) with | (lo, hi) => pure (lo, (1 : Int), Builtin.Slice.slicePlaces lo hi 1)) _ _ s
  rw [adjust_gen lo hi n]
  show wpAny _ _ (pure (((sIx n 0 lo : Nat) : Int), (1 : Int), Builtin.Slice.slicePlaces ((sIx n 0 lo : Nat) : Int) ((sIx n n hi : Nat) : Int) 1)) _ _ s
  rw [places_gen]
  exact wpAny_pure h
theorem pick_gen (xs : Array Value) (i k : Nat) : ((List.range k).filterMap fun (m : Nat) => xs[((i : Int) + (m : Int) * 1).toNat]?).toArray = ((xs.toList.drop i).take k).toArray := by
  have e : (fun (m : Nat) => xs[((i : Int) + (m : Int) * 1).toNat]?) = fun m => xs[i + m]? := by
    funext m
    have : ((i : Int) + (m : Int) * 1).toNat = i + m := by omega
    rw [this]
  rw [e]
  have := pick_run xs i k
  rw [List.filterMap_map] at this
  have e2 : ((fun x => xs[x]?) ∘ fun x => i + x) = fun m => xs[i + m]? := rfl
  rw [e2] at this
  rw [this]
theorem getItem_tuple_cut {t sl : Addr} {items : Array Value} {vl vu : Value} {lo hi : Option Int} {Q : Value → Shared → Prop} (ht : IsTup s.heap t items) (hs : s.heap.IsSliceOf sl vl vu .none) (pl : IsPart vl lo) (pu : IsPart vu hi)
    (hw : ¬ (sIx items.size 0 lo = 0 ∧ sIx items.size items.size hi = items.size))
    (h : Q (.ref s.heap.objs.size) { s with heap := s.heap.push { cls := .type "tuple", data := .seq ((items.toList.drop (sIx items.size 0 lo)).take (sIx items.size items.size hi - sIx items.size 0 lo)).toArray } })
    (hsz : items.size ≤ sizeLine) : wpAny (model prog w) A (getItem (.ref t) (.ref sl)) Q E s := by
  have htake : sizeOk (.seq ((items.toList.drop (sIx items.size 0 lo)).take (sIx items.size items.size hi - sIx items.size 0 lo)).toArray) := by
    show ((items.toList.drop (sIx items.size 0 lo)).take (sIx items.size items.size hi - sIx items.size 0 lo)).toArray.size ≤ sizeLine
    rw [List.size_toArray, List.length_take, List.length_drop, Array.length_toList]
    omega
  have hj : sIx items.size items.size hi ≤ items.size := sIx_le _ _ (Nat.le_refl _) hi
  obtain ⟨os, hos, hcs, hds⟩ := id hs
  have hTs : s.TypeIs (.ref sl) "slice" := ⟨os, hos, hcs⟩
  unfold getItem
  try with_reducible refine wpAny_holding ?_
  first | refine wpAny_bind (wpAny_pure ?_) | skip
  refine wpAny_bind (wpAny_sequenceKey ht.typeIs (by decide) ?_)
  refine wpAny_bind (wpAny_callSpecial?_slot (name := Str.ofString "__getitem__") ht.typeIs PyProof.Rows.slot_tuple_getitem
    (wpAny_call_entry PyProof.Rows.slot_tuple_getitem ht.typeIs entry_tuple_getitem ?_ (args_tuple_getitem _ _)))
  show wpAny _ _ (Builtin.Tuple.tupleItemsOf (.ref t) >>= _) _ _ s
  refine wpAny_bind (tupleItemsOf_ ht ?_)
  refine wpAny_bind (wpAny_typeOf hTs ?_)
  rw [if_pos (by decide)]
  refine wpAny_bind (sliceApplied_gen hs pl pu ?_)
  have hno : ¬ ((((sIx items.size 0 lo : Nat) : Int) == 0 && (1 : Int) == 1 && (sIx items.size items.size hi - sIx items.size 0 lo) == items.size) = true) := by
    intro q
    rw [Bool.and_eq_true, Bool.and_eq_true] at q
    have q1 : ((sIx items.size 0 lo : Nat) : Int) = 0 := eq_of_beq q.1.1
    have q2 : sIx items.size items.size hi - sIx items.size 0 lo = items.size := eq_of_beq q.2
    exact hw ⟨by omega, by omega⟩
  show wpAny _ _ (if (((sIx items.size 0 lo : Nat) : Int) == 0 && (1 : Int) == 1 && (sIx items.size items.size hi - sIx items.size 0 lo) == items.size) = true then _ else _) _ _ s
  rw [if_neg hno, pick_gen]
  first
    | exact wpAny_bind (m := Builtin.Tuple.tupleExact _) (wpAny_newObj_type (wpAny_pure ⟨_, rfl, wpAny_pure h⟩) htake)
    | exact wpAny_bind (m := Builtin.Tuple.tupleExact _) (wpAny_newObj_type (wpAny_bind (wpAny_pure (wpAny_pure ⟨_, rfl, wpAny_pure h⟩))) htake)
    | exact wpAny_bind (wpAny_bind (m := Builtin.Tuple.tupleExact _) (wpAny_newObj_type (wpAny_pure (wpAny_pure ⟨_, rfl, wpAny_pure h⟩)) htake))
    | exact wpAny_bind (wpAny_bind (m := Builtin.Tuple.tupleExact _) (wpAny_newObj_type (wpAny_pure ⟨_, rfl, wpAny_pure h⟩) htake))
end
end HT
namespace L2
open PySem PySem.Spec PyProof.Rows
abbrev TO := St → Hp → (Option Int → Hp → Prop) → Prop
def PO (X : Cx) (e : Option Expr) (t : TO) : Prop :=
  ∀ (pins : List (Addr × Obj)) (s : Shared) (σ : St) (H : Hp) (Q : Option Int → Hp → Prop), Inv X pins σ H s → t σ H Q →
    wpAny (model X.prog X.w) X.A (evalPart e X.env) (fun u s' => ∃ o H', Inv X pins σ H' s' ∧ IsPart u o ∧ Q o H') X.xe s
def tNoPart : TO := fun _ H Q => Q none H
def tPart (t : TE) : TO := fun σ H Q => t σ H fun x H1 => ∃ i, x = .int i ∧ Q (some i) H1
section
variable {X : Cx} {e : Expr} {te : TE} {lo hi : Option Expr} {tl th : TO} {pos p2 : Pos}
theorem po_none : PO X none tNoPart := by
  intro pins s σ H Q I h
  rw [evalPart_none]
  exact wpAny_pure ⟨none, H, I, .none, h⟩
theorem po_some (h : PE X e te) : PO X (some e) (tPart te) := by
  intro pins s σ H Q I hw
  rw [evalPart_some]
  refine thn (h pins s σ H _ I hw) fun u s1 ⟨x, H1, I1, r1, q1⟩ => ?_
  obtain ⟨i, rfl, q⟩ := q1
  obtain ⟨t, rfl⟩ := r1
  exact ⟨some i, H1, I1, .int i t, q⟩
def SlR (X : Cx) (r : V → Option Int → Option Int → Hp → VK → Prop) : Prop :=
  ∀ (pins : List (Addr × Obj)) (s : Shared) (σ : St) (H : Hp) (x : V) (v vl vu : Value) (lo hi : Option Int) (sl : Addr) (Q : VK), Inv X pins σ H s → RelV x v → s.heap.IsSliceOf sl vl vu .none → IsPart vl lo → IsPart vu hi → r x lo hi H Q →
    ∃ T id, typeLookup (.type T) "__getitem__" = pure (some (.builtin id)) ∧ s.TypeIs v T ∧ wpAny (model X.prog X.w) X.A (getItem v (.ref sl)) (EP X pins σ Q) X.xe s
def tSl (r : V → Option Int → Option Int → Hp → VK → Prop) (te : TE) (tl th : TO) : TE := fun σ H Q => te σ H fun x H1 => tl σ H1 fun l H2 => th σ H2 fun u H3 => r x l u H3 Q
theorem pe_slice {r : V → Option Int → Option Int → Hp → VK → Prop} (hr : SlR X r) (he : PE X e te) (hl : PO X lo tl) (hu : PO X hi th) : PE X (.Subscript e (.Slice lo hi none p2) pos) (tSl r te tl th) := by
  intro pins s σ H Q I h
  refine Subscript_ (thn (he pins s σ H _ I h) fun v s1 ⟨x, H1, I1, r1, q1⟩ => ?_)
  refine wpAny_Slice (thn (hl pins s1 σ H1 _ I1 q1) fun vl s2 ⟨l, H2, I2, pl, q2⟩ => thn (hu pins s2 σ H2 _ I2 q2) fun vu s3 ⟨u, H3, I3, pu, q3⟩ => ?_)
  rw [evalPart_none]
  refine wpAny_pure ?_
  have I4 : Inv X pins σ H3 { s3 with heap := s3.heap.push { cls := .type "slice", data := .fields #[vl, vu, .none] } } := I3.kept (t' := s3.toks) fun b ob q => Heap.get?_push_of_some _ q
  obtain ⟨T, id, hT, ht, hg⟩ := hr pins { s3 with heap := s3.heap.push { cls := .type "slice", data := .fields #[vl, vu, .none] } } σ H3 x v vl vu l u s3.heap.objs.size Q I4 r1 (Heap.IsSliceOf.new ..) pl pu q3
  show wpAny (model X.prog X.w) X.A (subscriptTail e (.Slice lo hi none p2) v (.ref s3.heap.objs.size)) (EP X pins σ Q) X.xe { s3 with heap := s3.heap.push { cls := .type "slice", data := .fields #[vl, vu, .none] } }
  exact tail_any (ops := [.ref s3.heap.objs.size, v]) ht hT hg (by with_unfolding_all rfl)
def cutV (xs : List V) (lo hi : Option Int) : List V := (xs.drop (HT.sIx xs.length 0 lo)).take (HT.sIx xs.length xs.length hi - HT.sIx xs.length 0 lo)
theorem cutV_length (xs : List V) (lo hi : Option Int) : (cutV xs lo hi).length ≤ xs.length := by
  unfold cutV
  rw [List.length_take, List.length_drop]
  omega
def rSlT (K : PySem.W.Frag) : V → Option Int → Option Int → Hp → VK → Prop := fun x lo hi H Q => ∃ a xs, x = .ref a ∧ SqT K H a xs ∧
  ¬ (HT.sIx xs.length 0 lo = 0 ∧ HT.sIx xs.length xs.length hi = xs.length) ∧ ∀ p, H p = none → Q (.ref p) (upd H p (.tup (cutV xs lo hi)))
theorem sl_tup : SlR X (rSlT X.K) := by
  intro pins s σ H x v vl vu lo hi sl Q I rx hs pl pu h
  obtain ⟨a, xs, rfl, hx, hw, q⟩ := h
  cases rx
  obtain ⟨its, r, ht, hz⟩ := I.tuple hx
  have hlen : its.toArray.size = xs.length := by rw [List.size_toArray]; exact r.length.symm
  refine ⟨"tuple", _, PyProof.Rows.slot_tuple_getitem.lookup, ht.typeIs, ?_⟩
  refine HT.getItem_tuple_cut ht hs pl pu (by rw [hlen]; exact hw) ?_ (by rw [hlen]; exact hz)
  rw [hlen]
  refine ⟨.ref s.heap.objs.size, _, I.laid (t' := s.toks) (o := .tup (cutV xs lo hi)) (fun b ob q => Heap.get?_push_of_some _ q) (Nat.le_refl _) ?_, rfl, q _ (I.hok.fresh (Nat.le_refl _))⟩
  exact ⟨Nat.le_trans (cutV_length xs lo hi) hz, _, (r.drop (HT.sIx xs.length 0 lo)).take (HT.sIx xs.length xs.length hi - HT.sIx xs.length 0 lo), IsTup.new _ _⟩
def rLtT (K : PySem.W.Frag) : R2 := fun x y H Q => ∃ a b ns ms, x = .ref a ∧ y = .ref b ∧ SqT K H a (ns.map V.int) ∧ SqT K H b (ms.map V.int) ∧ Q (.bl (HT.lexLt ns ms)) H
def rCatT (K : PySem.W.Frag) : R2 := fun x y H Q => ∃ a b xs ys, x = .ref a ∧ y = .ref b ∧ SqT K H a xs ∧ SqT K H b ys ∧ xs ≠ [] ∧ xs.length + ys.length ≤ sizeLine ∧
  (ys = [] → Q (.ref a) H) ∧ (ys ≠ [] → ∀ p, H p = none → Q (.ref p) (upd H p (.tup (xs ++ ys))))
end
end L2
namespace L2
open PySem PySem.Spec PyProof.Rows
def ixN (n : Nat) (i : Int) : Option Nat := if 0 ≤ i then (if i < n then some i.toNat else none) else if -(n : Int) ≤ i then some (i + n).toNat else none
def atI {α : Type} (xs : List α) (i : Int) : Option α := (ixN xs.length i).bind fun j => xs[j]?
theorem ixN_seq {n : Nat} {i : Int} {j : Nat} (h : ixN n i = some j) : seqIndex? i n = some j ∧ j < n ∧ -(n : Int) ≤ i ∧ i < n := by
  unfold ixN at h
  by_cases h0 : 0 ≤ i
  · rw [if_pos h0] at h
    by_cases h1 : i < n
    · rw [if_pos h1] at h
      have e : i.toNat = j := Option.some.inj h
      exact ⟨by rw [seqIndex_of h0 h1, e], by omega, by omega, h1⟩
    · rw [if_neg h1] at h; cases h
  · rw [if_neg h0] at h
    by_cases h1 : -(n : Int) ≤ i
    · rw [if_pos h1] at h
      have e : (i + n).toNat = j := Option.some.inj h
      exact ⟨by rw [seqIndex_neg (by omega) h1, e], by omega, h1, by omega⟩
    · rw [if_neg h1] at h; cases h
theorem atI_get {α : Type} {xs : List α} {i : Int} {v : α} (h : atI xs i = some v) : ∃ j, seqIndex? i xs.length = some j ∧ xs[j]? = some v ∧ j < xs.length ∧ -(xs.length : Int) ≤ i ∧ i < xs.length := by
  unfold atI at h
  cases e : ixN xs.length i with
  | none => rw [e] at h; cases h
  | some j =>
    rw [e] at h
    obtain ⟨h1, h2, h3, h4⟩ := ixN_seq e
    exact ⟨j, h1, h, h2, h3, h4⟩
theorem atI_nat {α : Type} {xs : List α} {j : Nat} {v : α} (h : xs[j]? = some v) : atI xs (j : Int) = some v := by
  have hj : j < xs.length := (List.getElem?_eq_some_iff.mp h).1
  have e : ixN xs.length (j : Int) = some j := by
    unfold ixN
    rw [if_pos (by omega), if_pos (by omega)]; simp
  unfold atI; rw [e]; exact h
def PlainIx (b : Expr) : Prop := ∀ o i, subscripted b false o i = operate [o, i] (getItem o i)
def IxR (X : Cx) (r : R2) : Prop :=
  ∀ (value slice : Expr) (pins : List (Addr × Obj)) (s : Shared) (σ : St) (H : Hp) (x y : V) (v u : Value) (Q : VK), Inv X pins σ H s → RelV x v → RelV y u → r x y H Q →
    subscripted slice false v u = operate [v, u] (getItem v u) → wpAny (model X.prog X.w) X.A (subscriptTail value slice v u) (EP X pins σ Q) X.xe s
def MtR (X : Cx) (id : String) (r : V → List V → Hp → VK → Prop) : Prop :=
  ∀ (pins : List (Addr × Obj)) (s : Shared) (σ : St) (H : Hp) (x : V) (xs : List V) (v : Value) (us : List Value) (Q : VK), Inv X pins σ H s → RelV x v → Vals xs us → r x xs H Q →
    wpAny (model X.prog X.w) X.A (call (.builtin id) (v :: us)) (EP X pins σ Q) X.xe s
section
variable {X : Cx} {a b : Expr} {ta tb : TE} {pos : Pos}
theorem pe_ix {r : R2} (hr : IxR X r) (ha : PE X a ta) (hb : PE X b tb) (hs : PlainIx b) : PE X (.Subscript a b pos) (tOp r ta tb) := by
  intro pins s σ H Q I h
  exact Subscript_ (binT ha hb I h fun v u s2 x y H2 I2 rx ry q => hr a b pins s2 σ H2 x y v u Q I2 rx ry q (hs _ _))
def rIxL (K : PySem.W.Frag) : R2 := fun x y H Q => ∃ p xs i v, x = .ref p ∧ y = .int i ∧ SqL K H p xs ∧ atI xs i = some v ∧ Q v H
def rIxT (K : PySem.W.Frag) : R2 := fun x y H Q => ∃ p xs i v, x = .ref p ∧ y = .int i ∧ SqT K H p xs ∧ atI xs i = some v ∧ Q v H
def rIxS : R2 := fun x y H Q => ∃ z i c, x = .str z ∧ y = .int i ∧ z.length ≤ sizeLine ∧ atI z.cps.toList i = some c ∧ Q (.str ⟨#[c]⟩) H
theorem ix_list : IxR X (rIxL X.K) := by
  intro value slice pins s σ H x y v u Q I rx ry h hs
  obtain ⟨p, xs, i, z, rfl, rfl, hq, he, q⟩ := h
  cases rx
  obtain ⟨t, rfl⟩ := ry
  obtain ⟨its, r, pl, hz⟩ := I.list hq
  obtain ⟨j, h1, h2, h3, h4, h5⟩ := atI_get he
  obtain ⟨w, ew, rw'⟩ := r.get h2
  have hl := r.length
  have hn := line63
  have fin : EP X pins σ Q w s := ⟨z, H, I, rw', q⟩
  by_cases h0 : 0 ≤ i
  · have hj : i.toNat = j := by
      rw [seqIndex_of h0 h5] at h1
      exact Option.some.inj h1
    exact item_listR pl.isList h0 (by omega) (by rw [hj]; simpa using ew) fin hs
  · have hj : (i + (its.toArray.size : Int)).toNat = j := by
      rw [seqIndex_neg (by omega) h4] at h1
      rw [List.size_toArray, ← hl]
      exact Option.some.inj h1
    exact subscriptTail_builtinR (x := w) pl.isList.typeIs slot_list_getitem.lookup
      (wpAny_getItem_list_neg (Q := fun r s' => r = w ∧ EP X pins σ Q r s') pl.isList (by omega) (by rw [List.size_toArray] <;> omega) (by omega) (by rw [hj]; simpa using ew) ⟨rfl, fin⟩) hs
theorem ix_tup : IxR X (rIxT X.K) := by
  intro value slice pins s σ H x y v u Q I rx ry h hs
  obtain ⟨p, xs, i, z, rfl, rfl, hq, he, q⟩ := h
  cases rx
  obtain ⟨t, rfl⟩ := ry
  obtain ⟨its, r, pl, hz⟩ := I.tuple hq
  obtain ⟨j, h1, h2, h3, h4, h5⟩ := atI_get he
  obtain ⟨w, ew, rw'⟩ := r.get h2
  have hl := r.length
  have hn := line63
  have fin : EP X pins σ Q w s := ⟨z, H, I, rw', q⟩
  exact subscriptTail_builtinR (x := w) pl.typeIs slot_tuple_getitem.lookup
    (getItem_tuple (j := j) (Q := fun r s' => r = w ∧ EP X pins σ Q r s') pl (by omega) (by omega) (by rw [List.size_toArray, ← hl]; exact h1) (by simpa using ew) ⟨rfl, fin⟩) hs
def rIx (K : PySem.W.Frag) : R2 := fun x y H Q => rIxL K x y H Q ∨ rIxT K x y H Q ∨ rIxS x y H Q
theorem mapSeq_set (its : List Value) (n j : Nat) (u : Value) : Obj.mapSeq (·.setIfInBounds j u) { cls := .type "list", data := .seq its.toArray n } = { cls := .type "list", data := .seq (its.set j u).toArray n } := by
  simp [Obj.mapSeq]
theorem Inv.lst {pins : List (Addr × Obj)} {σ : St} {H : Hp} {s : Shared} {p : Addr} {xs : List V} (I : Inv X pins σ H s) (h : H p = some (.lst xs)) :
    ∃ (its : List Value) (n : Nat), Vals xs its ∧ s.heap.get? p = some { cls := .type "list", data := .seq its.toArray n } ∧ xs.length ≤ sizeLine := by
  obtain ⟨z, its, n, r, e⟩ := I.hok p _ h
  exact ⟨its, n, r, e, z⟩
theorem Inv.lstUpd {pins : List (Addr × Obj)} {σ : St} {H : Hp} {s : Shared} {p : Addr} {xs ys : List V} {its its' : List Value} {n n' : Nat} {f : Obj → Obj} (I : Inv X pins σ H s) (h : H p = some (.lst xs))
    (ho : s.heap.get? p = some { cls := .type "list", data := .seq its.toArray n }) (hf : f { cls := .type "list", data := .seq its.toArray n } = { cls := .type "list", data := .seq its'.toArray n' }) (r : Vals ys its') (hz : ys.length ≤ sizeLine) (t : Nat) :
    Inv X pins σ (upd H p (.lst ys)) { s with heap := s.heap.update p f, toks := t } := by
  have e : (s.heap.update p f).get? p = some { cls := .type "list", data := .seq its'.toArray n' } := by
    rw [Heap.get?_update_self f ho (by rw [hf] <;> rfl), hf]
  refine I.write (x := p) (e := p) (by rw [h]; trivial) (.inl rfl) (fun b u hb q => (Heap.get?_update_other _ _ (Ne.symm hb)).trans q) ⟨_, e⟩ ?_
  exact ⟨hz, its', n', r, e⟩
def rSetL : V → V → V → Hp → (Hp → Prop) → Prop := fun o i v H Q => ∃ p xs k j, o = .ref p ∧ i = .int k ∧ H p = some (.lst xs) ∧ ixN xs.length k = some j ∧ Q (upd H p (.lst (xs.set j v)))
theorem set_list : PSet X rSetL := by
  intro pins s σ H o i v ov iv u Q I ro ri rv h
  obtain ⟨p, xs, k, j, rfl, rfl, hp, hj, q⟩ := h
  cases ro
  obtain ⟨t, rfl⟩ := ri
  obtain ⟨its, n, r, ho, hz⟩ := I.lst hp
  obtain ⟨h1, h2, h3, h4⟩ := ixN_seq hj
  have hl := r.length
  have hn := line63
  have I' : Inv X pins σ (upd H p (.lst (xs.set j v))) { s with heap := s.heap.update p (Obj.mapSeq (·.setIfInBounds j u)) } :=
    I.lstUpd hp ho (mapSeq_set its n j u) (r.set rv j) (by rw [List.length_set]; exact hz) s.toks
  by_cases h0 : 0 ≤ k
  · have hk : k.toNat = j := by
      rw [seqIndex_of h0 h4] at h1
      exact Option.some.inj h1
    exact PySem.W.ki_setAt ho h0 (by omega) (by rw [List.size_toArray, ← hl]; exact h4) (by rw [hk]; exact ⟨_, I', q⟩)
  · have hk : (k + (its.toArray.size : Int)).toNat = j := by
      rw [seqIndex_neg (by omega) h3] at h1
      rw [List.size_toArray, ← hl]
      exact Option.some.inj h1
    exact PySem.W.ki_setBack ho (by omega) (by rw [List.size_toArray, ← hl]; exact h3) (by omega) (by rw [hk]; exact ⟨_, I', q⟩)
def rSlL (K : PySem.W.Frag) : V → Option Int → Option Int → Hp → VK → Prop := fun x lo hi H Q => ∃ a xs, x = .ref a ∧ SqL K H a xs ∧ ∀ p, H p = none → Q (.ref p) (upd H p (.lst (cutV xs lo hi)))
def flatV : V → Bool
  | .non => true
  | .bl _ => true
  | .int _ => true
  | .str _ => true
  | _ => false
def eqV : V → V → Bool
  | .non, .non => true
  | .bl a, .bl b => a == b
  | .bl a, .int b => (if a then 1 else 0) == b
  | .int a, .bl b => a == (if b then 1 else 0)
  | .int a, .int b => a == b
  | .str a, .str b => a == b
  | _, _ => false
theorem eqAt_V {A : Around} {s : Shared} {y x : V} {u v : Value} (ry : RelV y u) (rx : RelV x v) (fy : flatV y = true) (fx : flatV x = true) : SeqAt.EqAt A s u v (eqV y x) := by
  cases y with
  | non =>
    cases ry
    cases x with
    | non => cases rx; exact SeqAt.EqAt.same _
    | bl b => cases rx; exact SeqAt.EqAt.none_bool b
    | int b => obtain ⟨t, rfl⟩ := rx; exact SeqAt.EqAt.none_int b t
    | str b => obtain ⟨t, rfl⟩ := rx; exact SeqAt.EqAt.none_str b t
    | _ => exact absurd (show false = true from fx) Bool.false_ne_true
  | bl a =>
    cases ry
    cases x with
    | non => cases rx; exact SeqAt.EqAt.bool_none a
    | bl b => cases rx; exact SeqAt.EqAt.bool_bool a b
    | int b => obtain ⟨t, rfl⟩ := rx; exact SeqAt.EqAt.bool_int a b t
    | str b => obtain ⟨t, rfl⟩ := rx; exact SeqAt.EqAt.bool_str a b t
    | _ => exact absurd (show false = true from fx) Bool.false_ne_true
  | int a =>
    obtain ⟨t', rfl⟩ := ry
    cases x with
    | non => cases rx; exact SeqAt.EqAt.int_none a t'
    | bl b => cases rx; exact SeqAt.EqAt.int_bool a t' b
    | int b => obtain ⟨t, rfl⟩ := rx; exact SeqAt.EqAt.int_int a t' b t
    | str b => obtain ⟨t, rfl⟩ := rx; exact SeqAt.EqAt.int_str a t' b t
    | _ => exact absurd (show false = true from fx) Bool.false_ne_true
  | str a =>
    obtain ⟨t', rfl⟩ := ry
    cases x with
    | non => cases rx; exact SeqAt.EqAt.str_none a t'
    | bl b => cases rx; exact SeqAt.EqAt.str_bool a t' b
    | int b => obtain ⟨t, rfl⟩ := rx; exact SeqAt.EqAt.str_int a t' b t
    | str b => obtain ⟨t, rfl⟩ := rx; exact SeqAt.EqAt.str_str a t' b t
    | _ => exact absurd (show false = true from fx) Bool.false_ne_true
  | _ => exact absurd (show false = true from fy) Bool.false_ne_true
def eqU (x : V) (u : Value) : Bool := match u with
  | .none => eqV .non x
  | .bool b => eqV (.bl b) x
  | .int i _ => eqV (.int i) x
  | .str z _ => eqV (.str z) x
  | _ => false
theorem eqU_of {x y : V} {u : Value} (r : RelV y u) (f : flatV y = true) : eqU x u = eqV y x := by
  cases y with
  | non => cases r; rfl
  | bl b => cases r; rfl
  | int i => obtain ⟨t, rfl⟩ := r; rfl
  | str z => obtain ⟨t, rfl⟩ := r; rfl
  | _ => exact absurd (show false = true from f) Bool.false_ne_true
theorem any_eqU {x : V} : ∀ {xs : List V} {us : List Value}, Vals xs us → xs.all flatV = true → us.any (eqU x) = xs.any fun y => eqV y x
  | _, _, .nil, _ => rfl
  | y :: xs, u :: us, .cons r t, f => by
    rw [List.all_cons, Bool.and_eq_true] at f
    rw [List.any_cons, List.any_cons, eqU_of r f.1, any_eqU t f.2]
theorem mem_eqAt {A : Around} {s : Shared} {x : V} {v : Value} (rx : RelV x v) (fx : flatV x = true) : ∀ {xs : List V} {us : List Value}, Vals xs us → xs.all flatV = true → ∀ u ∈ us, SeqAt.EqAt A s u v (eqU x u)
  | _, _, .nil, _ => fun u hu => by cases hu
  | y :: xs, u :: us, .cons r t, f => fun u' hu => by
    rw [List.all_cons, Bool.and_eq_true] at f
    rcases List.mem_cons.mp hu with rfl | hu
    · rw [eqU_of r f.1]; exact eqAt_V r rx f.1 fx
    · exact mem_eqAt rx fx t f.2 u' hu
def inV (x : V) (xs : List V) : Bool := xs.any fun y => eqV y x
def rIn (K : PySem.W.Frag) (neg : Bool) : R2 := fun x y H Q => ∃ p xs, y = .ref p ∧ (SqL K H p xs ∨ SqT K H p xs) ∧ flatV x = true ∧ xs.all flatV = true ∧ Q (.bl (if neg then !inV x xs else inV x xs)) H
theorem op_in_seq : OpR X (compareOp .In) (rIn X.K false) := by
  intro pins s σ H x y v u Q I rx ry h
  obtain ⟨p, xs, rfl, hq, fx, fs, q⟩ := h
  cases ry
  rcases hq with hq | hq
  · obtain ⟨its, r, pl, hz⟩ := I.list hq
    refine SeqAt.in_listAt (eqU x) pl.isList (fun w hw => mem_eqAt rx fx r fs w (by simpa using hw)) ⟨.bl _, H, I, rfl, ?_⟩
    rw [show its.toArray.any (eqU x) = its.any (eqU x) by simp, any_eqU r fs]
    exact q
  · obtain ⟨its, r, pl, hz⟩ := I.tuple hq
    refine SeqAt.in_tupleAt (eqU x) pl (fun w hw => mem_eqAt rx fx r fs w (by simpa using hw)) ⟨.bl _, H, I, rfl, ?_⟩
    rw [show its.toArray.any (eqU x) = its.any (eqU x) by simp, any_eqU r fs]
    exact q
theorem op_notIn_seq : OpR X (compareOp .NotIn) (rIn X.K true) := by
  intro pins s σ H x y v u Q I rx ry h
  obtain ⟨p, xs, rfl, hq, fx, fs, q⟩ := h
  cases ry
  rcases hq with hq | hq
  · obtain ⟨its, r, pl, hz⟩ := I.list hq
    refine SeqAt.notIn_listAt (eqU x) pl.isList (fun w hw => mem_eqAt rx fx r fs w (by simpa using hw)) ⟨.bl _, H, I, rfl, ?_⟩
    rw [show its.toArray.any (eqU x) = its.any (eqU x) by simp, any_eqU r fs]
    exact q
  · obtain ⟨its, r, pl, hz⟩ := I.tuple hq
    refine SeqAt.notIn_tupleAt (eqU x) pl (fun w hw => mem_eqAt rx fx r fs w (by simpa using hw)) ⟨.bl _, H, I, rfl, ?_⟩
    rw [show its.toArray.any (eqU x) = its.any (eqU x) by simp, any_eqU r fs]
    exact q
theorem call_len_seq : CallR X (.builtin "len") (fun xs H Q => ∃ p ys, xs = [.ref p] ∧ (SqL X.K H p ys ∨ SqT X.K H p ys) ∧ Q (.int ys.length) H) := by
  intro pins s σ H xs us Q I r h
  obtain ⟨p, ys, rfl, hq, q⟩ := h
  obtain ⟨u, rfl, rx⟩ := vals1 r
  cases rx
  have hn := line63
  rcases hq with hq | hq
  · obtain ⟨its, r', pl, hz⟩ := I.list hq
    have hlen := r'.length
    exact Calls.call_len_list pl.isList (by simp only [List.size_toArray] <;> omega) ⟨.int ys.length, H, I.tok _, ⟨s.toks + 1, by rw [List.size_toArray, hlen]⟩, q⟩
  · obtain ⟨its, r', pl, hz⟩ := I.tuple hq
    have hlen := r'.length
    exact len_tuple pl (by simp only [List.size_toArray] <;> omega) ⟨.int ys.length, H, I.tok _, ⟨s.toks + 1, by rw [List.size_toArray, hlen]⟩, q⟩
theorem call_list_of : CallR X (.type "list") (fun xs H Q => ∃ p ys, xs = [.ref p] ∧ (SqL X.K H p ys ∨ SqT X.K H p ys) ∧ ∀ l, H l = none → Q (.ref l) (upd H l (.lst ys))) := by
  intro pins s σ H xs us Q I r h
  obtain ⟨p, ys, rfl, hq, q⟩ := h
  obtain ⟨u, rfl, rx⟩ := vals1 r
  cases rx
  have fin : ∀ (its : List Value), Vals ys its → ys.length ≤ sizeLine → ∀ (h' : Heap) (c' : Nat), (∀ b o', s.heap.get? b = some o' → h'.get? b = some o') →
      h'.get? s.heap.objs.size = some { cls := .type "list", dict := none, data := .seq its.toArray c', slots := #[] } → EP X pins σ Q (.ref s.heap.objs.size) { s with heap := h' } := fun its r' hz h' c' kp e =>
    ⟨.ref s.heap.objs.size, _, I.laid (t' := s.toks) kp (Nat.le_refl _) (show ObjOk X.prog X.w _ h' _ (.lst ys) from ⟨hz, its, c', r', e⟩), rfl, q _ (I.hok.fresh (Nat.le_refl _))⟩
  rcases hq with hq | hq
  · obtain ⟨its, r', pl, hz⟩ := I.list hq
    have hlen := r'.length
    obtain ⟨o, ho, hc, n, hd⟩ := pl.isList
    exact call_list_seq p (.inl rfl) ho hc hd (fun h' c' kp e => fin its r' hz h' c' kp e) (by simp only [List.size_toArray] <;> omega)
  · obtain ⟨its, r', pl, hz⟩ := I.tuple hq
    have hlen := r'.length
    obtain ⟨o, ho, hc, n, hd⟩ := pl
    exact call_list_seq p (.inr rfl) ho hc hd (fun h' c' kp e => fin its r' hz h' c' kp e) (by simp only [List.size_toArray] <;> omega)
theorem call_tuple_of : CallR X (.type "tuple") (fun xs H Q => ∃ p ys, xs = [.ref p] ∧ ((SqL X.K H p ys ∧ ∀ l, H l = none → Q (.ref l) (upd H l (.tup ys))) ∨ (SqT X.K H p ys ∧ Q (.ref p) H))) := by
  intro pins s σ H xs us Q I r h
  obtain ⟨p, ys, rfl, h⟩ := h
  obtain ⟨u, rfl, rx⟩ := vals1 r
  cases rx
  rcases h with ⟨hq, q⟩ | ⟨hq, q⟩
  · obtain ⟨its, r', pl, hz⟩ := I.list hq
    have hlen := r'.length
    refine call_tuple_list pl.isList (fun h' kp => ?_) (by simp only [List.size_toArray] <;> omega)
    have I1 : Inv X pins σ H { s with heap := h' } := I.kept (t' := s.toks) kp
    have I2 : Inv X pins σ (upd H h'.objs.size (.tup ys)) { s with heap := h'.push { cls := .type "tuple", data := .seq its.toArray } } :=
      I1.laid (t' := s.toks) (fun b o e => Heap.get?_push_of_some _ e) (Nat.le_refl _) (show ObjOk X.prog X.w _ _ _ (.tup ys) from ⟨hz, its, r', IsTup.new _ _⟩)
    exact ⟨.ref h'.objs.size, _, I2, rfl, q _ (I1.hok.fresh (Nat.le_refl _))⟩
  · obtain ⟨its, r', pl, hz⟩ := I.tuple hq
    exact call_tuple_same pl ⟨.ref p, H, I, rfl, q⟩
def tyV (K : PySem.W.Frag) (T : String) (x : V) (H : Hp) : Prop := match x with
  | .str _ => T = "str"
  | .int _ => T = "int"
  | .ref p => (T = "list" ∧ ∃ xs, SqL K H p xs) ∨ (T = "tuple" ∧ ∃ o, K.lookup p = some o ∧ o.cls = .type "tuple" ∧ o.dict = none) ∨
      (T = "dict" ∧ ((∃ kvs, H p = some (.dK kvs)) ∨ ∃ kvs, H p = some (.dT kvs))) ∨ (T = "set" ∧ ∃ S n, H p = some (.set S n))
  | _ => False
theorem tyV_is {pins : List (Addr × Obj)} {σ : St} {H : Hp} {s : Shared} {T : String} {x : V} {v : Value} (I : Inv X pins σ H s) (r : RelV x v) (ty : tyV X.K T x H) :
    s.TypeIs v T ∧ ∀ a, v = .ref a → ∃ ob, s.heap.get? a = some ob ∧ ob.dict = none := by
  cases x with
  | str z =>
    obtain ⟨t, rfl⟩ := r
    cases (show T = "str" from ty)
    exact ⟨typeIs_str s z t, fun _ e => nomatch e⟩
  | int i =>
    obtain ⟨t, rfl⟩ := r
    cases (show T = "int" from ty)
    exact ⟨typeIs_int s i t, fun _ e => nomatch e⟩
  | ref p =>
    cases r
    rcases ty with ⟨rfl, xs, hq⟩ | ⟨rfl, o, hk, hc, hd⟩ | ⟨rfl, hk⟩ | ⟨rfl, S, n, hk⟩
    · obtain ⟨its, _, pl, _⟩ := I.list hq
      refine ⟨pl.isList.typeIs, fun a e => ?_⟩
      cases e
      obtain ⟨o, n, e, c, hd, _⟩ := pl
      exact ⟨o, e, hd⟩
    · refine ⟨⟨o, I.kIn p o hk, hc⟩, fun a e => ?_⟩
      cases e
      exact ⟨o, I.kIn _ o hk, hd⟩
    · have z : ∃ o, s.heap.get? p = some o ∧ o.ExactDict := by
        rcases hk with ⟨kvs, hk⟩ | ⟨kvs, hk⟩
        · obtain ⟨_, _, _, _, o, _, _, e, ex, _⟩ := I.hok p _ hk
          exact ⟨o, e, ex⟩
        · obtain ⟨_, _, _, _, o, _, _, e, ex, _⟩ := I.hok p _ hk
          exact ⟨o, e, ex⟩
      obtain ⟨o, e, ex⟩ := z
      refine ⟨⟨o, e, ex.1⟩, fun a e2 => ?_⟩
      cases e2
      exact ⟨o, e, ex.2.1⟩
    · obtain ⟨o, _, _, _, e, ex, _⟩ := I.hok p _ hk
      refine ⟨⟨o, e, ex.1⟩, fun a e2 => ?_⟩
      cases e2
      exact ⟨o, e, ex.2.1⟩
  | _ => exact False.elim ty
def tBM0 (K : PySem.W.Frag) (T : String) (r : V → List V → Hp → VK → Prop) (to : TE) : TE := fun σ H Q => to σ H fun x H1 => tyV K T x H1 ∧ r x [] H1 Q
def tBM (K : PySem.W.Frag) (T : String) (r : V → List V → Hp → VK → Prop) (to : TE) (t : TA) : TE := fun σ H Q => to σ H fun x H1 => tyV K T x H1 ∧ t σ H1 fun xs H2 => r x xs H2 Q
variable {o e : Expr} {es : List Expr} {to : TE} {t : TA} {name : Str} {apos cpos : Pos} {T id : String} {r : V → List V → Hp → VK → Prop}
theorem pe_bm0 (pa : PlainAttrs T) (slot : Slot T name id) (hty : typeOf (.builtin id) = pure (.type "method_descriptor")) (hm : MtR X id r) (ho : PE X o to)
    (hbase : attributeBase o name X.env (eval o X.env) = eval o X.env := by rfl) (hline : (apos.endLine == cpos.line) = true := by rfl) : PE X (.Call (.Attribute o name apos) [] [] cpos) (tBM0 X.K T r to) := by
  intro pins s σ H Q I h
  refine wpAny_Call_method0_late hbase hline (thn (ho pins s σ H _ I h) fun v s1 ⟨x, H1, I1, r1, ty, q1⟩ => ?_)
  obtain ⟨h1, h2⟩ := tyV_is I1 r1 ty
  exact ⟨T, id, pa, slot, hty, h1, h2, Calls.callWith_builtin rfl (PySem.evalArgs_none (hm pins s1 σ H1 x [] v [] Q I1 r1 .nil q1))⟩
theorem pe_bm (pa : PlainAttrs T) (slot : Slot T name id) (hty : typeOf (.builtin id) = pure (.type "method_descriptor")) (hm : MtR X id r) (ho : PE X o to) (ha : PA X (e :: es) t)
    (hbase : attributeBase o name X.env (eval o X.env) = eval o X.env := by rfl)
    (hfew : ((backTo cpos (starEach (e :: es) X.env)).all (fun x => !x.1) && (backToKw cpos (keywordEach [] X.env)).all (fun x => x.1.isSome)
      && decide ((e :: es).length + ([] : List Keyword).length + (if ([] : List Keyword).isEmpty then 0 else 1) < 30)) = true := by rfl)
    (hline : (apos.endLine == cpos.line) = true := by rfl) (hs : starEach (e :: es) X.env = (false, eval e X.env) :: starEach es X.env := by rfl) (hplain : (backTo cpos (starEach es X.env)).any (·.1) = false := by rfl) :
    PE X (.Call (.Attribute o name apos) (e :: es) [] cpos) (tBM X.K T r to t) := by
  intro pins s σ H Q I h
  refine wpAny_Call_method_late hbase hfew hline rfl (thn (ho pins s σ H _ I h) fun v s1 ⟨x, H1, I1, r1, ty, q1⟩ => ?_)
  obtain ⟨h1, h2⟩ := tyV_is I1 r1 ty
  refine ⟨T, id, pa, slot, hty, h1, h2, ?_⟩
  have hA := ha cpos pins s1 σ H1 _ I1 q1
  rw [hs] at hA ⊢
  refine Calls.callWith_builtin (by show (false || (backTo cpos (starEach es X.env)).any (·.1)) = false; rw [hplain] <;> rfl) (Calls.evalArgs_plain ?_)
  exact thn hA fun us s2 ⟨vs, H2, I2, r2, q2⟩ => hm pins s2 σ H2 x vs v us Q I2 r1 r2 q2
end
end L2
namespace L2
open PySem PySem.Spec PyProof.Rows
def MtM (X : Cx) (id : String) (r : V → List V → Hp → VK → Prop) : Prop :=
  ∀ (pins : List (Addr × Obj)) (s : Shared) (σ : St) (H : Hp) (x : V) (xs : List V) (v : Value) (us : List Value) (Q : VK), Inv X pins σ H s → RelV x v → Vals xs us → r x xs H Q →
    wpAny (model X.prog X.w) X.A (call (.builtin id) (v :: us)) (EP X pins σ Q) X.xe s
theorem Vals.one : ∀ {x : V} {us : List Value}, Vals [x] us → ∃ u, us = [u] ∧ RelV x u
  | _, _, .cons r .nil => ⟨_, rfl, r⟩
theorem Vals.zero : ∀ {us : List Value}, Vals [] us → us = []
  | _, .nil => rfl
theorem Vals.dropLast {xs : List V} {us : List Value} (h : Vals xs us) : Vals xs.dropLast us.dropLast := by
  induction h with
  | nil => exact .nil
  | cons r t ih =>
    cases t with
    | nil => exact .nil
    | cons q t' => exact .cons r ih
theorem erase_last {α : Type} (l : List α) : l.eraseIdx (l.length - 1) = l.dropLast := by
  induction l with
  | nil => rfl
  | cons a r ih =>
    cases r with
    | nil => rfl
    | cons b r =>
      have e : (a :: b :: r).length - 1 = ((b :: r).length - 1) + 1 := by
        have h1 : (a :: b :: r).length = r.length + 2 := rfl
        have h2 : (b :: r).length = r.length + 1 := rfl
        omega
      rw [e, List.eraseIdx_cons_succ, ih]
      all_goals rfl
section
variable {X : Cx} {pins : List (Addr × Obj)} {σ : St} {H : Hp} {s : Shared} {l b : Addr} {xs ys zs : List V}
theorem Inv.lset {its its' : List Value} {n : Nat} {f : Array Value → Array Value} {t' : Nat} (I : Inv X pins σ H s) (hH : H l = some (.lst xs))
    (e : s.heap.get? l = some { cls := .type "list", data := .seq its.toArray n }) (hf : f its.toArray = its'.toArray) (hv : Vals ys its') (hz : ys.length ≤ sizeLine) :
    Inv X pins σ (upd H l (.lst ys)) { s with heap := s.heap.update l (Obj.mapSeq f), toks := t' } := by
  have q := PySem.IsL.update e f
  rw [hf] at q
  refine I.write (x := l) (e := l) (by rw [hH]; exact trivial) (.inl rfl) (fun b' u hb hu => (Heap.get?_update_other s.heap (Obj.mapSeq f) (Ne.symm hb)).trans hu) ⟨_, q⟩ ?_
  exact ⟨hz, its', _, hv, q⟩
theorem Inv.lnew {its : List Value} {t' : Nat} (I : Inv X pins σ H s) (hv : Vals ys its) (hz : ys.length ≤ sizeLine) :
    Inv X pins σ (upd H s.heap.objs.size (.lst ys)) { s with heap := s.heap.push { cls := .type "list", data := .seq its.toArray }, toks := t' } :=
  I.laid (fun _ _ q => Heap.get?_push_of_some _ q) (Nat.le_refl _) ⟨hz, its, 0, hv, Heap.get?_push_size _ rfl⟩
theorem Inv.fresh (I : Inv X pins σ H s) : H s.heap.objs.size = none := I.hok.fresh (Nat.le_refl _)
theorem Inv.lstM (I : Inv X pins σ H s) (hH : H l = some (.lst xs)) : xs.length ≤ sizeLine ∧ ∃ (its : List Value) (n : Nat), Vals xs its ∧ xs.length = its.length ∧ s.heap.get? l = some { cls := .type "list", data := .seq its.toArray n } := by
  obtain ⟨z, its, n, r, e⟩ := I.hok l _ hH
  exact ⟨z, its, n, r, r.length, e⟩
end
section
variable {X : Cx}
def rAppend : V → List V → Hp → VK → Prop := fun x vs H Q => ∃ l xs y, x = .ref l ∧ vs = [y] ∧ H l = some (.lst xs) ∧ xs.length < sizeLine ∧ Q .non (upd H l (.lst (xs ++ [y])))
theorem mt_append : MtM X "list.append" rAppend := by
  intro pins s σ H x vs v us Q I rx rv h
  obtain ⟨l, xs, y, rfl, rfl, hH, hz, q⟩ := h
  cases rx
  obtain ⟨u, rfl, ru⟩ := rv.one
  obtain ⟨z, its, n, r, hl, e⟩ := I.lstM hH
  refine call_meets F.slot_list_append ⟨_, e, rfl⟩ F.entry_list_append (F.args_list_append_2 _ _) (PySem.list_append l its.toArray n u (by rw [List.size_toArray]; omega)) ⟨e, ?_⟩
  refine ⟨.non, _, I.lset (its' := its ++ [u]) hH e (by simp) (r.append (.cons ru .nil)) ?_, rfl, q⟩
  rw [List.length_append, List.length_singleton]
  omega
def rExtend : V → List V → Hp → VK → Prop := fun x vs H Q => ∃ l b xs zs, x = .ref l ∧ vs = [.ref b] ∧ H l = some (.lst xs) ∧ H b = some (.lst zs) ∧ xs.length + zs.length ≤ sizeLine ∧ Q .non (upd H l (.lst (xs ++ zs)))
def rPop : V → List V → Hp → VK → Prop := fun x vs H Q => ∃ l xs y, x = .ref l ∧ vs = [] ∧ H l = some (.lst xs) ∧ xs[xs.length - 1]? = some y ∧ Q y (upd H l (.lst xs.dropLast))
theorem mt_pop : MtM X "list.pop" rPop := by
  intro pins s σ H x vs v us Q I rx rv h
  obtain ⟨l, xs, y, rfl, rfl, hH, hy, q⟩ := h
  cases rx
  have hus := rv.zero
  subst hus
  obtain ⟨z, its, n, r, hl, e⟩ := I.lstM hH
  obtain ⟨u, hu, ru⟩ := r.get hy
  have hy' : its.toArray[its.toArray.size - 1]? = some u := by
    show its.toArray[its.length - 1]? = some u
    rw [← Array.getElem?_toList, ← hl]
    exact hu
  refine call_meets F.slot_list_pop ⟨_, e, rfl⟩ F.entry_list_pop (F.args_list_pop_1 _) (MeetsSeq.list_pop_last l its.toArray n u hy' (by rw [List.size_toArray]; omega)) ⟨e, ?_⟩
  refine ⟨y, _, I.lset (its' := its.dropLast) hH e ?_ r.dropLast ?_, ru, q⟩
  · show its.toArray.eraseIdxIfInBounds (its.toArray.size - 1) = its.dropLast.toArray
    rw [List.size_toArray, List.eraseIdxIfInBounds_toArray, erase_last]
  · rw [List.length_dropLast]
    omega
def rPopAt : V → List V → Hp → VK → Prop := fun x vs H Q => ∃ l xs i k y, x = .ref l ∧ vs = [.int i] ∧ H l = some (.lst xs) ∧ -(2 ^ 63) ≤ i ∧ i < 2 ^ 63 ∧ seqIndex? i xs.length = some k ∧ xs[k]? = some y ∧ Q y (upd H l (.lst (xs.eraseIdx k)))
def rReverse : V → List V → Hp → VK → Prop := fun x vs H Q => ∃ l xs, x = .ref l ∧ vs = [] ∧ H l = some (.lst xs) ∧ Q .non (upd H l (.lst xs.reverse))
def rClear : V → List V → Hp → VK → Prop := fun x vs H Q => ∃ l xs, x = .ref l ∧ vs = [] ∧ H l = some (.lst xs) ∧ Q .non (upd H l (.lst []))
theorem mt_clear : MtM X "list.clear" rClear := by
  intro pins s σ H x vs v us Q I rx rv h
  obtain ⟨l, xs, rfl, rfl, hH, q⟩ := h
  cases rx
  have hus := rv.zero
  subst hus
  obtain ⟨z, its, n, r, hl, e⟩ := I.lstM hH
  refine call_meets F.slot_list_clear ⟨_, e, rfl⟩ F.entry_list_clear (F.args_list_clear_1 _) (AutoSeq1.list_clear_list_0 l its.toArray n (by rw [List.size_toArray]; omega)) ⟨e, ?_⟩
  exact ⟨.non, _, I.lset (its' := []) (ys := []) hH e rfl .nil (Nat.zero_le _), rfl, q⟩
def rCat : R2 := fun x y H Q => ∃ l b xs zs, x = .ref l ∧ y = .ref b ∧ H l = some (.lst xs) ∧ H b = some (.lst zs) ∧ xs.length + zs.length ≤ sizeLine ∧ ∀ p, H p = none → Q (.ref p) (upd H p (.lst (xs ++ zs)))
theorem op_cat : OpR X (binaryOp .Add) rCat := by
  intro pins s σ H x y v u Q I rx ry h
  obtain ⟨l, b, xs, zs, rfl, rfl, hH, hB, hz, q⟩ := h
  cases rx
  cases ry
  obtain ⟨z, its, n, r, hl, e⟩ := I.lstM hH
  obtain ⟨z2, its2, n2, r2, hl2, e2⟩ := I.lstM hB
  refine PySem.P.add_list e e2 ?_ (by rw [List.size_toArray, List.size_toArray]; omega)
  have ea : its.toArray ++ its2.toArray = (its ++ its2).toArray := by simp
  rw [ea]
  exact ⟨.ref _, _, I.lnew (t' := s.toks) (r.append r2) (by rw [List.length_append]; omega), rfl, q _ I.fresh⟩
def rRep : R2 := fun x y H Q => ∃ l k xs, x = .ref l ∧ y = .int k ∧ H l = some (.lst xs) ∧ -(2 ^ 63) ≤ k ∧ k < 2 ^ 63 ∧ xs.length * k.toNat ≤ sizeLine ∧
  ∀ p, H p = none → Q (.ref p) (upd H p (.lst (List.replicate k.toNat xs).flatten))
end
section
variable {prog : Program} {w : World} {A : Around} {E : Value → Shared → Prop} {s : Shared}
end
section
variable {X : Cx}
end
end L2
namespace Att
open PySem PySem.W PySem.Calls PyProof.Rows
theorem ints_of_wellAll {P : Params} {h : Heap} : ∀ (ns : List Int) (vs : List Value), WellAll P h vs (ns.map WData.int) → IntsAre vs ns := by
  intro ns
  induction ns with
  | nil =>
    intro vs w
    rw [List.map_nil] at w
    cases w
    exact .nil
  | cons n ns ih =>
    intro vs w
    rw [List.map_cons] at w
    cases w with
    | cons a b =>
      cases a
      exact .cons _ _ (ih _ b)
theorem script_of {l : OpenLaw} {n : Nat} (hn : l.most = some n) {P : Params} {h : Heap} {args : List WData} {vals : List Value}
    (hpre : l.row.toRowW.claim.pre args = true) (hwl : WellAll P h vals args) :
    ∃ a vs ns, vals = [Value.ref a] ∧ args = [WData.list (ns.map WData.int)] ∧ h.get? a = some { cls := .type "list", data := .seq vs.toArray } ∧ IntsAre vs ns ∧ ns.length ≤ n := by
  have hsh : WShape.hasAll [] args [.list .int] = true := (pre_splitW hpre).1
  have hc : l.pre.holds [] { args := args } = true := (pre_splitW hpre).2
  obtain ⟨d, r, rfl, h1, h2⟩ := hasAllW_cons hsh
  obtain rfl := hasAllW_nil h2
  obtain ⟨xs, rfl, h3⟩ := hasW_list h1
  obtain ⟨ns, rfl⟩ := items_int h3
  have hlen : ns.length ≤ n := by
    unfold OpenLaw.pre at hc
    have h4 : (WTm.not (.lt (.lit (.int (n : Int))) (.len (.arg 0)))).holds [] { args := [.list (ns.map .int)] } = true := by
      have h4 := (holds_andW hc).1
      rw [hn] at h4
      exact h4
    have h5 := condW_of h4 (w_not (w_lt w_lit (w_len_list (w_arg rfl))))
    rw [List.length_map] at h5
    refine Nat.le_of_not_lt fun q => ?_
    have q' : (n : Int) < ((ns.length : Nat) : Int) := by omega
    first
      | (rw [decide_eq_true q'] at h5; exact absurd h5 (by decide))
      | (simp at h5; omega)
  cases hwl with
  | cons w1 w2 =>
    cases w2
    cases w1 with
    | list ho hall => exact ⟨_, _, ns, rfl, rfl, ho, ints_of_wellAll ns _ hall, hlen⟩
theorem post_true (l : OpenLaw) (args : List WData) : l.row.toRowW.claim.post args (.bool true) args = true :=
  postW_of (r := l.row.toRowW) (X := (true == true))
    (show WShape.has [] (.bool true) .bool = true by first | rfl | decide | simp [WShape.has, WShape.arms, WShape.armsAll])
    (show (WTm.eq .res (.lit (.bool true))).value [] { args := args, res := some (.bool true), after := args } = some (.bool (true == true)) from w_eq_bool (w_res rfl) w_lit) rfl
theorem attach_call {l : OpenLaw} {n : Nat} {q : Program} {loose : List Str} {XP : (Str → Option Value) → Heap → Prop} {YP : World → Heap → Prop} {d : DefRec}
    (hn : l.most = some n) (hdf : d.params.defaults = [])
    (call : ∀ (w : World) (s₀ s₁ : Shared) (mg mb : Str → Option Value) (fa : Addr) (o : Obj) (pm cd doc : Value) (a : Addr) (vs : List Value) (ns : List Int),
      Ground q loose [] XP w s₀ mg mb s₁.heap → YP w s₁.heap →
      s₁.heap.get? fa = some o → o.data = .func (docDef d.name d.params d.body d.scope pm cd doc) → s₁.heap.CodeRec cd d.name → mg d.name = some (.ref fa) →
      s₁.heap.get? a = some { cls := .type "list", data := .seq vs.toArray } → IntsAre vs ns → ns.length ≤ n → s₁.gens = #[] →
      codeAny (model l.prog w) callerA (.call (.ref fa) ⟨[.ref a], []⟩) (fun r s' => r = .ok (.ret (.bool true)) ∧ OldK s₁.heap s'.heap ∧ s'.os = s₁.os ∧ AllBare s'.gens) s₁) :
    WalkO q loose XP YP l.row.toRowW d [] (fun f vs => PySem.call f vs) := by
  intro w s₀ s₁ mg mb G Y fa o pm cd doc dV kV ho hd hcd hD hmg hg args vals as hpre hlay hrd hwl hlo
  obtain rfl : dV = .none := Dflts.none hD hdf
  obtain rfl : kV = .none := Dflts.noKw hD
  obtain ⟨a, vs, ns, rfl, rfl, hobj, hints, hlen⟩ := script_of hn hpre hwl
  refine enter_call (codeAny_mono (call w s₀ s₁ mg mb fa o pm cd doc a vs ns G Y ho (fd_plain hd) hcd hmg hobj hints hlen hg) fun r s' hq => ?_)
  obtain ⟨rfl, h2, h3, h4⟩ := hq
  exact ⟨.inl ⟨.bool true, .bool true, [], rfl, fun _ => rfl, .bool true, post_true l _, fun _ => ⟨List.Pairwise.nil, fun _ hm => (nomatch hm)⟩⟩, h2, h3, h4⟩
section
variable {prog : Program} {w : World} {A : Around} {E : Value → Shared → Prop} {s : Shared} {K : Frag}
def noObjs (h : Heap) : Heap := { h with objs := #[] }
def ledger (h : Heap) (L d : Addr) : List (Addr × Obj) := (List.range h.objs.size).filterMap fun a => if a = L ∨ a = d then none else (h.get? a).map fun o => (a, o)
end
end Att
namespace L2
open PySem PySem.Spec PyProof.Rows
theorem vals_ints : ∀ {vs : List Value} {ns : List Int}, IntsAre vs ns → Vals (ns.map V.int) vs
  | _, _, .nil => .nil
  | _, _, .cons n t h => .cons ⟨t, rfl⟩ (vals_ints h)
def Only (H : Hp) : Prop := ∀ b, H b = none ∨ ∃ o xs, H b = some (.frz o (.lst xs))
theorem law_call {P : Program} {w : World} {K : PySem.W.Frag} {mg mb : Str → Option Value} {CX : CXT} {k : Nat} {fa a : Addr} {fd : FuncData} {x : Str} {sp : Sp} {s₁ : Shared} {vs : List Value} {ns : List Int}
    (KX : K.In s₁.heap) (hns : s₁.heap.Ns mainGlobals mg) (hb : s₁.heap.Ns builtinsNs mb) (hbb : ∀ x : Str, x ≠ "__name__" → mb x = bootBuiltins x) (hlim : s₁.heap.NoLimit) (hg : s₁.gens = #[])
    (ha : s₁.heap.get? a = some { cls := .type "list", data := .seq vs.toArray }) (hi : IntsAre vs ns) (hl : ns.length ≤ sizeLine) (hr : Room k callerA)
    (F : ∀ base : Heap, K.In base → base.Ns mainGlobals mg → FnOk P w K mg base CX k fa fd [x] sp) (hbind : ∀ (s : Shared) (u : Value), BindsTo s fd ⟨[u], []⟩ [(x, u)])
    (hsp : ∀ H : Hp, Only H → SqL K H a (ns.map V.int) → sp [.ref a] H (fun v _ => v = .bl true) fun _ _ _ => False)
    (hCX : ∀ H e s', CX [] H s₁ (fun _ _ _ => False) e s' → False) :
    codeAny (model P w) callerA (.call (.ref fa) ⟨[.ref a], []⟩) (fun r s' => r = .ok (.ret (.bool true)) ∧ OldK s₁.heap s'.heap ∧ s'.os = s₁.os ∧ AllBare s'.gens) s₁ := by
  have rv := vals_ints hi
  have lenV := hi.length
  have core : ∀ H : Hp, Only H → SqL K H a (ns.map V.int) → HOk P w H s₁.heap → (∀ b, H b ≠ none → b = a) → (H a ≠ none → K.lookup a = none) →
      codeAny (model P w) callerA (.call (.ref fa) ⟨[.ref a], []⟩) (fun r s' => r = .ok (.ret (.bool true)) ∧ OldK s₁.heap s'.heap ∧ s'.os = s₁.os ∧ AllBare s'.gens) s₁ := by
    intro H hO hS hok hA hK
    have base_of : ∀ {b : Addr} {o : Obj}, s₁.heap.get? b = some o → H b = none → (hidT s₁.heap H).get? b = some o := fun e n => hidT_get e n
    have noA : ∀ {b : Addr} {o : Obj} {es : Array DictEntry} {ep : Nat}, s₁.heap.get? b = some o → o.data = .dict es ep → H b = none := fun {b o es ep} e d => by
      cases q : H b with
      | none => rfl
      | some u =>
        have e' : b = a := hA b (by rw [q]; simp)
        subst e'
        rw [ha] at e; cases e
        have d' : Data.seq vs.toArray _ = Data.dict es ep := d
        cases d'
    have nsK : ∀ {b : Addr} {m : Str → Option Value}, s₁.heap.Ns b m → (hidT s₁.heap H).Ns b m := fun {b m} ⟨o, es, ep, e, d, r⟩ => ⟨o, es, ep, base_of e (noA e d), d, r⟩
    have hKb : K.In (hidT s₁.heap H) := fun b o e => base_of (KX b o e) (by
      cases q : H b with
      | none => rfl
      | some u =>
        have e' : b = a := hA b (by rw [q]; simp)
        subst e'
        rw [hK (by rw [q]; simp)] at e; cases e)
    have hM : Mod K mg (hidT s₁.heap H) := ⟨hKb, nsK hns, ⟨mb, nsK hb, hbb⟩, let ⟨mc, h1, h2⟩ := hlim; ⟨mc, nsK h1, h2⟩⟩
    have e0 : Env0 P w K mg (hidT s₁.heap H) callerA [] s₁ H := ⟨rfl, hM, fun b o e => of_hidT e, Nat.le_of_eq (hidT_size _ _), trivial, fun b hb => absurd (show b ∈ ([] : List Addr) from hb) (by simp), hok, .of_eq hg⟩
    refine codeAny_mono ((F _ hKb (nsK hns)).run callerA [] s₁ H ⟨[.ref a], []⟩ [.ref a] [.ref a] _ _ hr e0 (hbind s₁ (.ref a)) (.cons rfl .nil) (hsp H hO hS)) fun r s' h => ?_
    cases r with
    | error e => exact (hCX H e s' h).elim
    | ok fl =>
      cases fl with
      | next => exact False.elim h
      | brk => exact False.elim h
      | cont => exact False.elim h
      | ret u =>
        obtain ⟨v, H', os, bare, un, hok', r', q⟩ := h
        have q' : v = .bl true := q
        subst q'
        obtain rfl : u = Value.bool true := r'
        refine ⟨rfl, OldK.of_keep fun b o e => ?_, os, bare⟩
        cases q : H b with
        | none => exact un.keep b o e q (by intro z; exact absurd (show b ∈ ([] : List Addr) from z) (by simp)) (by simp)
        | some u =>
          rcases hO b with z | ⟨ob, xs, z⟩
          · rw [q] at z; cases z
          · have z2 := un.frzs b ob _ z
            obtain ⟨e1, _⟩ := hok b _ z
            obtain ⟨e2, _⟩ := hok' b _ z2
            rw [e] at e1; cases e1
            exact e2
  cases hk : K.lookup a with
  | some o =>
    have e := KX a o hk
    rw [ha] at e
    cases e
    refine core (fun _ => none) (fun _ => .inl rfl) (.inr ⟨_, vs.toArray, _, hk, rfl, rfl, rfl, by rw [List.size_toArray, lenV]; exact hl, by simpa using rv⟩) (fun b u z => by have z' : (none : Option HO) = some u := z; cases z') (fun b z => absurd rfl z) fun z => absurd rfl z
  | none =>
    refine core (fun b => if b = a then some (.frz { cls := .type "list", data := .seq vs.toArray } (.lst (ns.map V.int))) else none) (fun b => ?_) (.inl (.inr ⟨{ cls := .type "list", data := .seq vs.toArray }, if_pos rfl⟩)) (fun b u z => ?_) (fun b z => ?_) fun _ => hk
    · by_cases hb : b = a
      · exact .inr ⟨_, _, if_pos hb⟩
      · exact .inl (if_neg hb)
    · by_cases hb : b = a
      · have z' := (if_pos hb).symm.trans z
        cases z'
        subst hb
        exact ⟨ha, by rw [List.length_map]; exact hl, vs, _, rv, ha⟩
      · have z' := (if_neg hb).symm.trans z
        cases z'
    · by_cases hb : b = a
      · exact hb
      · exact absurd (if_neg hb) z
end L2
namespace L2
open PySem PySem.Spec PyProof.Rows
abbrev KOf {K : PySem.W.Frag} {h : Heap} (_ : K.In h) : PySem.W.Frag := K
theorem walk_of {l : PySem.W.OpenLaw} {n k : Nat} {q : Program} {loose : List Str} {XP : (Str → Option Value) → Heap → Prop} {YP : World → Heap → Prop} {d : DefRec} {K : Params → PySem.W.Frag} {CX : World → CXT} {sp : World → Sp} {x : Str}
    (hn : l.most = some n) (hn2 : n ≤ sizeLine) (hdf : d.params.defaults = []) (hr : Room k callerA)
    (hY : ∀ (w : World) (h : Heap), YP w h → (K w.params).In h)
    (F : ∀ (w : World) (mg : Str → Option Value) (fa : Addr) (h : Heap), (K w.params).In h → h.Ns mainGlobals mg → mg d.name = some (.ref fa) →
      ∃ fd : FuncData, (∀ (s : Shared) (u : Value), BindsTo s fd ⟨[u], []⟩ [(x, u)]) ∧
        ∀ base : Heap, (K w.params).In base → base.Ns mainGlobals mg → FnOk l.prog w (K w.params) mg base (CX w) k fa fd [x] (sp w))
    (hsp : ∀ (w : World) (H : Hp) (a : Addr) (ns : List Int), ns.length ≤ n → Only H → SqL (K w.params) H a (ns.map V.int) → sp w [.ref a] H (fun v _ => v = .bl true) fun _ _ _ => False)
    (hCX : ∀ (w : World) (H : Hp) (s : Shared) (e : Value) (s' : Shared), CX w [] H s (fun _ _ _ => False) e s' → False) :
    PySem.W.WalkO q loose XP YP l.row.toRowW d [] (fun f vs => PySem.call f vs) := by
  refine Att.attach_call hn hdf fun w s₀ s₁ mg mb fa o pm cd doc a vs ns G Y ho hd hcd hmg hobj hints hlen hg => ?_
  have KX := hY w _ Y
  obtain ⟨fd, hb, hF⟩ := F w mg fa _ KX G.T.g hmg
  exact law_call KX G.T.g G.T.b G.T.builtins G.T.nolimit hg hobj hints (Nat.le_trans hlen hn2) hr hF hb (fun H hO hS => hsp w H a ns hlen hO hS) fun H e s' => hCX w H s₁ e s'
theorem walk_ofK {l : PySem.W.OpenLaw} {n k : Nat} {q : Program} {loose : List Str} {XP : (Str → Option Value) → Heap → Prop} {YP : World → Heap → Prop} {d : DefRec} {K : Params → PySem.W.Frag} {CX : CXT} {sp : PySem.W.Frag → Sp} {x : Str}
    (hn : l.most = some n) (hn2 : n ≤ sizeLine) (hdf : d.params.defaults = []) (hr : Room k callerA)
    (hY : ∀ (w : World) (h : Heap), YP w h → (K w.params).In h)
    (F : ∀ (w : World) (mg : Str → Option Value) (fa : Addr) (h : Heap), (K w.params).In h → h.Ns mainGlobals mg → mg d.name = some (.ref fa) →
      ∃ fd : FuncData, (∀ (s : Shared) (u : Value), BindsTo s fd ⟨[u], []⟩ [(x, u)]) ∧
        ∀ base : Heap, (K w.params).In base → base.Ns mainGlobals mg → FnOk l.prog w (K w.params) mg base CX k fa fd [x] (sp (K w.params)))
    (hsp : ∀ (K : PySem.W.Frag) (H : Hp) (a : Addr) (ns : List Int), ns.length ≤ n → Only H → SqL K H a (ns.map V.int) → sp K [.ref a] H (fun v _ => v = .bl true) fun _ _ _ => False)
    (hCX : ∀ (H : Hp) (s : Shared) (e : Value) (s' : Shared), CX [] H s (fun _ _ _ => False) e s' → False) :
    PySem.W.WalkO q loose XP YP l.row.toRowW d [] (fun f vs => PySem.call f vs) :=
  walk_of (K := K) (CX := fun _ => CX) (sp := fun w => sp (K w.params)) hn hn2 hdf hr hY F (fun w H a ns h1 h2 h3 => hsp (K w.params) H a ns h1 h2 h3) fun _ H s e s' => hCX H s e s'
end L2
namespace L2
open PySem PySem.Spec PyProof.Rows
def inClass (s : Stmt) (j : Nat) : Stmt := match s with
  | .ClassDef _ _ _ body _ _ _ _ _ _ _ => body.getD j (.Pass ⟨0, 0, 0, 0⟩)
  | _ => .Pass ⟨0, 0, 0, 0⟩
def defArgs (s : Stmt) : Arguments := match s with
  | .FunctionDef _ a _ _ _ _ _ _ _ _ => a
  | _ => { posonlyargs := [], args := [], vararg := none, kwonlyargs := [], kw_defaults := [], kwarg := none, defaults := [] }
def defBody (s : Stmt) : List Stmt := match s with
  | .FunctionDef _ _ b _ _ _ _ _ _ _ => b
  | _ => []
def defScope (s : Stmt) : Scope := match s with
  | .FunctionDef _ _ _ _ _ _ sc _ _ _ => sc
  | _ => { kind := .function, names := [], isGenerator := false, isCoroutine := false }
abbrev CX0 : CXT := fun _ _ _ _ _ _ => False
abbrev E0 : XK := fun _ _ _ => False
theorem pass0 {X : Cx} : Passes CX0 X E0 := fun _ _ _ _ _ _ _ h => h.elim
structure Fun (K : PySem.W.Frag) (x qual : Str) (st : Stmt) (f : Addr) (fd : FuncData) : Prop where
  ex : ∃ (oc : Value) (od : Option Addr) (kV doc pm : Value) (an : Option Addr) (cdv ct : Value) (osl : Array (Option Value)),
    fd = PySem.W.fnOf x qual (defArgs st) (defBody st) (defScope st) .none kV doc pm an cdv ct ∧ K.lookup f = some ⟨oc, od, .func fd, osl⟩ ∧ PySem.W.codeIn K cdv qual = true
  kp : PySem.W.keepIn K (.ref f) = true
section
variable {P : Program} {w : World} {K : PySem.W.Frag} {mg : Str → Option Value} {base : Heap}
theorem Fun.ok {x qual : Str} {st : Stmt} {f : Addr} {fd : FuncData} {N ps : List Str} {k : Nat} {sp : Sp} (F : Fun K x qual st f fd) (S : FnScope N ps (defScope st)) (len : ∀ vs H Q E, sp vs H Q E → vs.length = ps.length)
    (hbody : ∀ (cdv : Value) (A : Around) (outer : List Env) (s : Shared) (H : Hp) (vs : List V) (Q : VK) (E : XK), Room k (A.deeper (envOfC qual (defScope st) s.heap.objs.size f cdv)) → sp vs H Q E →
      ∃ t, PSs (cxOf CX0 P w K mg base N qual (defScope st) f cdv A outer s H E).nox (defBody st) t ∧ t { nx := fun _ H' => Q .non H', rt := Q } (start N vs) H) : FnOk P w K mg base CX0 (k + 1) f fd ps sp := by
  obtain ⟨oc, od, kV, doc, pm, an, cdv, ct, osl, rfl, lk, hcd⟩ := F.ex
  refine fn_of lk hcd S len fun A outer s H vs Q E hr hsp => ?_
  obtain ⟨t, h, q⟩ := hbody cdv A outer s H vs Q E hr hsp
  exact ⟨t, h.nox, q⟩
theorem Fun.binds {x qual : Str} {st : Stmt} {f : Addr} {fd : FuncData} {ps : List Str} (F : Fun K x qual st f fd)
    (h : ∀ (kV doc pm : Value) (an : Option Addr) (cdv ct : Value) (us : List Value), us.length = ps.length → bindArgs (PySem.W.fnOf x qual (defArgs st) (defBody st) (defScope st) .none kV doc pm an cdv ct) ⟨us, []⟩ = pure (ps.zip us)) : Binds K fd ps [] := by
  obtain ⟨oc, od, kV, doc, pm, an, cdv, ct, osl, rfl, lk, hcd⟩ := F.ex
  exact .all (h kV doc pm an cdv ct)
theorem fun_mk {x qual : Str} {st : Stmt} {f : Addr} {oc : Value} {od an : Option Addr} {osl : Array (Option Value)} {kV doc pm cdv ct : Value} (l : K.lookup f = some ⟨oc, od, .func (PySem.W.fnOf x qual (defArgs st) (defBody st) (defScope st) .none kV doc pm an cdv ct), osl⟩)
    (c : PySem.W.codeIn K cdv qual = true) (k : PySem.W.keepIn K (.ref f) = true) : Fun K x qual st f (PySem.W.fnOf x qual (defArgs st) (defBody st) (defScope st) .none kV doc pm an cdv ct) := ⟨⟨oc, od, kV, doc, pm, an, cdv, ct, osl, rfl, l, c⟩, k⟩
end
theorem hu_of {A : Around} {k : Nat} (hr : Room k A) : A.units + 1 < cLine := Nat.lt_of_le_of_lt (Nat.add_le_add_left (by decide : 1 ≤ 64) _) hr.units
section
variable {X : Cx}
end
theorem iteF {A B : Prop} (h : B) : if false = true then A else B := by
  rw [if_neg Bool.false_ne_true]
  exact h
theorem iteT {A B : Prop} (h : A) : if true = true then A else B := by
  rw [if_pos rfl]
  exact h
theorem ite2 {c A B : Prop} [Decidable c] (h1 : c → A) (h2 : ¬ c → B) : if c then A else B := by
  by_cases h : c
  · rw [if_pos h]
    exact h1 h
  · rw [if_neg h]
    exact h2 h
def Same (H H' : Hp) : Prop := ∀ b o, H b = some o → H' b = some o
end L2

namespace L2
open PySem PySem.Spec PyProof.Rows
section
variable {κ : Type} [DecidableEq κ]
def valV (kvs : List (κ × V)) (k : κ) : Option V := (kvs.find? fun kv => decide (kv.1 = k)).map (·.2)
def putK (kvs : List (κ × V)) (k : κ) (v : V) : List (κ × V) :=
  if (kvs.any fun kv => decide (kv.1 = k)) = true then kvs.map (fun kv => if kv.1 = k then (kv.1, v) else kv) else kvs ++ [(k, v)]
def dropK (kvs : List (κ × V)) (k : κ) : List (κ × V) := kvs.filter fun kv => decide (kv.1 ≠ k)
theorem valV_pos {p : κ × V} {r : List (κ × V)} {k : κ} (e : p.1 = k) : valV (p :: r) k = some p.2 := by simp [valV, List.find?_cons, e]
theorem valV_neg {p : κ × V} {r : List (κ × V)} {k : κ} (e : ¬ p.1 = k) : valV (p :: r) k = valV r k := by simp [valV, List.find?_cons, e]
theorem valV_any (k : κ) : ∀ kvs : List (κ × V), (kvs.any fun kv => decide (kv.1 = k)) = (valV kvs k).isSome
  | [] => rfl
  | p :: r => by
    rw [List.any_cons]
    by_cases e : p.1 = k
    · simp only [valV_pos e, decide_eq_true e, Bool.true_or, Option.isSome_some]
    · rw [valV_neg e, decide_eq_false e, Bool.false_or]; exact valV_any k r
theorem valV_map (k j : κ) (y : V) : ∀ kvs : List (κ × V), valV (kvs.map fun kv => if kv.1 = k then (kv.1, y) else kv) j = (valV kvs j).map fun x => if j = k then y else x
  | [] => rfl
  | p :: r => by
    have ih := valV_map k j y r
    rw [List.map_cons]
    by_cases h : p.1 = k
    · rw [if_pos h]
      by_cases e : p.1 = j
      · rw [valV_pos (p := (p.1, y)) e, valV_pos e, Option.map_some, if_pos (e.symm.trans h)]
      · rw [valV_neg (p := (p.1, y)) e, valV_neg e, ih]
    · rw [if_neg h]
      by_cases e : p.1 = j
      · rw [valV_pos (p := p) e, valV_pos e, Option.map_some, if_neg (fun z => h (e.trans z))]
      · rw [valV_neg (p := p) e, valV_neg e, ih]
theorem valV_snoc (k j : κ) (y : V) : ∀ kvs : List (κ × V), valV kvs k = none → valV (kvs ++ [(k, y)]) j = if j = k then some y else valV kvs j
  | [], _ => by
    by_cases e : k = j
    · rw [if_pos e.symm]; exact valV_pos (p := (k, y)) e
    · rw [if_neg (fun z => e z.symm)]; exact valV_neg (p := (k, y)) e
  | p :: r, hn => by
    rw [List.cons_append]
    have hk : ¬ p.1 = k := fun z => by rw [valV_pos z] at hn; cases hn
    rw [valV_neg hk] at hn
    have ih := valV_snoc k j y r hn
    by_cases e : p.1 = j
    · rw [valV_pos e, valV_pos e, if_neg (fun z => hk (e.trans z))]
    · rw [valV_neg e, valV_neg e, ih]
theorem valV_put (kvs : List (κ × V)) (k j : κ) (y : V) : valV (putK kvs k y) j = if j = k then some y else valV kvs j := by
  unfold putK
  by_cases a : (kvs.any fun kv => decide (kv.1 = k)) = true
  · rw [if_pos a, valV_map]
    rw [valV_any] at a
    by_cases e : j = k
    · obtain ⟨x, hx⟩ := Option.isSome_iff_exists.mp a
      rw [if_pos e, e, hx, Option.map_some, if_pos rfl]
    · rw [if_neg e]
      cases valV kvs j with
      | none => rfl
      | some x => rw [Option.map_some, if_neg e]
  · rw [if_neg a]
    refine valV_snoc k j y kvs ?_
    rw [valV_any] at a
    cases q : valV kvs k with
    | none => rfl
    | some x => rw [q] at a; exact (a rfl).elim
theorem length_putK (kvs : List (κ × V)) (k : κ) (v : V) : (putK kvs k v).length ≤ kvs.length + 1 := by
  unfold putK
  split
  · rw [List.length_map]; omega
  · rw [List.length_append, List.length_cons, List.length_nil]; omega
theorem RelO.isSome_eq {o : Option V} {u : Option Value} (r : RelO o u) : o.isSome = u.isSome := by
  cases o with
  | none => cases u with
    | none => rfl
    | some _ => exact (show False from r).elim
  | some _ => cases u with
    | none => exact (show False from r).elim
    | some _ => rfl
theorem KV.val {kvs : List (κ × V)} {vs : List (κ × Value)} (r : KV kvs vs) (k : κ) : RelO (valV kvs k) (valueAt vs k) := by
  unfold KV at r
  induction r with
  | nil => exact True.intro
  | @cons p q ps qs h t ih =>
    obtain ⟨h1, h2⟩ := h
    by_cases e : p.1 = k
    · have e' : q.1 = k := h1.symm.trans e
      have b : valueAt (q :: qs) k = some q.2 := by simp [valueAt, List.find?_cons, e']
      rw [valV_pos e, b]; exact h2
    · have e' : ¬ q.1 = k := fun z => e (h1.trans z)
      have b : valueAt (q :: qs) k = valueAt qs k := by simp [valueAt, List.find?_cons, e']
      rw [valV_neg e, b]; exact ih
theorem KV.any {kvs : List (κ × V)} {vs : List (κ × Value)} (r : KV kvs vs) (k : κ) : (kvs.any fun kv => decide (kv.1 = k)) = vs.any fun kv => decide (kv.1 = k) := by
  unfold KV at r
  induction r with
  | nil => rfl
  | cons h t ih => rw [List.any_cons, List.any_cons, ih, h.1]
theorem KV.repl {kvs : List (κ × V)} {vs : List (κ × Value)} (r : KV kvs vs) (k : κ) {y : V} {u : Value} (ry : RelV y u) :
    KV (kvs.map fun kv => if kv.1 = k then (kv.1, y) else kv) (vs.map fun kv => if kv.1 = k then (kv.1, u) else kv) := by
  unfold KV at r ⊢
  induction r with
  | nil => exact .nil
  | @cons p q ps qs h t ih =>
    rw [List.map_cons, List.map_cons]
    refine .cons ?_ ih
    obtain ⟨h1, h2⟩ := h
    by_cases e : p.1 = k
    · rw [if_pos e, if_pos (h1.symm.trans e)]; exact ⟨h1, ry⟩
    · rw [if_neg e, if_neg (fun z => e (h1.trans z))]; exact ⟨h1, h2⟩
theorem KV.put {kvs : List (κ × V)} {vs : List (κ × Value)} (r : KV kvs vs) (k : κ) {y : V} {u : Value} (ry : RelV y u) : KV (putK kvs k y) (stored vs k u) := by
  unfold putK stored
  rw [r.any k]
  by_cases e : (vs.any fun kv => decide (kv.1 = k)) = true
  · rw [if_pos e, if_pos e]; exact r.repl k ry
  · rw [if_neg e, if_neg e]; exact Paired.snoc r ⟨rfl, ry⟩
theorem KV.length {kvs : List (κ × V)} {vs : List (κ × Value)} (r : KV kvs vs) : kvs.length = vs.length := Paired.length r
end
theorem kV_is {P : Program} {w : World} {k : Key} {u : Value} (r : RelV (kV k) u) : (mixKind P w).is k u = true := by
  cases k with
  | inl i => obtain ⟨t, e⟩ := (show ∃ t, u = Value.int i t from r); subst e; exact mixKind_int P w i t
  | inr x => obtain ⟨t, e⟩ := (show ∃ t, u = Value.str x t from r); subst e; exact mixKind_str P w x t
theorem kV_inj {a b : Key} (e : kV a = kV b) : a = b := by
  cases a with
  | inl i => cases b with
    | inl j => have e' : V.int i = V.int j := e; injection e' with e'; rw [e']
    | inr y => exact nomatch (show V.int i = V.str y from e)
  | inr x => cases b with
    | inl j => exact nomatch (show V.str x = V.int j from e)
    | inr y => have e' : V.str x = V.str y := e; injection e' with e'; rw [e']
theorem kVs_inj : ∀ {a b : List Key}, a.map kV = b.map kV → a = b
  | [], [], _ => rfl
  | [], _ :: _, e => by simp at e
  | _ :: _, [], e => by simp at e
  | x :: xs, y :: ys, e => by
    rw [List.map_cons, List.map_cons] at e
    injection e with e1 e2
    rw [kV_inj e1, kVs_inj e2]
theorem items_are {P : Program} {w : World} : ∀ {ks : List Key} {us : List Value}, Vals (ks.map kV) us → ItemsAre (mixKind P w) ks us
  | [], _, r => by rw [List.map_nil] at r; cases r; exact .nil
  | k :: ks, _, r => by
    rw [List.map_cons] at r
    cases r with
    | cons h t => exact .cons (kV_is h) (items_are t)
abbrev KT (H : Hp) : List (List Key × V) → List (List Key × Addr × Value) → Prop := Paired fun p q => p.1 = q.1 ∧ H q.2.1 = some (.tup (p.1.map kV)) ∧ RelV p.2 q.2.2
theorem KT.val {H : Hp} {kvs : List (List Key × V)} {xs : List (List Key × Addr × Value)} (r : KT H kvs xs) (k : List Key) : RelO (valV kvs k) ((atKey xs k).map (·.2)) := by
  induction r with
  | nil => exact True.intro
  | @cons p q ps qs h t ih =>
    obtain ⟨h1, _, h2⟩ := h
    by_cases e : p.1 = k
    · have e' : q.1 = k := h1.symm.trans e
      have b : atKey (q :: qs) k = some q.2 := by simp [atKey, List.find?_cons, e']
      rw [valV_pos e, b]; exact h2
    · have e' : ¬ q.1 = k := fun z => e (h1.trans z)
      have b : atKey (q :: qs) k = atKey qs k := by simp [atKey, List.find?_cons, e']
      rw [valV_neg e, b]; exact ih
theorem KT.repl {H : Hp} {kvs : List (List Key × V)} {xs : List (List Key × Addr × Value)} (r : KT H kvs xs) (k : List Key) {y : V} {u : Value} (ry : RelV y u) :
    KT H (kvs.map fun kv => if kv.1 = k then (kv.1, y) else kv) (xs.map (putAt k u)) := by
  induction r with
  | nil => exact .nil
  | @cons p q ps qs h t ih =>
    rw [List.map_cons, List.map_cons]
    refine .cons ?_ ih
    obtain ⟨h1, h2, h3⟩ := h
    unfold putAt
    by_cases e : p.1 = k
    · rw [if_pos e, if_pos (h1.symm.trans e)]; exact ⟨h1, h2, ry⟩
    · rw [if_neg e, if_neg (fun z => e (h1.trans z))]; exact ⟨h1, h2, h3⟩
theorem KT.put {H : Hp} {kvs : List (List Key × V)} {xs : List (List Key × Addr × Value)} (r : KT H kvs xs) (k : List Key) {b : Addr} {y : V} {u : Value} (hb : H b = some (.tup (k.map kV))) (ry : RelV y u) :
    KT H (putK kvs k y) (storedH xs k b u) := by
  have e : (kvs.any fun kv => decide (kv.1 = k)) = (atKey xs k).isSome := by
    rw [valV_any, (r.val k).isSome_eq, Option.isSome_map]
  unfold putK storedH
  rw [e]
  by_cases q : (atKey xs k).isSome = true
  · rw [if_pos q, if_pos q]; exact r.repl k ry
  · rw [if_neg q, if_neg q]; exact Paired.snoc r ⟨rfl, hb, ry⟩
theorem KT.keeps {H H' : Hp} {kvs : List (List Key × V)} {xs : List (List Key × Addr × Value)} (r : KT H kvs xs) (ht : ∀ b ys, H b = some (.tup ys) → H' b = some (.tup ys)) : KT H' kvs xs :=
  Paired.mapP r fun _ _ z => ⟨z.1, ht _ _ z.2.1, z.2.2⟩
section
variable {P : Program} {w : World} {H : Hp} {h : Heap} {a : Addr}
theorem rd_of {u : HO} (ok : HOk P w H h) (e : Rd H a u) : ObjOk P w H h a u := e.ok ok
theorem dk_rd {kvs : List (Key × V)} (ok : HOk P w H h) (e : Rd H a (.dK kvs)) : kvs.length ≤ sizeLine ∧ (a == sysModules) = false ∧ ∃ vs, KV kvs vs ∧ h.DictOf (mixKind P w) a vs :=
  show ObjOk P w H h a (.dK kvs) from rd_of ok e
theorem dk_of {kvs : List (Key × V)} (ok : HOk P w H h) (e : H a = some (.dK kvs)) : kvs.length ≤ sizeLine ∧ (a == sysModules) = false ∧ ∃ vs, KV kvs vs ∧ h.DictOf (mixKind P w) a vs := dk_rd ok (.inl e)
theorem key_of {ks : List Key} (ok : HOk P w H h) (e : H a = some (.tup (ks.map kV))) : (tupleKind (mixKind P w)).is h ks a := by
  obtain ⟨_, its, r, o, h1, h2, n, h3⟩ := (show ObjOk P w H h a (.tup (ks.map kV)) from ok a _ e)
  exact ⟨o, its.toArray, n, h1, h2, h3, by simpa using items_are r⟩
theorem dt_rd {kvs : List (List Key × V)} (ok : HOk P w H h) (e : Rd H a (.dT kvs)) : kvs.length ≤ sizeLine ∧ (a == sysModules) = false ∧
    ∃ xs, KT H kvs xs ∧ h.DictOfH (tupleKind (mixKind P w)) a xs := by
  obtain ⟨z, y, xs, r, o, es, ep, h1, h2, h3, h4, h5⟩ := (show ObjOk P w H h a (.dT kvs) from rd_of ok e)
  refine ⟨z, y, xs, r, o, es, ep, h1, h2, h3, h4, fun x hx => ?_, h5⟩
  have all : ∀ {l : List (List Key × V)} {m : List (List Key × Addr × Value)}, KT H l m → ∀ x ∈ m, (tupleKind (mixKind P w)).is h x.1 x.2.1 := by
    intro l m q
    induction q with
    | nil => intro x hx; exact nomatch hx
    | @cons p q ps qs hq t ih =>
      intro x hx
      rcases List.mem_cons.mp hx with e | hx
      · subst e
        exact key_of ok (by rw [← hq.1]; exact hq.2.1)
      · exact ih x hx
  exact all r x hx
theorem dt_of {kvs : List (List Key × V)} (ok : HOk P w H h) (e : H a = some (.dT kvs)) : kvs.length ≤ sizeLine ∧ (a == sysModules) = false ∧
    ∃ xs, KT H kvs xs ∧ h.DictOfH (tupleKind (mixKind P w)) a xs := dt_rd ok (.inl e)
end
def DGet (H : Hp) (a : Addr) (y : V) (r : Option V) : Prop :=
  (∃ kvs k, Rd H a (.dK kvs) ∧ y = kV k ∧ r = valV kvs k) ∨ ∃ kvs k b, Rd H a (.dT kvs) ∧ y = .ref b ∧ H b = some (.tup (k.map kV)) ∧ r = valV kvs k
def DPut (H : Hp) (a : Addr) (y v : V) (H' : Hp) : Prop :=
  (∃ kvs k, H a = some (.dK kvs) ∧ y = kV k ∧ kvs.length < sizeLine ∧ H' = upd H a (.dK (putK kvs k v))) ∨
  ∃ kvs k b, H a = some (.dT kvs) ∧ y = .ref b ∧ H b = some (.tup (k.map kV)) ∧ kvs.length < sizeLine ∧ H' = upd H a (.dT (putK kvs k v))
theorem DGet.k {H : Hp} {a : Addr} {kvs : List (Key × V)} {k : Key} (e : H a = some (.dK kvs)) : DGet H a (kV k) (valV kvs k) := .inl ⟨kvs, k, .inl e, rfl, rfl⟩
theorem DGet.t {H : Hp} {a b : Addr} {kvs : List (List Key × V)} {k : List Key} (e : H a = some (.dT kvs)) (eb : H b = some (.tup (k.map kV))) : DGet H a (.ref b) (valV kvs k) := .inr ⟨kvs, k, b, .inl e, rfl, eb, rfl⟩
theorem DPut.k {H : Hp} {a : Addr} {kvs : List (Key × V)} {k : Key} {v : V} (e : H a = some (.dK kvs)) (hl : kvs.length < sizeLine) : DPut H a (kV k) v (upd H a (.dK (putK kvs k v))) := .inl ⟨kvs, k, e, rfl, hl, rfl⟩
section
variable {X : Cx} {pins : List (Addr × Obj)} {σ : St} {H : Hp} {s : Shared} {a : Addr} {y v : V} {u r : Value} {o : Option V} {A : Around} {E : Value → Shared → Prop}
theorem Inv.big (I : Inv X pins σ H s) : sysModules < s.heap.objs.size := by
  have h : mainGlobals < s.heap.objs.size := (I.mod.glob.keeps I.bk).lt
  exact Nat.lt_trans (by decide) h
theorem d_getItem {Q : Value → Shared → Prop} (hu : A.units + 1 < cLine) (I : Inv X pins σ H s) (g : DGet H a y (some v)) (ry : RelV y u) (h : ∀ w' s', Inv X pins σ H s' → RelV v w' → Q w' s') :
    wpAny (model X.prog X.w) A (getItem (.ref a) u) Q E s := by
  rcases g with ⟨kvs, k, e, ey, l⟩ | ⟨kvs, k, b, e, ey, eb, l⟩
  · subst ey
    obtain ⟨z, hd, vs, rel, dd⟩ := dk_rd I.hok e
    obtain ⟨w', hw, rw'⟩ := RelO.some_of (v := v) (o := valueAt vs k) (by rw [l]; exact rel.val k)
    exact wpAny_getItem_of (kV_is ry) dd.mapOf hw (h w' _ (I.tok _) rw')
  · subst ey
    cases (show u = Value.ref b from ry)
    obtain ⟨z, hd, xs, rel, dd⟩ := dt_rd I.hok e
    obtain ⟨w', hw, rw'⟩ := RelO.some_of (v := v) (o := (atKey xs k).map (·.2)) (by rw [l]; exact rel.val k)
    obtain ⟨p, hp, hp2⟩ := Option.map_eq_some_iff.mp hw
    refine wpAny_getItem_heap (tupleKind_room_in1 hu) (key_of I.hok eb) dd hp ?_
    rw [hp2]
    exact h w' _ (I.tok _) rw'
theorem d_in {Q : Value → Shared → Prop} (hu : A.units + 1 < cLine) (I : Inv X pins σ H s) (g : DGet H a y o) (ry : RelV y u) (h : ∀ s', Inv X pins σ H s' → Q (.bool o.isSome) s') :
    wpAny (model X.prog X.w) A (compareOp .In u (.ref a)) Q E s := by
  rcases g with ⟨kvs, k, e, ey, l⟩ | ⟨kvs, k, b, e, ey, eb, l⟩
  · subst ey
    obtain ⟨z, hd, vs, rel, dd⟩ := dk_rd I.hok e
    refine wpAny_in_of (kV_is ry) hd dd.mapOf ?_
    rw [← (rel.val k).isSome_eq, ← l]
    exact h _ (I.tok _)
  · subst ey
    cases (show u = Value.ref b from ry)
    obtain ⟨z, hd, xs, rel, dd⟩ := dt_rd I.hok e
    refine wpAny_in_heap (tupleKind_room_in1 hu) (key_of I.hok eb) hd dd ?_
    have q := (rel.val k).isSome_eq
    rw [Option.isSome_map] at q
    rw [← q, ← l]
    exact h _ (I.tok _)
theorem d_write {h' : Heap} {t' : Nat} {ob : HO} (I : Inv X pins σ H s) (mu : Mut (H a)) (hs : Heap.SameBut a s.heap h') (he : ∃ q, h'.get? a = some q) (new : ObjOk X.prog X.w (upd H a ob) h' a ob) :
    Inv X pins σ (upd H a ob) { s with heap := h', toks := t' } :=
  I.write (x := a) (e := a) mu (.inl rfl) (fun b q hb z => (hs.2 b hb).trans z) he new
theorem dk_new {P : Program} {w : World} {H' : Hp} {h' : Heap} {kvs : List (Key × V)} {vs : List (Key × Value)} (z : kvs.length ≤ sizeLine) (hd : (a == sysModules) = false) (rel : KV kvs vs) (dd : h'.DictOf (mixKind P w) a vs) :
    ObjOk P w H' h' a (.dK kvs) := ⟨z, hd, vs, rel, dd⟩
theorem d_setItem {H' : Hp} {Q : Unit → Shared → Prop} (hu : A.units + 1 < cLine) (I : Inv X pins σ H s) (g : DPut H a y v H') (ry : RelV y u) (rv : RelV v r) (h : ∀ s', Inv X pins σ H' s' → Q () s') :
    wpAny (model X.prog X.w) A (setItem (.ref a) u r) Q E s := by
  rcases g with ⟨kvs, k, e, ey, l, eH⟩ | ⟨kvs, k, b, e, ey, eb, l, eH⟩
  · subst ey eH
    obtain ⟨z, hd, vs, rel, dd⟩ := dk_of I.hok e
    have hz : vs.length ≤ sizeLine := by rw [← rel.length]; exact z
    have hl : (putK kvs k v).length ≤ sizeLine := by have := length_putK kvs k v; omega
    refine wpAny_setItem_pairs (hsz := hz) (kV_is ry) dd fun h' dd' hs => h _ ?_
    have he : ∃ q, h'.get? a = some q := let ⟨q, _, _, hq, _⟩ := dd'; ⟨q, hq⟩
    exact d_write I (by rw [e]; exact True.intro) hs he (dk_new hl hd (rel.put k rv) dd')
  · subst ey eH
    cases (show u = Value.ref b from ry)
    obtain ⟨z, hd, xs, rel, dd⟩ := dt_of I.hok e
    have hz : xs.length ≤ sizeLine := by rw [← Paired.length rel]; exact z
    have hl : (putK kvs k v).length ≤ sizeLine := by have := length_putK kvs k v; omega
    refine wpAny_setItem_heap (hsz := hz) (tupleKind_room_in1 hu) (key_of I.hok eb) dd fun h' dd' hs => h _ ?_
    obtain ⟨q, es, ep, hq, h2, h3, h4, _, h5⟩ := dd'
    refine d_write I (by rw [e]; exact True.intro) hs ⟨q, hq⟩ ⟨hl, hd, _, (rel.put k eb rv).keeps fun c ys ec => ?_, q, es, ep, hq, h2, h3, h4, h5⟩
    rw [upd_ne (ne_of ec e (fun z => nomatch z))]
    exact ec
end
section
variable {X : Cx} {pins : List (Addr × Obj)} {σ : St} {H : Hp} {s : Shared} {a : Addr} {kvs : List (Key × V)} {k : Key} {u : Value} {A : Around} {E : Value → Shared → Prop}
end
def NoSl (i : Expr) : Prop := ∀ ov iv, subscripted i false ov iv = operate [ov, iv] (getItem ov iv)
theorem subD_of {prog : Program} {w : World} {A : Around} {E : Value → Shared → Prop} {s : Shared} {env : Env} {value slice : Expr} {pos : Pos} {T id : String} {Q : Value → Shared → Prop}
    (hl : typeLookup (.type T) "__getitem__" = pure (some (.builtin id))) (hs : NoSl slice)
    (h : wpAny (model prog w) A (eval value env) (fun o s₁ => wpAny (model prog w) A (eval slice env) (fun i s₂ => s₂.TypeIs o T ∧ wpAny (model prog w) A (getItem o i) Q E s₂) E s₁) E s) :
    wpAny (model prog w) A (eval (.Subscript value slice pos) env) Q E s := by
  refine Subscript_ (wpAny_mono h (fun o s₁ h₁ => wpAny_mono h₁ (fun i s₂ h₂ => ?_) fun _ _ x => x) fun _ _ x => x)
  obtain ⟨hT, h₂⟩ := h₂
  unfold subscriptTail
  refine wpAny_bind ?_
  rw [getitemInPython_of_ne hT.not_modules]
  refine wpAny_bind (wpAny_specialOf hT hl ?_)
  have fin : wpAny (model prog w) A (subscripted slice false o i) (fun r s₃ => wpAny (model prog w) A (letTemporaryGo value o r >>= fun _ => pure r) Q E s₃) E s₂ := by
    rw [hs o i]
    exact wpAny_operating (wpAny_mono h₂ (fun r s₃ h₃ => wpAny_bind (wpAny_letTemporaryGo (wpAny_pure h₃))) fun _ _ x => x)
  first
    | exact wpAny_pure (wpAny_bind fin)
    | exact wpAny_bind (wpAny_pure (wpAny_bind fin))
    | exact wpAny_bind fin
theorem dict_typeIs {X : Cx} {pins : List (Addr × Obj)} {σ : St} {H : Hp} {s : Shared} {a : Addr} {y : V} {o : Option V} (I : Inv X pins σ H s) (g : DGet H a y o) : s.TypeIs (.ref a) "dict" := by
  rcases g with ⟨kvs, k, e, _, _⟩ | ⟨kvs, k, b, e, _, _, _⟩
  · obtain ⟨_, _, vs, _, dd⟩ := dk_rd I.hok e
    exact dd.typeIs
  · obtain ⟨_, _, xs, _, dd⟩ := dt_rd I.hok e
    exact dd.typeIs
def tDGet (td ty : TE) : TE := fun σ H Q => td σ H fun x H1 => ty σ H1 fun y H2 => ∃ a v, x = .ref a ∧ DGet H2 a y (some v) ∧ Q v H2
def tDIn (ty td : TE) : TE := fun σ H Q => ty σ H fun y H1 => td σ H1 fun x H2 => ∃ a o, x = .ref a ∧ DGet H2 a y o ∧ Q (.bl o.isSome) H2
def tDNotIn (ty td : TE) : TE := fun σ H Q => ty σ H fun y H1 => td σ H1 fun x H2 => ∃ a o, x = .ref a ∧ DGet H2 a y o ∧ Q (.bl (!o.isSome)) H2
def sDPut (td ty tv : TE) : TS := fun D σ H => tv σ H fun v H1 => td σ H1 fun x H2 => ty σ H2 fun y H3 => ∃ a H4, x = .ref a ∧ DPut H3 a y v H4 ∧ D.nx σ H4
def sDAug (td ty tv : TE) (rd : V → V → Hp → VK → Prop) : TS := fun D σ H => td σ H fun x H1 => ty σ H1 fun y H2 => ∃ a v, x = .ref a ∧ DGet H2 a y (some v) ∧
  tv σ H2 fun y2 H3 => rd v y2 H3 fun z H4 => ∃ H5, DPut H4 a y z H5 ∧ D.nx σ H5
def sDDel (td ty : TE) : TS := fun D σ H => td σ H fun x H1 => ty σ H1 fun y H2 => ∃ a kvs k, x = .ref a ∧ H2 a = some (.dK kvs) ∧ y = kV k ∧ (valV kvs k).isSome = true ∧ D.nx σ (upd H2 a (.dK (dropK kvs k)))
section
variable {X : Cx} {o i e value : Expr} {pos pos' tpos : Pos} {td ty tv : TE}
theorem pe_dget (hu : X.A.units + 1 < cLine) (ho : PE X o td) (hi : PE X i ty) (hs : NoSl i) : PE X (.Subscript o i pos) (tDGet td ty) := by
  intro pins s σ H Q I h
  refine subD_of PySem.F.slot_dict_getitem.lookup hs (thn (ho pins s σ H _ I h) fun u s1 ⟨x, H1, I1, rx, q1⟩ => thn (hi pins s1 σ H1 _ I1 q1) fun iv s2 ⟨y, H2, I2, ry, a, v, ex, g, q2⟩ => ?_)
  subst ex
  obtain rfl : u = Value.ref a := rx
  exact ⟨dict_typeIs I2 g, d_getItem hu I2 g ry fun w' s3 I3 rw' => ⟨v, H2, I3, rw', q2⟩⟩
theorem pc_din (hu : X.A.units + 1 < cLine) (hi : PE X i ty) (ho : PE X o td) : PC X .In i o (tDIn ty td) := by
  intro pins s σ H Q I h
  refine thn (hi pins s σ H _ I h) fun iv s1 ⟨y, H1, I1, ry, q1⟩ => thn (ho pins s1 σ H1 _ I1 q1) fun u s2 ⟨x, H2, I2, rx, a, ov, ex, g, q2⟩ => ?_
  subst ex
  obtain rfl : u = Value.ref a := rx
  exact d_in hu I2 g ry fun s3 I3 => ⟨.bl ov.isSome, H2, I3, rfl, q2⟩
theorem ps_dput (hu : X.A.units + 1 < cLine) (ho : PE X o td) (hi : PE X i ty) (hv : PE X value tv) (hs : swapsWith value (some (.Subscript o i pos')) pos.line X.env = pure false) :
    PS X (.Assign [.Subscript o i pos'] value pos) (sDPut td ty tv) := by
  intro pins s σ H D I h
  refine wpAny_Assign_Subscript (thn (hv pins s σ H _ I h) fun r s1 ⟨v, H1, I1, rv, q1⟩ => thn (ho pins s1 σ H1 _ I1 q1) fun u s2 ⟨x, H2, I2, rx, q2⟩ => thn (hi pins s2 σ H2 _ I2 q2) fun iv s3 ⟨y, H3, I3, ry, a, H4, ex, g, q3⟩ => ?_) hs
  subst ex
  obtain rfl : u = Value.ref a := rx
  exact d_setItem hu I3 g ry rv fun s4 I4 => ⟨σ, H4, I4, q3⟩
end
theorem dk_empty {P : Program} {w : World} {H : Hp} (h : Heap) (hb : sysModules < h.objs.size) : ObjOk P w H (h.push { cls := .type "dict", data := .dict #[] }) h.objs.size (.dK []) :=
  ⟨Nat.zero_le _, beq_eq_false_iff_ne.mpr (Ne.symm (Nat.ne_of_lt hb)), [], .nil, Heap.DictOf.new h⟩
theorem dt_empty {P : Program} {w : World} {H : Hp} (h : Heap) (hb : sysModules < h.objs.size) : ObjOk P w H (h.push { cls := .type "dict", data := .dict #[] }) h.objs.size (.dT []) :=
  ⟨Nat.zero_le _, beq_eq_false_iff_ne.mpr (Ne.symm (Nat.ne_of_lt hb)), [], .nil, _, #[], 0, Heap.get?_push_size _ rfl, ⟨rfl, rfl, rfl⟩, rfl, rfl, List.nodup_nil⟩
def tDNewK : TE := fun _ H Q => ∀ p, H p = none → Q (.ref p) (upd H p (.dK []))
def tDNewT : TE := fun _ H Q => ∀ p, H p = none → Q (.ref p) (upd H p (.dT []))
section
variable {X : Cx} {pos : Pos}
theorem pe_dnewT : PE X (.Dict [] [] pos) tDNewT := fun pins s σ H Q I h =>
  wpAny_Dict_empty ⟨.ref s.heap.objs.size, _, I.laid (a := s.heap.objs.size) (o := .dT []) (t' := s.toks) (fun _ _ q => Heap.get?_push_of_some _ q) (Nat.le_refl _) (dt_empty s.heap I.big), rfl, h _ (I.hok.fresh (Nat.le_refl _))⟩
end
def tPairs : List (TE × TE) → St → Hp → (List (V × V) → Hp → Prop) → Prop
  | [], _, H, Q => Q [] H
  | (tk, tv) :: r, σ, H, Q => tk σ H fun x H1 => tv σ H1 fun y H2 => tPairs r σ H2 fun ps H3 => Q ((x, y) :: ps) H3
abbrev VV : List (V × V) → List (Value × Value) → Prop := Paired fun p q => RelV p.1 q.1 ∧ RelV p.2 q.2
def PPs (X : Cx) (pos : Pos) (keys : List (Option Expr)) (values : List Expr) (trs : List (TE × TE)) : Prop :=
  ∀ (pins : List (Addr × Obj)) (s : Shared) (σ : St) (H : Hp) (Q : List (V × V) → Hp → Prop), Inv X pins σ H s → tPairs trs σ H Q →
    wpAny (model X.prog X.w) X.A (evalPairs (pairTrees keys values X.env pos)) (fun vs s' => ∃ ps H', Inv X pins σ H' s' ∧ VV ps vs ∧ Q ps H') X.xe s
theorem pps_nil {X : Cx} {pos : Pos} : PPs X pos [] [] [] := fun pins s σ H Q I h => pairTrees_nil_walk ⟨[], H, I, .nil, h⟩
theorem pps_cons {X : Cx} {pos : Pos} {k v : Expr} {ks : List (Option Expr)} {vs : List Expr} {tk tv : TE} {trs : List (TE × TE)} (hk : PE X k tk) (hv : PE X v tv) (hr : PPs X pos ks vs trs) :
    PPs X pos (some k :: ks) (v :: vs) ((tk, tv) :: trs) := fun pins s σ H Q I h =>
  pairTrees_cons_walk (thn (hk pins s σ H _ I h) fun u s1 ⟨x, H1, I1, rx, q1⟩ => thn (hv pins s1 σ H1 _ I1 q1) fun w2 s2 ⟨y, H2, I2, ry, q2⟩ =>
    thn (hr pins s2 σ H2 _ I2 q2) fun ws s3 ⟨ps, H3, I3, rel, q3⟩ => ⟨(x, y) :: ps, H3, I3, .cons ⟨rx, ry⟩ rel, q3⟩)
def mergeK (kvs more : List (Key × V)) : List (Key × V) := more.foldl (fun acc kv => putK acc kv.1 kv.2) kvs
theorem KV.merge : ∀ {more : List (Key × V)} {rs : List (Key × Value)} {kvs : List (Key × V)} {vs : List (Key × Value)}, KV more rs → KV kvs vs → KV (mergeK kvs more) (merged vs rs) := by
  intro more rs kvs vs r
  unfold KV at r
  induction r generalizing kvs vs with
  | nil => intro q; exact q
  | @cons p q ps qs h t ih =>
    intro r0
    have e : KV (putK kvs p.1 p.2) (stored vs q.1 q.2) := by
      have := r0.put p.1 h.2
      rw [← h.1]; exact this
    exact ih e
theorem length_mergeK : ∀ (more kvs : List (Key × V)), (mergeK kvs more).length ≤ kvs.length + more.length
  | [], kvs => by show kvs.length ≤ kvs.length + 0; omega
  | p :: r, kvs => by
    have h1 := length_mergeK r (putK kvs p.1 p.2)
    have h2 := length_putK kvs p.1 p.2
    show (mergeK (putK kvs p.1 p.2) r).length ≤ _
    rw [List.length_cons]; omega
theorem carries_of {P : Program} {w : World} : ∀ {kvs : List (Key × V)} {ws : List (Value × Value)}, VV (kvs.map fun kv => (kV kv.1, kv.2)) ws → ∃ rs, Carries (mixKind P w) ws rs ∧ KV kvs rs
  | [], _, r => by rw [List.map_nil] at r; cases r; exact ⟨[], True.intro, .nil⟩
  | p :: kvs, _, r => by
    rw [List.map_cons] at r
    cases r with
    | @cons a b as bs h t =>
      obtain ⟨rs, c, q⟩ := carries_of (P := P) (w := w) t
      obtain ⟨b1, b2⟩ := b
      exact ⟨(p.1, b2) :: rs, ⟨kV_is h.1, rfl, c⟩, .cons ⟨rfl, h.2⟩ q⟩
def tDisp (trs : List (TE × TE)) : TE := fun σ H Q => ∀ p, H p = none → tPairs trs σ (upd H p (.dK [])) fun ps H2 => H2 p = some (.dK []) ∧ ∃ kvs : List (Key × V), ps = kvs.map (fun kv => (kV kv.1, kv.2)) ∧ kvs.length ≤ 15 ∧ Q (.ref p) (upd H2 p (.dK (mergeK [] kvs)))
theorem pe_disp {X : Cx} {pos : Pos} {keys : List (Option Expr)} {values : List Expr} {trs : List (TE × TE)} (h : PPs X pos keys values trs) (hall : keys.all (·.isSome) = true) (hl : keys.length = values.length) (h0 : keys ≠ [])
    (h15 : keys.length ≤ 15) : PE X (.Dict keys values pos) (tDisp trs) := by
  intro pins s σ H Q I q
  have hn := I.hok.fresh (Nat.le_refl s.heap.objs.size)
  have I1 := I.laid (a := s.heap.objs.size) (o := .dK []) (h' := s.heap.push { cls := .type "dict", data := .dict #[] }) (t' := s.toks) (fun _ _ q => Heap.get?_push_of_some _ q) (Nat.le_refl _) (dk_empty s.heap I.big)
  refine wpAny_Dict_walk (knd := mixKind X.prog X.w) hall hl h0 h15 (thn (h pins _ σ _ _ I1 (q _ hn)) fun ws s2 ⟨ps, H2, I2, rel, e, kvs, ep, lk, q2⟩ => ?_)
  subst ep
  obtain ⟨rs, c, rk⟩ := carries_of (P := X.prog) (w := X.w) rel
  obtain ⟨z, hd, vs0, r0, dd⟩ := dk_of I2.hok e
  cases r0
  refine ⟨rs, c, dd, fun h' dd' hs => ⟨.ref s.heap.objs.size, _, ?_, rfl, q2⟩⟩
  have hz : (mergeK [] kvs).length ≤ sizeLine := by
    have h1 := length_mergeK kvs []
    rw [List.length_nil] at h1
    rw [sizeLine_eq]; omega
  have he : ∃ q, h'.get? s.heap.objs.size = some q := let ⟨q, _, _, hq, _⟩ := dd'; ⟨q, hq⟩
  exact d_write I2 (by rw [e]; exact True.intro) hs he (dk_new hz hd (rk.merge .nil) dd')
structure M1 (X : Cx) (o : Expr) (m : Str) (apos : Pos) (e : Expr) (cpos : Pos) : Prop where
  base : attributeBase o m X.env (eval o X.env) = eval o X.env
  few : ((backTo cpos (starEach [e] X.env)).all (fun x => !x.1) && (backToKw cpos (keywordEach [] X.env)).all (fun x => x.1.isSome)
    && decide (([e] : List Expr).length + ([] : List Keyword).length + (if ([] : List Keyword).isEmpty then 0 else 1) < 30)) = true
  line : (apos.endLine == cpos.line) = true
  trees : backTo cpos (starEach [e] X.env) = [(false, eval e X.env)]
structure M2 (X : Cx) (o : Expr) (m : Str) (apos : Pos) (e f : Expr) (cpos : Pos) : Prop where
  base : attributeBase o m X.env (eval o X.env) = eval o X.env
  few : ((backTo cpos (starEach [e, f] X.env)).all (fun x => !x.1) && (backToKw cpos (keywordEach [] X.env)).all (fun x => x.1.isSome)
    && decide (([e, f] : List Expr).length + ([] : List Keyword).length + (if ([] : List Keyword).isEmpty then 0 else 1) < 30)) = true
  line : (apos.endLine == cpos.line) = true
  trees : backTo cpos (starEach [e, f] X.env) = [(false, eval e X.env), (false, eval f X.env)]
def IsD (H : Hp) (a : Addr) : Prop := (∃ kvs, Rd H a (.dK kvs)) ∨ ∃ kvs, Rd H a (.dT kvs)
theorem isD_at {X : Cx} {pins : List (Addr × Obj)} {σ : St} {H : Hp} {s : Shared} {a : Addr} (I : Inv X pins σ H s) (d : IsD H a) :
    s.TypeIs (.ref a) "dict" ∧ (∀ b, Value.ref a = .ref b → ∃ ob, s.heap.get? b = some ob ∧ ob.dict = none) ∧ (a == sysModules) = false := by
  rcases d with ⟨kvs, e⟩ | ⟨kvs, e⟩
  · obtain ⟨_, hd, vs, _, dd⟩ := dk_rd I.hok e
    refine ⟨dd.typeIs, fun b q => ?_, hd⟩
    cases q
    obtain ⟨ob, _, _, h1, h2, _⟩ := dd
    exact ⟨ob, h1, h2.2.1⟩
  · obtain ⟨_, hd, xs, _, dd⟩ := dt_rd I.hok e
    refine ⟨dd.typeIs, fun b q => ?_, hd⟩
    cases q
    obtain ⟨ob, _, _, h1, h2, _⟩ := dd
    exact ⟨ob, h1, h2.2.1⟩
section
variable {X : Cx} {pins : List (Addr × Obj)} {σ : St} {H : Hp} {s : Shared} {a : Addr} {y d : V} {u r : Value} {o : Option V} {A : Around} {E : Value → Shared → Prop}
end
def tDGet1 (td ty : TE) : TE := fun σ H Q => td σ H fun x H1 => ∃ a, x = .ref a ∧ IsD H1 a ∧ ty σ H1 fun y H2 => ∃ o, DGet H2 a y o ∧ Q (o.getD .non) H2
def tDGet2 (td ty tx : TE) : TE := fun σ H Q => td σ H fun x H1 => ∃ a, x = .ref a ∧ IsD H1 a ∧ ty σ H1 fun y H2 => tx σ H2 fun z H3 => ∃ o, DGet H3 a y o ∧ Q (o.getD z) H3
def tDPop1 (td ty : TE) : TE := fun σ H Q => td σ H fun x H1 => ∃ a, x = .ref a ∧ IsD H1 a ∧ ty σ H1 fun y H2 => ∃ kvs k v, H2 a = some (.dK kvs) ∧ y = kV k ∧ valV kvs k = some v ∧ Q v (upd H2 a (.dK (dropK kvs k)))
def tDPop2 (td ty tx : TE) : TE := fun σ H Q => td σ H fun x H1 => ∃ a, x = .ref a ∧ IsD H1 a ∧ ty σ H1 fun y H2 => tx σ H2 fun z H3 => ∃ kvs k, H3 a = some (.dK kvs) ∧ y = kV k ∧
  (∀ v, valV kvs k = some v → Q v (upd H3 a (.dK (dropK kvs k)))) ∧ (valV kvs k = none → Q z H3)
section
variable {X : Cx} {o e f : Expr} {apos cpos : Pos} {td ty tx : TE}
end
section
variable {X : Cx} {pins : List (Addr × Obj)} {σ : St} {H : Hp} {s : Shared} {a : Addr} {kvs : List (Key × V)} {A : Around} {E : Value → Shared → Prop}
end
section
variable {X : Cx} {pins : List (Addr × Obj)} {σ : St} {H : Hp} {s : Shared} {a : Addr} {y : V} {u : Value} {A : Around} {E : Value → Shared → Prop}
end
section
variable {X : Cx}
end
section
variable {κ : Type} [DecidableEq κ]
end
end L2

namespace L2
open PySem PySem.Spec PyProof.Rows
structure DefOk (P : Program) (w : World) (K : PySem.W.Frag) (mg : Str → Option Value) (base : Heap) (CX : CXT) (k : Nat) (x : Str) (ps : List Str) (sp : Sp) : Prop where
  ex : ∃ (f : Addr) (fd : FuncData), FnOk P w K mg base CX k f fd ps sp ∧ Binds K fd ps [] ∧ PySem.W.keepIn K (.ref f) = true ∧ mg x = some (.ref f)
theorem DefOk.mono {P : Program} {w : World} {K : PySem.W.Frag} {mg : Str → Option Value} {base : Heap} {CX : CXT} {j k : Nat} {x : Str} {ps : List Str} {sp : Sp} (D : DefOk P w K mg base CX j x ps sp) (h : j ≤ k) : DefOk P w K mg base CX k x ps sp := by
  obtain ⟨f, fd, F, b⟩ := D.ex
  exact ⟨f, fd, F.mono h, b⟩
section
variable {X : Cx} {CX : CXT} {k : Nat} {ps : List Str} {sp : Sp} {E : XK} {x : Str} {p pos : Pos} {e : Expr} {es : List Expr} {t : TA}
theorem pe_callD (D : DefOk X.prog X.w X.K X.mg X.base CX k x ps sp) (hr : Room k X.A) (hg : Gl X x) (hx : Passes CX X E) (ha : PA X (e :: es) t) (hdb : (x == ("__debug__" : Str)) = false := by decide)
    (he : starEach (e :: es) X.env = (false, eval e X.env) :: starEach es X.env := by rfl) (hpl : (backTo pos (starEach es X.env)).any (·.1) = false := by rfl) :
    PE X (.Call (.Name x p) (e :: es) [] pos) (tCall sp [] E t) := by
  obtain ⟨f, fd, F, b, kp, m⟩ := D.ex
  exact pe_call F hr hg m kp b .nil hx ha hdb he hpl
end
def CDivW (_ j : Int) : Prop := 0 < j ∧ j < 2 ^ 64
theorem op_fdivW {X : Cx} : OpR X (binaryOp .FloorDiv) (rI CDivW fun i j => .int (i / j)) := opI fun i j _ _ _ _ _ hc q => by
  have h1 : (0 : Int) < j := hc.1
  have h2 : j < 2 ^ 64 := hc.2
  have h3 : j.natAbs.log2 < 64 := (Nat.log2_lt (by omega)).mpr (by omega)
  exact floordiv_int (by omega) (by rw [Int.fdiv_eq_ediv_of_nonneg i (by omega)]; exact q) (.inl (PyProof.noPylong_of_log2 (by omega)))
def Ch (W : List Addr) (H H' : Hp) : Prop := ∀ b o, H b = some o → b ∉ W → H' b = some o
theorem Ch.refl (W : List Addr) (H : Hp) : Ch W H H := fun _ _ h _ => h
theorem Ch.trans {W : List Addr} {H H1 H2 : Hp} (a : Ch W H H1) (b : Ch W H1 H2) : Ch W H H2 := fun c o h n => b c o (a c o h n) n
theorem Ch.get {W : List Addr} {H H' : Hp} {b : Addr} {o : HO} (c : Ch W H H') (h : H b = some o) (n : b ∉ W) : H' b = some o := c b o h n
theorem Ch.mono {W W' : List Addr} {H H' : Hp} (c : Ch W H H') (h : ∀ b ∈ W, b ∈ W') : Ch W' H H' := fun b o q n => c b o q fun z => n (h b z)
theorem Ch.wk {W : List Addr} {H H' : Hp} (c : Ch [] H H') : Ch W H H' := c.mono fun b h => nomatch h
theorem Ch.new {W : List Addr} {H : Hp} {p : Addr} (h : H p = none) (o : HO) : Ch W H (upd H p o) := fun b u q _ => by rw [upd_ne (ne_of_none q h)]; exact q
theorem Ch.put {H : Hp} {p : Addr} {o : HO} : Ch [p] H (upd H p o) := fun b u q n => by rw [upd_ne (fun z => n (by simp [z]))]; exact q
def Scr (K : PySem.W.Frag) (H : Hp) (a : Addr) (ns : List Int) : Prop :=
  ns.length ≤ 63 ∧ ((∃ o, H a = some (.frz o (.lst (ns.map V.int)))) ∨
    ∃ (o : Obj) (its : Array Value) (n : Nat), K.lookup a = some o ∧ o.cls = .type "list" ∧ o.dict = none ∧ o.data = .seq its n ∧ its.size ≤ sizeLine ∧ Vals (ns.map V.int) its.toList)
theorem Scr.sq {K : PySem.W.Frag} {H : Hp} {a : Addr} {ns : List Int} (S : Scr K H a ns) : SqL K H a (ns.map V.int) := by
  rcases S.2 with ⟨o, h⟩ | h
  · exact .inl (.inr ⟨o, h⟩)
  · exact .inr h
theorem Scr.ch {K : PySem.W.Frag} {H H' : Hp} {a b : Addr} {ns : List Int} {xs : List V} (S : Scr K H a ns) (hb : H b = some (.lst xs)) (c : Ch [b] H H') : Scr K H' a ns := by
  refine ⟨S.1, ?_⟩
  rcases S.2 with ⟨o, h⟩ | h
  · exact .inl ⟨o, c.get h (by
      intro z
      have e : a = b := by simpa using z
      subst e
      rw [h] at hb
      cases hb)⟩
  · exact .inr h
theorem Scr.same {K : PySem.W.Frag} {H H' : Hp} {a : Addr} {ns : List Int} (S : Scr K H a ns) (c : Ch [] H H') : Scr K H' a ns := by
  refine ⟨S.1, ?_⟩
  rcases S.2 with ⟨o, h⟩ | h
  · exact .inl ⟨o, c.get h (by simp)⟩
  · exact .inr h
theorem Scr.of {K : PySem.W.Frag} {H : Hp} {a : Addr} {ns : List Int} (h : SqL K H a (ns.map V.int)) (hl : ns.length ≤ 63) (hO : Only H) : Scr K H a ns := by
  refine ⟨hl, ?_⟩
  rcases h with (h | ⟨o, h⟩) | h
  · rcases hO a with z | ⟨o, xs, z⟩
    · rw [h] at z; cases z
    · rw [h] at z; cases z
  · exact .inl ⟨o, h⟩
  · exact .inr h
end L2
namespace L2
open PySem PySem.Spec PyProof.Rows
theorem g_new {H : Hp} {p q : Addr} {o u : HO} (hq : H q = none) (h : H p = some o) : upd H q u p = some o := by rw [upd_ne (ne_of_none h hq)]; exact h
theorem g_put {H : Hp} {p q : Addr} {o u : HO} (n : p ≠ q) (h : H p = some o) : upd H q u p = some o := by rw [upd_ne n]; exact h
structure Loop (J : It) (g : TG) (tb : TS) (D : Ends) (σ : St) (H : Hp) : Prop where
  ex : ∃ W : Nat → Nat → St → Hp → Prop, (∃ m, W 0 m σ H) ∧ ∀ i m σ H, W i m σ H →
    (J.stop i H ∧ D.nx σ H) ∨ (J.go i H ∧ ∃ N : St → Hp → Prop, (∀ σ' H', N σ' H' → ∃ m', m' < m ∧ W (i + 1) m' σ' H') ∧ ∀ x H', J.yld i H x H' → g x σ H' fun σ2 H2 => tb { D with nx := N, ct := N, bk := D.nx } σ2 H2)
def tLoop (wi : TI) (g : TG) (tb : TS) : TS := fun D σ H => wi σ H fun J H1 => Loop J g tb D σ H1
theorem ps_loop {X : Cx} {tg iter : Expr} {body : List Stmt} {wi : TI} {g : TG} {tb : TS} {pos : Pos} (hp : PassesOwn (model X.prog X.w) X.A X.env X.xe) (hc : X.calm = true) (hi : PI X tg iter wi) (hg : PG X tg g) (hb : PSs X body tb)
    (hs : ∀ x, foldedSetIterable iter X.env x = pure x := by intro _; rfl) : PS X (.For tg iter body [] pos) (tLoop wi g tb) := by
  have hi' : PI X tg iter (fun σ H R => ∃ R0 : It → Hp → Prop, wi σ H R0 ∧ ∀ J H1, R0 J H1 → R J H1) := by
    intro pins s σ H R I ⟨R0, h, m⟩
    refine thn (hi pins s σ H _ I h) fun v s1 h1 => thn h1 fun itv s2 h2 => ?_
    obtain ⟨it, fp, tn, J, H2, e, I2, T, st2, f2, r⟩ := h2
    exact ⟨it, fp, tn, J, H2, e, I2, T, st2, f2, m _ _ r⟩
  intro pins s σ H D I h
  exact ps_for hp hc hi' hg hb hs pins s σ H D I ⟨_, h, fun J H1 l => l.ex⟩
theorem loop_list {K : PySem.W.Frag} {a : Addr} {xs : List V} {g : TG} {tb : TS} {D : Ends} {σ : St} {H : Hp} (Pv : Nat → St → Hp → Prop) (h0 : Pv 0 σ H) (hl : ∀ i σ H, i ≤ xs.length → Pv i σ H → SqL K H a xs)
    (hs : ∀ i x σ H, xs[i]? = some x → Pv i σ H → g x σ H fun σ2 H2 => tb { D with nx := Pv (i + 1), ct := Pv (i + 1), bk := D.nx } σ2 H2) (hd : ∀ σ H, Pv xs.length σ H → D.nx σ H) : Loop (Itl K a) g tb D σ H := ⟨for_list Pv h0 hl hs hd⟩
theorem loop_range {lo : Int} {n : Nat} {g : TG} {tb : TS} {D : Ends} {σ : St} {H : Hp} (Pv : Nat → St → Hp → Prop) (h0 : Pv 0 σ H)
    (hs : ∀ i σ H, i < n → Pv i σ H → g (.int (lo + i)) σ H fun σ2 H2 => tb { D with nx := Pv (i + 1), ct := Pv (i + 1), bk := D.nx } σ2 H2) (hd : ∀ σ H, Pv n σ H → D.nx σ H) : Loop (Itr lo n) g tb D σ H := ⟨for_range Pv h0 hs hd⟩
structure Cut (t u : TS) (D : Ends) (σ : St) (H : Hp) : Prop where
  ex : ∃ P : St → Hp → Prop, t { D with nx := P } σ H ∧ ∀ σ' H', P σ' H' → u D σ' H'
def tCut (t u : TS) : TS := fun D σ H => Cut t u D σ H
theorem pss_cut {X : Cx} {st : Stmt} {rest : List Stmt} {t u : TS} (h1 : PS X st t) (h2 : PSs X rest u) : PSs X (st :: rest) (tCut t u) := by
  intro pins s σ H D I h
  obtain ⟨P, a, b⟩ := h.ex
  have h1' : PS X st (fun D' σ' H' => ∃ P : St → Hp → Prop, t { D' with nx := P } σ' H' ∧ ∀ σ2 H2, P σ2 H2 → D'.nx σ2 H2) := by
    intro pins s σ H D I ⟨P, a, b⟩
    refine thn (h1 pins s σ H _ I a) fun f s' q => ?_
    cases f with
    | next => obtain ⟨σ7, H7, I7, n7⟩ := q; exact ⟨σ7, H7, I7, b _ _ n7⟩
    | cont => exact q
    | brk => exact q
    | ret v => exact q
  exact pss_cons h1' h2 pins s σ H D I ⟨P, a, b⟩
theorem cut_by {t u : TS} {D : Ends} {σ : St} {H : Hp} (P : St → Hp → Prop) (h1 : t { D with nx := P } σ H) (h2 : ∀ σ' H', P σ' H' → u D σ' H') : Cut t u D σ H := ⟨P, h1, h2⟩
theorem atI_ints {ns : List Int} {i : Int} (h0 : 0 ≤ i) (h1 : i < (ns.length : Int)) : ∃ n : Int, atI (ns.map V.int) i = some (.int n) := by
  have hk : i.toNat < ns.length := by omega
  have ek : i = ((i.toNat : Nat) : Int) := by omega
  have q : atI (ns.map V.int) ((i.toNat : Nat) : Int) = some (.int ns[i.toNat]) := atI_nat (by rw [List.getElem?_map, List.getElem?_eq_getElem hk]; rfl)
  rw [← ek] at q
  exact ⟨_, q⟩
end L2

namespace L2
open PySem PySem.Spec PyProof.Rows
structure Atx {α : Type} (xs : List α) (i : Int) (R : α → Prop) : Prop where
  ex : ∃ v, atI xs i = some v ∧ R v
theorem Atx.of {α : Type} {xs : List α} {i : Int} {v : α} {R : α → Prop} (h : atI xs i = some v) (r : R v) : Atx xs i R := ⟨v, h, r⟩
theorem atI_get0 {α : Type} {xs : List α} {i : Int} (h0 : 0 ≤ i) (h1 : i < (xs.length : Int)) : ∃ h : i.toNat < xs.length, atI xs i = some xs[i.toNat] := by
  have hk : i.toNat < xs.length := by omega
  have ek : i = ((i.toNat : Nat) : Int) := by omega
  have q : atI xs ((i.toNat : Nat) : Int) = some xs[i.toNat] := atI_nat (List.getElem?_eq_getElem hk)
  rw [← ek] at q
  exact ⟨hk, q⟩
section
variable {X : Cx}
theorem IxR.imp {r r' : R2} (h : IxR X r) (f : ∀ x y H Q, r' x y H Q → r x y H Q) : IxR X r' := fun value slice pins s σ H x y v u Q I rx ry q hs => h value slice pins s σ H x y v u Q I rx ry (f _ _ _ _ q) hs
def aIxL (K : PySem.W.Frag) : R2 := fun x y H Q => ∃ p xs i, x = .ref p ∧ y = .int i ∧ SqL K H p xs ∧ Atx xs i fun v => Q v H
def aIxT (K : PySem.W.Frag) : R2 := fun x y H Q => ∃ p xs i, x = .ref p ∧ y = .int i ∧ SqT K H p xs ∧ Atx xs i fun v => Q v H
def aIxS : R2 := fun x y H Q => ∃ z i, x = .str z ∧ y = .int i ∧ z.length ≤ sizeLine ∧ Atx z.cps.toList i fun c => Q (.str ⟨#[c]⟩) H
theorem ixa_list : IxR X (aIxL X.K) := ix_list.imp fun x y H Q ⟨p, xs, i, e1, e2, h, a⟩ => let ⟨v, hv, q⟩ := a.ex; ⟨p, xs, i, v, e1, e2, h, hv, q⟩
theorem ixa_tup : IxR X (aIxT X.K) := ix_tup.imp fun x y H Q ⟨p, xs, i, e1, e2, h, a⟩ => let ⟨v, hv, q⟩ := a.ex; ⟨p, xs, i, v, e1, e2, h, hv, q⟩
end
end L2
namespace L2
open PySem
section
variable {es : List Expr} {env : Env}
theorem se_Name {x pos} : starEach (.Name x pos :: es) env = (false, eval (.Name x pos) env) :: starEach es env := rfl
theorem se_Constant {c k pos} : starEach (.Constant c k pos :: es) env = (false, eval (.Constant c k pos) env) :: starEach es env := rfl
theorem se_BinOp {a o b pos} : starEach (.BinOp a o b pos :: es) env = (false, eval (.BinOp a o b pos) env) :: starEach es env := rfl
theorem se_UnaryOp {a o pos} : starEach (.UnaryOp o a pos :: es) env = (false, eval (.UnaryOp o a pos) env) :: starEach es env := rfl
theorem se_Call {a o b pos} : starEach (.Call a o b pos :: es) env = (false, eval (.Call a o b pos) env) :: starEach es env := rfl
theorem se_Tuple {a k pos} : starEach (.Tuple a k pos :: es) env = (false, eval (.Tuple a k pos) env) :: starEach es env := rfl
theorem se_List {a pos} : starEach (.List a pos :: es) env = (false, eval (.List a pos) env) :: starEach es env := rfl
theorem se_Subscript {a b pos} : starEach (.Subscript a b pos :: es) env = (false, eval (.Subscript a b pos) env) :: starEach es env := rfl
theorem se_Compare {a b c pos} : starEach (.Compare a b c pos :: es) env = (false, eval (.Compare a b c pos) env) :: starEach es env := rfl
theorem se_Attribute {a b pos} : starEach (.Attribute a b pos :: es) env = (false, eval (.Attribute a b pos) env) :: starEach es env := rfl
theorem se_ListComp {a b c pos} : starEach (.ListComp a b c pos :: es) env = (false, eval (.ListComp a b c pos) env) :: starEach es env := rfl
end
end L2
namespace L2
open PySem
theorem Ch.own {W : List Addr} {H H' : Hp} {p : Addr} {o : HO} (n : H p = none) (c : Ch W H H') : Ch W H (upd H' p o) := fun b u h k => by
  rw [upd_ne (ne_of_none h n)]
  exact c b u h k
end L2
namespace L2
open PySem
theorem Atx.head {α : Type} {x : α} {xs : List α} {R : α → Prop} (r : R x) : Atx (x :: xs) 0 R := ⟨x, atI_nat (j := 0) rfl, r⟩
end L2

namespace L2
open PySem PySem.Spec PyProof.Rows
inductive SK where
  | list | tuple
def SIt (k : SK) (h : Heap) (it l : Addr) (i : Nat) : Prop := match k with
  | .list => h.IsListIter it l i
  | .tuple => h.IsTupleIter it l i
def SIs (k : SK) (h : Heap) (l : Addr) (items : Array Value) : Prop := match k with
  | .list => h.IsList l items
  | .tuple => h.IsTuple l items
def Sq (k : SK) (K : PySem.W.Frag) (H : Hp) (a : Addr) (xs : List V) : Prop := match k with
  | .list => SqL K H a xs
  | .tuple => SqT K H a xs
theorem SIt.at {k : SK} {h h' : Heap} {a l i} (x : SIt k h a l i) (e : ∀ o, h.get? a = some o → h'.get? a = some o) : SIt k h' a l i := by
  cases k with
  | list => exact Heap.IsListIter.at x e
  | tuple => exact Heap.IsTupleIter.at x e
theorem SIt.obj {k : SK} {h : Heap} {a l i} (x : SIt k h a l i) : ∃ o, h.get? a = some o ∧ ∀ v, o.data ≠ .cell v := by
  cases k with
  | list => obtain ⟨o, e, c, d⟩ := (show h.IsListIter a l i from x); exact ⟨o, e, fun v z => by rw [d] at z; cases z⟩
  | tuple => obtain ⟨o, e, c, d⟩ := (show h.IsTupleIter a l i from x); exact ⟨o, e, fun v z => by rw [d] at z; cases z⟩
theorem SIs.at {k : SK} {h h' : Heap} {a items} (x : SIs k h a items) (e : ∀ o, h.get? a = some o → h'.get? a = some o) : SIs k h' a items := by
  cases k with
  | list => exact Heap.IsList.at x e
  | tuple => obtain ⟨o, ho, r⟩ := (show h.IsTuple a items from x); exact ⟨o, e _ ho, r⟩
theorem SIs.lt {k : SK} {h : Heap} {a items} (x : SIs k h a items) : a < h.objs.size := by
  cases k with
  | list => obtain ⟨_, e, _⟩ := (show h.IsList a items from x); exact Heap.lt_size e
  | tuple => obtain ⟨_, e, _⟩ := (show h.IsTuple a items from x); exact Heap.lt_size e
section
variable {prog : Program} {w : World} {A : Around} {E : Value → Shared → Prop} {s : Shared}
theorem nextOf_tuple_item {it l : Addr} {i : Nat} {items} {x : Value} {Q : Value → Shared → Prop} (hit : s.heap.IsTupleIter it l i)
    (hl : s.heap.IsTuple l items) (hx : items[i]? = some x)
    (hQ : ∀ h', h'.IsTupleIter it l (i + 1) → Heap.SameBut it s.heap h' → Q x { s with heap := h' }) :
    wpAny (model prog w) A (Builtin.SmallTypes.nextOf (.ref it)) Q E s := by
  obtain ⟨o, ho, hc, hd⟩ := id hit
  obtain ⟨ol, hol, _, nl, hdl⟩ := hl
  unfold Builtin.SmallTypes.nextOf
  refine wpAny_bind (wpAny_callSpecial?_slot (name := Str.ofString "__next__") hit.typeIs F.slot_tuple_iterator_next
    (wpAny_call_entry F.slot_tuple_iterator_next hit.typeIs F.entry_tuple_iterator_next ?_ (F.args_tuple_iterator_next_1 _)))
  show wpAny _ _ (field (.ref it) 0 >>= _) _ _ s
  refine wpAny_bind (wpAny_field ho hd (x := .ref l) rfl ?_)
  show wpAny _ _ (if (Value.ref l == Value.none) = true then _ else _) _ _ s
  rw [if_neg (show ¬ ((Value.ref l == Value.none) = true) from Bool.false_ne_true)]
  show wpAny _ _ (field (.ref it) 1 >>= _) _ _ s
  refine wpAny_bind (wpAny_field ho hd (x := .int i 0) rfl ?_)
  show wpAny _ _ (seqItems? (.ref l) >>= _) _ _ s
  refine wpAny_bind (wpAny_seqItems hol hdl ?_)
  simp only [Int.toNat_natCast, hx]
  refine wpAny_bind (wpAny_setField ho hd (by simp) (wpAny_pure ⟨x, rfl, wpAny_pure (hQ _ ?_ (Heap.SameBut.update ..))⟩))
  exact ⟨_, Heap.get?_update_self _ ho (Obj.isFreed_of_fields (Obj.data_mapFields hd _)), (Obj.cls_mapFields ..).trans hc, by
    rw [Obj.data_mapFields hd]; simp [rawInt]⟩
theorem nextOf_tuple_end {it l : Addr} {i : Nat} {items} {Q : Value → Shared → Prop} (hh : A.handled = none)
    (hit : s.heap.IsTupleIter it l i) (hl : s.heap.IsTuple l items) (hx : items[i]? = none)
    (hE : ∀ h' e, Heap.ExtBut it s.heap h' → (∃ o, h'.get? e = some o ∧ o.cls = .type "StopIteration") → E (.ref e) { s with heap := h' }) :
    wpAny (model prog w) A (Builtin.SmallTypes.nextOf (.ref it)) Q E s := by
  obtain ⟨o, ho, hc, hd⟩ := id hit
  obtain ⟨ol, hol, _, nl, hdl⟩ := hl
  unfold Builtin.SmallTypes.nextOf
  refine wpAny_bind (wpAny_callSpecial?_slot (name := Str.ofString "__next__") hit.typeIs F.slot_tuple_iterator_next
    (wpAny_call_entry F.slot_tuple_iterator_next hit.typeIs F.entry_tuple_iterator_next ?_ (F.args_tuple_iterator_next_1 _)))
  show wpAny _ _ (field (.ref it) 0 >>= _) _ _ s
  refine wpAny_bind (wpAny_field ho hd (x := .ref l) rfl ?_)
  show wpAny _ _ (if (Value.ref l == Value.none) = true then _ else _) _ _ s
  rw [if_neg (show ¬ ((Value.ref l == Value.none) = true) from Bool.false_ne_true)]
  show wpAny _ _ (field (.ref it) 1 >>= _) _ _ s
  refine wpAny_bind (wpAny_field ho hd (x := .int i 0) rfl ?_)
  show wpAny _ _ (seqItems? (.ref l) >>= _) _ _ s
  refine wpAny_bind (wpAny_seqItems hol hdl ?_)
  simp only [Int.toNat_natCast, hx]
  refine wpAny_bind (wpAny_rule (wpAny_bind (wpAny_setField ho hd (by simp) ?_)))
  show wpAny _ _ (newExc (.type "StopIteration") [] >>= _) _ _ _
  refine wpAny_bind ?_
  simp only [newExc, newTuple]
  refine wpAny_bind (wpAny_newObj_type ?_ (by size_fits))
  refine wpAny_bind (m := firstArgMember _ _) (wpAny_of_eq (a := Value.none) (by first | rfl | (simp only [firstArgMember]; rfl)) ?_)
  refine wpAny_newObj_type ?_ (by size_fits)
  simp only [raiseNew]
  refine wpAny_bind (wpAny_handled ?_)
  first | rw [show A.in1.handled = none from hh] | rw [hh]
  refine wpAny_bind (wpAny_pure (wpAny_throw ?_))
  exact hE _ _ (((Heap.SameBut.update ..).extBut.push _).push _) ⟨_, Heap.get?_push_size _ rfl, rfl⟩
theorem nextOf_item {k : SK} {it l : Addr} {i : Nat} {items} {x : Value} {Q : Value → Shared → Prop} (hit : SIt k s.heap it l i) (hl : SIs k s.heap l items) (hx : items[i]? = some x)
    (hQ : ∀ h', SIt k h' it l (i + 1) → Heap.SameBut it s.heap h' → Q x { s with heap := h' }) : wpAny (model prog w) A (Builtin.SmallTypes.nextOf (.ref it)) Q E s := by
  cases k with
  | list => exact wpAny_nextOf_list_item hit hl hx hQ
  | tuple => exact nextOf_tuple_item hit hl hx hQ
theorem nextOf_end {k : SK} {it l : Addr} {i : Nat} {items} {Q : Value → Shared → Prop} (hh : A.handled = none) (hit : SIt k s.heap it l i) (hl : SIs k s.heap l items) (hx : items[i]? = none)
    (hE : ∀ h' e, Heap.ExtBut it s.heap h' → (∃ o, h'.get? e = some o ∧ o.cls = .type "StopIteration") → E (.ref e) { s with heap := h' }) :
    wpAny (model prog w) A (Builtin.SmallTypes.nextOf (.ref it)) Q E s := by
  cases k with
  | list => exact wpAny_nextOf_list_end hh hit hl hx hE
  | tuple => exact nextOf_tuple_end hh hit hl hx hE
theorem SIt.ext {k : SK} {h h' : Heap} {a b l i} (x : SIt k h a l i) (hs : Heap.ExtBut b h h') (hab : a ≠ b) : SIt k h' a l i := x.at fun o e => hs _ _ hab e
theorem SIs.ext {k : SK} {h h' : Heap} {a b items} (x : SIs k h a items) (hs : Heap.ExtBut b h h') (hab : a ≠ b) : SIs k h' a items := x.at fun o e => hs _ _ hab e
theorem zipS_item {k1 k2 : SK} {z TI TO i1 i2 l1 l2 : Addr} {n1 n2 : Nat} {xs ys : Array Value} {x y a b : Value} {Q : Value → Shared → Prop} (D : ZipApart z TI TO i1 i2 l1 l2)
    (hz : IsZip s.heap z TI TO .none) (hTI : IsPair s.heap TI (.ref i1) (.ref i2)) (hTO : IsPair s.heap TO a b)
    (h1 : SIt k1 s.heap i1 l1 n1) (h2 : SIt k2 s.heap i2 l2 n2) (hl1 : SIs k1 s.heap l1 xs) (hl2 : SIs k2 s.heap l2 ys) (hx : xs[n1]? = some x) (hy : ys[n2]? = some y)
    (hQ : ∀ h', IsZip h' z TI TO (rawInt s.heap.objs.size) → IsPair h' TO x y → SIt k1 h' i1 l1 (n1 + 1) → SIt k2 h' i2 l2 (n2 + 1) → IsPair h' s.heap.objs.size x y → h'.objs.size = s.heap.objs.size + 1 →
      (∀ c o, c ≠ z → c ≠ TO → c ≠ i1 → c ≠ i2 → s.heap.get? c = some o → h'.get? c = some o) → Q (.ref s.heap.objs.size) { s with heap := h' }) :
    wpAny (model prog w) A (Builtin.«zip.__next__» ⟨[.ref z], []⟩) (fun fin s' => ∃ v, fin = .done (.ret v) ∧ Q v s') E s := by
  show wpAny _ _ (field (.ref z) 2 >>= _) _ _ _
  refine wpAny_bind (wpAny_field hz rfl (x := .bool false) rfl ?_)
  show wpAny _ _ (field (.ref z) 3 >>= _) _ _ _
  refine wpAny_bind (wpAny_field hz rfl (x := .ref TI) rfl ?_)
  refine wpAny_bind (wpAny_seqItems hTI rfl ?_)
  show wpAny _ _ (Builtin.SmallTypes.ownedTupleIsFree (.ref z) >>= _) _ _ _
  refine wpAny_bind ?_
  unfold Builtin.SmallTypes.ownedTupleIsFree
  refine wpAny_bind (wpAny_field hz rfl (x := .none) rfl (wpAny_pure ?_))
  simp only [if_true]
  refine wpAny_bind (wpAny_rule ?_)
  refine wpAny_bind (wpAny_field hz rfl (x := .ref TO) rfl ?_)
  refine wpAny_bind (wpAny_setField_rec hz (by simp) fun h₁ hz₁ hs₁ => ?_)
  replace hz₁ : IsZip h₁ z TI TO .ellipsis := hz₁
  refine wpAny_bind ?_
  simp only [List.zipIdx_cons, List.zipIdx_nil, List.forIn_cons, List.forIn_nil]
  refine wpAny_bind (wpAny_bind (wpAny_onRaise ?_))
  show wpAny _ _ (Builtin.SmallTypes.nextOf (.ref i1) >>= _) _ _ _
  refine wpAny_bind (nextOf_item (h1.ext hs₁.extBut D.i1z) (hl1.ext hs₁.extBut D.l1z) hx fun h₂ h1₂ hs₂ => wpAny_pure ?_)
  have hTO₂ : IsPair h₂ TO a b := hs₂.extBut _ _ D.TOi1 (hs₁.extBut _ _ D.TOz hTO)
  refine wpAny_bind (wpAny_seqItems hTO₂ rfl ?_)
  refine wpAny_bind (wpAny_updateSeq_pair hTO₂ fun h₃ hTO₃ hs₃ => ?_)
  replace hTO₃ : IsPair h₃ TO x b := hTO₃
  refine wpAny_bind (wpAny_letGo (wpAny_pure ?_))
  refine wpAny_bind (wpAny_bind (wpAny_onRaise ?_))
  show wpAny _ _ (Builtin.SmallTypes.nextOf (.ref i2) >>= _) _ _ _
  refine wpAny_bind (nextOf_item (((h2.ext hs₁.extBut D.i2z).ext hs₂.extBut D.i12.symm).ext hs₃.extBut D.TOi2.symm)
    (((hl2.ext hs₁.extBut D.l2z).ext hs₂.extBut D.l2i1).ext hs₃.extBut D.l2TO) hy fun h₄ h2₄ hs₄ => wpAny_pure ?_)
  have hTO₄ : IsPair h₄ TO x b := hs₄.extBut _ _ D.TOi2 hTO₃
  refine wpAny_bind (wpAny_seqItems hTO₄ rfl ?_)
  refine wpAny_bind (wpAny_updateSeq_pair hTO₄ fun h₅ hTO₅ hs₅ => ?_)
  replace hTO₅ : IsPair h₅ TO x y := hTO₅
  refine wpAny_bind (wpAny_letGo (wpAny_pure (wpAny_pure ?_)))
  refine wpAny_bind (wpAny_seqItems hTO₅ rfl ?_)
  refine wpAny_bind (wpAny_newTuple ?_)
  have hsz : h₅.objs.size = s.heap.objs.size := by rw [hs₅.1, hs₄.1, hs₃.1, hs₂.1, hs₁.1]
  have hz₅ : IsZip h₅ z TI TO .ellipsis := hs₅.extBut _ _ D.TOz.symm (hs₄.extBut _ _ D.i2z.symm (hs₃.extBut _ _ D.TOz.symm (hs₂.extBut _ _ D.i1z.symm hz₁)))
  have hk₅ : ∀ c o, c ≠ z → c ≠ TO → c ≠ i1 → c ≠ i2 → s.heap.get? c = some o → h₅.get? c = some o := fun c o c1 c2 c3 c4 e =>
    hs₅.extBut _ _ c2 (hs₄.extBut _ _ c4 (hs₃.extBut _ _ c2 (hs₂.extBut _ _ c3 (hs₁.extBut _ _ c1 e))))
  have h1₅ : SIt k1 h₅ i1 l1 (n1 + 1) := ((h1₂.ext hs₃.extBut D.TOi1.symm).ext hs₄.extBut D.i12).ext hs₅.extBut D.TOi1.symm
  have h2₅ : SIt k2 h₅ i2 l2 (n2 + 1) := h2₄.ext hs₅.extBut D.TOi2.symm
  have hzlt : z < h₅.objs.size := Heap.lt_size hz₅
  show wpAny _ _ (Builtin.SmallTypes.ownedTupleHandOut (.ref z) (.ref h₅.objs.size) >>= _) _ _ _
  refine wpAny_bind ?_
  unfold Builtin.SmallTypes.ownedTupleHandOut
  have hz₆ : IsZip (h₅.push { cls := .type "tuple", data := .seq #[x, y] }) z TI TO .ellipsis := Heap.get?_push_of_some _ hz₅
  refine wpAny_bind (wpAny_setField_rec hz₆ (by simp) fun h₇ hz₇ hs₇ => ?_)
  replace hz₇ : IsZip h₇ z TI TO (rawInt h₅.objs.size) := hz₇
  refine wpAny_setField_rec hz₇ (by simp) fun h₈ hz₈ hs₈ => ?_
  replace hz₈ : IsZip h₈ z TI TO (rawInt h₅.objs.size) := hz₈
  have up : ∀ c o, c ≠ z → h₅.get? c = some o → h₈.get? c = some o := fun c o c1 e => hs₈.extBut _ _ c1 (hs₇.extBut _ _ c1 (Heap.get?_push_of_some _ e))
  have hT₈ : IsPair h₈ h₅.objs.size x y := hs₈.extBut _ _ (Nat.ne_of_gt hzlt) (hs₇.extBut _ _ (Nat.ne_of_gt hzlt) (Heap.get?_push_size _ rfl))
  have hz8 : h₈.objs.size = h₅.objs.size + 1 := by rw [hs₈.1, hs₇.1, Heap.size_push]
  rw [hsz] at hz₈ hT₈ hz8
  refine wpAny_pure ⟨_, rfl, ?_⟩
  show Q (.ref h₅.objs.size) _
  rw [hsz]
  exact hQ h₈ hz₈ (up _ _ D.TOz hTO₅) (h1₅.at fun o e => up _ o D.i1z e) (h2₅.at fun o e => up _ o D.i2z e) hT₈ hz8 fun c o c1 c2 c3 c4 e => up c o c1 (hk₅ c o c1 c2 c3 c4 e)
theorem zipS_end {k1 k2 : SK} {z TI TO i1 i2 l1 l2 : Addr} {n1 n2 : Nat} {xs ys : Array Value} {a b : Value} {Q : Fin → Shared → Prop} (hh : A.handled = none) (D : ZipApart z TI TO i1 i2 l1 l2)
    (hz : IsZip s.heap z TI TO .none) (hTI : IsPair s.heap TI (.ref i1) (.ref i2)) (hTO : IsPair s.heap TO a b)
    (h1 : SIt k1 s.heap i1 l1 n1) (h2 : SIt k2 s.heap i2 l2 n2) (hl1 : SIs k1 s.heap l1 xs) (hl2 : SIs k2 s.heap l2 ys) (hend : xs[n1]? = none ∨ ys[n2]? = none)
    (hE : ∀ h' e, (∀ c o, c ≠ z → c ≠ TO → c ≠ i1 → c ≠ i2 → s.heap.get? c = some o → h'.get? c = some o) → (∃ o, h'.get? e = some o ∧ o.cls = .type "StopIteration") → E (.ref e) { s with heap := h' }) :
    wpAny (model prog w) A (Builtin.«zip.__next__» ⟨[.ref z], []⟩) Q E s := by
  show wpAny _ _ (field (.ref z) 2 >>= _) _ _ _
  refine wpAny_bind (wpAny_field hz rfl (x := .bool false) rfl ?_)
  show wpAny _ _ (field (.ref z) 3 >>= _) _ _ _
  refine wpAny_bind (wpAny_field hz rfl (x := .ref TI) rfl ?_)
  refine wpAny_bind (wpAny_seqItems hTI rfl ?_)
  show wpAny _ _ (Builtin.SmallTypes.ownedTupleIsFree (.ref z) >>= _) _ _ _
  refine wpAny_bind ?_
  unfold Builtin.SmallTypes.ownedTupleIsFree
  refine wpAny_bind (wpAny_field hz rfl (x := .none) rfl (wpAny_pure ?_))
  simp only [if_true]
  refine wpAny_bind (wpAny_rule ?_)
  refine wpAny_bind (wpAny_field hz rfl (x := .ref TO) rfl ?_)
  refine wpAny_bind (wpAny_setField_rec hz (by simp) fun h₁ hz₁ hs₁ => ?_)
  replace hz₁ : IsZip h₁ z TI TO .ellipsis := hz₁
  refine wpAny_bind ?_
  simp only [List.zipIdx_cons, List.zipIdx_nil, List.forIn_cons, List.forIn_nil]
  refine wpAny_bind (wpAny_bind (wpAny_onRaise ?_))
  show wpAny _ _ (Builtin.SmallTypes.nextOf (.ref i1) >>= _) _ _ _
  cases hx : xs[n1]? with
  | none =>
    refine wpAny_bind (nextOf_end hh (h1.ext hs₁.extBut D.i1z) (hl1.ext hs₁.extBut D.l1z) hx fun h₂ e hs₂ he => ?_)
    obtain ⟨oe, hoe, hce⟩ := he
    have hz₂ : IsZip h₂ z TI TO .ellipsis := hs₂ _ _ D.i1z.symm hz₁
    have hez : e ≠ z := fun x => by subst x; rw [hz₂] at hoe; cases hoe; simp at hce
    refine wpAny_setField_rec hz₂ (by simp) fun h₃ _ hs₃ => hE h₃ e (fun c o c1 _ c3 _ x => hs₃.extBut _ _ c1 (hs₂ _ _ c3 (hs₁.extBut _ _ c1 x))) ⟨oe, hs₃.extBut _ _ hez hoe, hce⟩
  | some x =>
    have hy : ys[n2]? = none := by rcases hend with h | h; rw [hx] at h; cases h; exact h
    refine wpAny_bind (nextOf_item (h1.ext hs₁.extBut D.i1z) (hl1.ext hs₁.extBut D.l1z) hx fun h₂ h1₂ hs₂ => wpAny_pure ?_)
    have hTO₂ : IsPair h₂ TO a b := hs₂.extBut _ _ D.TOi1 (hs₁.extBut _ _ D.TOz hTO)
    refine wpAny_bind (wpAny_seqItems hTO₂ rfl ?_)
    refine wpAny_bind (wpAny_updateSeq_pair hTO₂ fun h₃ hTO₃ hs₃ => ?_)
    refine wpAny_bind (wpAny_letGo (wpAny_pure ?_))
    refine wpAny_bind (wpAny_bind (wpAny_onRaise ?_))
    show wpAny _ _ (Builtin.SmallTypes.nextOf (.ref i2) >>= _) _ _ _
    refine wpAny_bind (nextOf_end hh (((h2.ext hs₁.extBut D.i2z).ext hs₂.extBut D.i12.symm).ext hs₃.extBut D.TOi2.symm)
      (((hl2.ext hs₁.extBut D.l2z).ext hs₂.extBut D.l2i1).ext hs₃.extBut D.l2TO) hy fun h₄ e hs₄ he => ?_)
    obtain ⟨oe, hoe, hce⟩ := he
    have hz₄ : IsZip h₄ z TI TO .ellipsis := hs₄ _ _ D.i2z.symm (hs₃.extBut _ _ D.TOz.symm (hs₂.extBut _ _ D.i1z.symm hz₁))
    have hez : e ≠ z := fun x => by subst x; rw [hz₄] at hoe; cases hoe; simp at hce
    refine wpAny_setField_rec hz₄ (by simp) fun h₅ _ hs₅ => hE h₅ e (fun c o c1 c2 c3 c4 x => hs₅.extBut _ _ c1 (hs₄ _ _ c4 (hs₃.extBut _ _ c2 (hs₂.extBut _ _ c3 (hs₁.extBut _ _ c1 x))))) ⟨oe, hs₅.extBut _ _ hez hoe, hce⟩
end
end L2
namespace L2
open PySem PySem.Spec PyProof.Rows
section
variable {X : Cx} {pins : List (Addr × Obj)} {σ : List (Option V)} {H H' : Hp} {s : Shared} {h' : Heap}
theorem Inv.turnedL {t' : Nat} {its : List Addr} (I : Inv X pins σ H s) (k : ∀ b o, b ∉ its → s.heap.get? b = some o → h'.get? b = some o) (hf : ∀ b ∈ its, FpOk X pins H b) : Inv X pins σ H { s with heap := h', toks := t' } := by
  have nit : ∀ b u, H b = some u → b ∉ its := fun b u e z => by rw [(hf b z).1] at e; cases e
  refine I.step (g' := s.gens) (d' := s.drawn) (ch := its) (fun b hb => ?_) (fun b o _ _ hc e _ => k b o hc e) (fun b o _ _ hc e _ => ⟨o.slots, k b o hc e⟩) (fun _ _ _ _ n => n)
    (fun b o hc e => ⟨o, k b o hc e⟩) (fun _ _ e => e) (fun _ _ _ e => e) (fun b ps e => ⟨#[], by rw [e]; simp⟩) (fun m hm => ?_) (fun b u e => ?_) I.bare
  · obtain ⟨f0, f1, f2, f3, f4, f5⟩ := hf b hb
    exact ⟨f3, f1, f4, f5⟩
  · obtain ⟨o, es, ep, ho, r⟩ := hm
    exact ⟨o, es, ep, k _ o (fun z => (hf _ z).2.1 rfl) ho, r⟩
  · refine (I.hok b u e).stay (fun c v hc q => k c v ?_ q) (fun _ q => q) fun _ _ q => q
    rcases hc with z | z
    · rw [z]; exact nit b u e
    · exact nit c _ z
theorem Inv.turnedNew {t' : Nat} {its : List Addr} {T : Addr} {o : HO} (I : Inv X pins σ H s) (k : ∀ b ob, b ∉ its → s.heap.get? b = some ob → h'.get? b = some ob) (hf : ∀ b ∈ its, FpOk X pins H b)
    (hT : s.heap.objs.size ≤ T) (new : ObjOk X.prog X.w (upd H T o) h' T o) : Inv X pins σ (upd H T o) { s with heap := h', toks := t' } := by
  have nit : ∀ b u, H b = some u → b ∉ its := fun b u e z => by rw [(hf b z).1] at e; cases e
  have hn : H T = none := I.hok.fresh hT
  have neT : ∀ b ob, s.heap.get? b = some ob → b ≠ T := fun b ob e => Nat.ne_of_lt (Nat.lt_of_lt_of_le (Heap.lt_size e) hT)
  have up : ∀ b u, H b = some u → upd H T o b = some u := fun b u e => by rw [upd_ne (ne_of_none e hn)]; exact e
  refine I.step (g' := s.gens) (d' := s.drawn) (ch := its) (fun b hb => ?_) (fun b ob _ _ hc e _ => k b ob hc e) (fun b ob _ _ hc e _ => ⟨ob.slots, k b ob hc e⟩) (fun b ob _ e n => by rw [upd_ne (neT b ob e)]; exact n)
    (fun b ob hc e => ⟨ob, k b ob hc e⟩) (fun b _ e => up b _ e) (fun b _ _ e => up b _ e) (fun b ps e => ⟨#[], by rw [up b _ e]; simp⟩) (fun m hm => ?_) (fun b u e => ?_) I.bare
  · obtain ⟨f0, f1, f2, f3, f4, f5⟩ := hf b hb
    exact ⟨f3, f1, f4, f5⟩
  · obtain ⟨ob, es, ep, ho, r⟩ := hm
    exact ⟨ob, es, ep, k _ ob (fun z => (hf _ z).2.1 rfl) ho, r⟩
  · by_cases hb : b = T
    · subst hb; rw [upd_same] at e; cases e; exact new
    · rw [upd_ne hb] at e
      refine (I.hok b u e).stay (fun c v hc q => k c v ?_ q) (fun c q => up c _ q) fun c xs q => up c _ q
      rcases hc with z | z
      · rw [z]; exact nit b u e
      · exact nit c _ z
end
theorem Inv.sis {X : Cx} {pins : List (Addr × Obj)} {σ : St} {H : Hp} {s : Shared} {k : SK} {a : Addr} {xs : List V} (I : Inv X pins σ H s) (h : Sq k X.K H a xs) : ∃ its : List Value, Vals xs its ∧ SIs k s.heap a its.toArray := by
  cases k with
  | list => obtain ⟨its, r, p, _⟩ := I.list h; exact ⟨its, r, p.isList⟩
  | tuple => obtain ⟨its, r, p, _⟩ := I.tuple h; exact ⟨its, r, (show s.heap.IsTuple a its.toArray from p)⟩
theorem Inv.sq_inj {X : Cx} {pins : List (Addr × Obj)} {σ : St} {H : Hp} {s : Shared} {k : SK} {a : Addr} {xs ys : List V} (I : Inv X pins σ H s) (h : Sq k X.K H a xs) (h' : Sq k X.K H a ys) : xs = ys := by
  cases k with
  | list => exact I.list_inj h h'
  | tuple => exact I.tuple_inj h h'
def Itz (K : PySem.W.Frag) (k1 k2 : SK) (a b : Addr) : It :=
  ⟨fun i H => ∃ xs ys x y, Sq k1 K H a xs ∧ Sq k2 K H b ys ∧ xs[i]? = some x ∧ ys[i]? = some y,
   fun i H v H' => ∃ T, H T = none ∧ v = .ref T ∧ ∀ xs ys, Sq k1 K H a xs → Sq k2 K H b ys → ∃ x y, xs[i]? = some x ∧ ys[i]? = some y ∧ H' = upd H T (.tup [x, y]),
   fun i H => ∃ xs ys, Sq k1 K H a xs ∧ Sq k2 K H b ys ∧ (xs.length ≤ i ∨ ys.length ≤ i)⟩
theorem turn_zip {P : Program} {w : World} {K : PySem.W.Frag} {elts : List Expr} {kk : Nat} {tpos : Pos} {k1 k2 : SK} {z TI TO i1 i2 a b : Addr} (D : ZipApart z TI TO i1 i2 a b) :
    Turn P w K (.Tuple elts kk tpos) (Itz K k1 k2 a b) [z, TI, TO, i1, i2] z (fun i h => IsZip h z TI TO .none ∧ IsPair h TI (.ref i1) (.ref i2) ∧ (∃ c d, IsPair h TO c d) ∧ SIt k1 h i1 a i ∧ SIt k2 h i2 b i) where
  mem := by simp
  obj := fun i h st b hb => by
    obtain ⟨hz, hTI, ⟨c, d, hTO⟩, h1, h2⟩ := st
    simp only [List.mem_cons, List.not_mem_nil, or_false] at hb
    rcases hb with rfl | rfl | rfl | rfl | rfl
    · exact ⟨_, hz, fun v q => nomatch q⟩
    · exact ⟨_, hTI, fun v q => nomatch q⟩
    · exact ⟨_, hTO, fun v q => nomatch q⟩
    · exact h1.obj
    · exact h2.obj
  keep := fun i h h' st k => by
    obtain ⟨hz, hTI, ⟨c, d, hTO⟩, h1, h2⟩ := st
    exact ⟨k _ (by simp) _ hz, k _ (by simp) _ hTI, ⟨c, d, k _ (by simp) _ hTO⟩, h1.at fun o e => k _ (by simp) o e, h2.at fun o e => k _ (by simp) o e⟩
  item := by
    intro X hP hw hK hc i pins s σ H E I hf st hg
    subst hP hw hK
    obtain ⟨hz, hTI, ⟨c, d, hTO⟩, h1, h2⟩ := st
    obtain ⟨xs, ys, x, y, q1, q2, hx, hy⟩ := hg
    obtain ⟨ix, rx, px⟩ := I.sis q1
    obtain ⟨iy, ry, py⟩ := I.sis q2
    obtain ⟨u, hu, ru⟩ := rx.get hx
    obtain ⟨v, hv, rv⟩ := ry.get hy
    have hT : s.TypeIs (.ref z) "zip" := ⟨_, hz, rfl⟩
    unfold pyNext
    refine wpAny_bind (wpAny_attempt (wpAny_callSpecial?_slot (name := Str.ofString "__next__") hT F.slot_zip_next
      (wpAny_call_entry F.slot_zip_next hT F.entry_zip_next
        (zipS_item D hz hTI hTO h1 h2 px py (x := u) (y := v) (by simpa using hu) (by simpa using hv) fun h' a1 a2 a3 a4 a5 a6 a7 => wpAny_pure ?_) (F.args_zip_next_1 _))))
    refine ⟨_, rfl, wpAny_letOwnedTupleGo_zip (s := { s with heap := h' }) a1 fun h'' b1 b2 => ?_⟩
    have zlt : z < s.heap.objs.size := Heap.lt_size hz
    have k2 : ∀ c o, c ∉ [z, TI, TO, i1, i2] → s.heap.get? c = some o → h''.get? c = some o := fun c o hc e => by
      simp only [List.mem_cons, List.not_mem_nil, or_false, not_or] at hc
      exact b2.extBut _ _ hc.1 (a7 c o hc.1 hc.2.2.1 hc.2.2.2.1 hc.2.2.2.2 e)
    have hT2 : IsPair h'' s.heap.objs.size u v := b2.extBut _ _ (Nat.ne_of_gt zlt) a5
    refine ⟨.ref s.heap.objs.size, upd H s.heap.objs.size (.tup [x, y]), I.turnedNew (t' := s.toks) (o := .tup [x, y]) k2 hf (Nat.le_refl _) ⟨by show 2 ≤ sizeLine; decide, [u, v], .cons ru (.cons rv .nil), ⟨_, hT2, rfl, _, rfl⟩⟩, rfl,
      ⟨_, I.hok.fresh (Nat.le_refl _), rfl, fun xs' ys' e1 e2 => ?_⟩, ⟨b1, ?_, ⟨_, _, b2.extBut _ _ D.TOz a2⟩, a3.at fun o e => b2.extBut _ _ D.i1z e, a4.at fun o e => b2.extBut _ _ D.i2z e⟩, fun b hb => ?_⟩
    · rw [I.sq_inj e1 q1, I.sq_inj e2 q2]
      exact ⟨x, y, hx, hy, rfl⟩
    · exact b2.extBut _ _ D.TIz (a7 _ _ D.TIz D.TITO D.TIi1 D.TIi2 hTI)
    · have blt : b < s.heap.objs.size := by
        simp only [List.mem_cons, List.not_mem_nil, or_false] at hb
        rcases hb with rfl | rfl | rfl | rfl | rfl
        · exact zlt
        · exact Heap.lt_size hTI
        · exact Heap.lt_size hTO
        · obtain ⟨o, e, _⟩ := h1.obj; exact Heap.lt_size e
        · obtain ⟨o, e, _⟩ := h2.obj; exact Heap.lt_size e
      rw [upd_ne (Nat.ne_of_lt blt)]
      exact (hf b hb).1
  done := by
    intro X hP hw hK hc i pins s σ H E I hf st hg
    subst hP hw hK
    obtain ⟨hz, hTI, ⟨c, d, hTO⟩, h1, h2⟩ := st
    obtain ⟨xs, ys, q1, q2, hl⟩ := hg
    obtain ⟨ix, rx, px⟩ := I.sis q1
    obtain ⟨iy, ry, py⟩ := I.sis q2
    have l1 := rx.length
    have l2 := ry.length
    have hend : ix.toArray[i]? = none ∨ iy.toArray[i]? = none := by
      rcases hl with h | h
      · exact .inl (by simp; omega)
      · exact .inr (by simp; omega)
    have hT : s.TypeIs (.ref z) "zip" := ⟨_, hz, rfl⟩
    unfold pyNext
    refine wpAny_bind (wpAny_attempt (wpAny_callSpecial?_slot (name := Str.ofString "__next__") hT F.slot_zip_next
      (wpAny_call_entry F.slot_zip_next hT F.entry_zip_next (zipS_end (I.ok.hd hc) D hz hTI hTO h1 h2 px py hend fun h' e hk he => ?_) (F.args_zip_next_1 _))))
    obtain ⟨o, ho, hc'⟩ := he
    refine wpAny_bind (wpAny_isInstance (T := "StopIteration") (b := true) ⟨o, ho, hc'⟩ isSubtype_stop ?_)
    refine wpAny_pure ⟨rfl, I.turnedL (t' := s.toks) (its := [z, TI, TO, i1, i2]) (fun b o hb e => ?_) hf⟩
    simp only [List.mem_cons, List.not_mem_nil, or_false, not_or] at hb
    exact hk b o hb.1 hb.2.2.1 hb.2.2.2.1 hb.2.2.2.2 e
  self := fun _ _ _ _ _ st h => wpAny_pyIter_zip st.1 h
end L2
namespace L2
open PySem PySem.Spec PyProof.Rows
def itObj (k : SK) (l : Addr) : Obj := match k with
  | .list => { cls := .type "list_iterator", data := .fields #[.ref l, .int 0 0] }
  | .tuple => { cls := .type "tuple_iterator", data := .fields #[.ref l, .int 0 0] }
theorem itObj_it {k : SK} {l it : Addr} {h : Heap} (e : h.get? it = some (itObj k l)) : SIt k h it l 0 := by
  cases k with
  | list => exact ⟨_, e, rfl, rfl⟩
  | tuple => exact ⟨_, e, rfl, rfl⟩
abbrev zS1 (h : Heap) (k1 : SK) (l1 : Addr) : Heap := h.push (itObj k1 l1)
abbrev zS2 (h : Heap) (k1 k2 : SK) (l1 l2 : Addr) : Heap := (zS1 h k1 l1).push (itObj k2 l2)
abbrev zS3 (h : Heap) (k1 k2 : SK) (l1 l2 : Addr) : Heap := (zS2 h k1 k2 l1 l2).push { cls := .type "tuple", data := .seq #[.ref h.objs.size, .ref (zS1 h k1 l1).objs.size] }
abbrev zS4 (h : Heap) (k1 k2 : SK) (l1 l2 : Addr) : Heap := (zS3 h k1 k2 l1 l2).push { cls := .type "tuple", data := .seq #[.none, .none] }
abbrev zS5 (h : Heap) (k1 k2 : SK) (l1 l2 : Addr) : Heap := (zS4 h k1 k2 l1 l2).push { cls := .type "zip", data := .fields #[.none, .bool false, .bool false, .ref (zS2 h k1 k2 l1 l2).objs.size, .ref (zS3 h k1 k2 l1 l2).objs.size] }
set_option maxHeartbeats 4000000 in
theorem meets_zipS_new (k1 k2 : SK) (l1 l2 : Addr) (xs ys : Array Value) :
    Meets (Builtin.«zip.__new__» ⟨[.type "zip", .ref l1, .ref l2], []⟩) (fun _ R s => SIs k1 s.heap l1 xs ∧ SIs k2 s.heap l2 ys ∧
      R (.ok (.ret (.ref (zS4 s.heap k1 k2 l1 l2).objs.size))) { s with heap := zS5 s.heap k1 k2 l1 l2 }) := by
  cases k1 with
  | list =>
    cases k2 with
    | list =>
      exact .of_wp fun prog w A R s h => by
        obtain ⟨hp, g, d, tk, os⟩ := s; obtain ⟨hl1, hl2, h⟩ := h
        have hsub := sub_zip
        have hL1 : Heap.IsList (Shared.heap ⟨hp, g, d, tk, os⟩) l1 xs := hl1
        have hL2 : Heap.IsList (Shared.heap ⟨hp.push { cls := .type "list_iterator", data := .fields #[.ref l1, .int 0 0] }, g, d, tk, os⟩) l2 ys := Heap.IsList.push hl2 _
        wp_walk using wpAny_pyIter_list hL1, wpAny_pyIter_list hL2
        exact ⟨_, rfl, h⟩
    | tuple =>
      exact .of_wp fun prog w A R s h => by
        obtain ⟨hp, g, d, tk, os⟩ := s; obtain ⟨hl1, hl2, h⟩ := h
        have hsub := sub_zip
        have hL1 : Heap.IsList (Shared.heap ⟨hp, g, d, tk, os⟩) l1 xs := hl1
        have hL2 : Heap.IsTuple (Shared.heap ⟨hp.push { cls := .type "list_iterator", data := .fields #[.ref l1, .int 0 0] }, g, d, tk, os⟩) l2 ys := SIs.at (k := .tuple) hl2 fun o e => Heap.get?_push_of_some _ e
        wp_walk using wpAny_pyIter_list hL1, wpAny_pyIter_tuple hL2
        exact ⟨_, rfl, h⟩
  | tuple =>
    cases k2 with
    | list =>
      exact .of_wp fun prog w A R s h => by
        obtain ⟨hp, g, d, tk, os⟩ := s; obtain ⟨hl1, hl2, h⟩ := h
        have hsub := sub_zip
        have hL1 : Heap.IsTuple (Shared.heap ⟨hp, g, d, tk, os⟩) l1 xs := hl1
        have hL2 : Heap.IsList (Shared.heap ⟨hp.push { cls := .type "tuple_iterator", data := .fields #[.ref l1, .int 0 0] }, g, d, tk, os⟩) l2 ys := SIs.at (k := .list) hl2 fun o e => Heap.get?_push_of_some _ e
        wp_walk using wpAny_pyIter_tuple hL1, wpAny_pyIter_list hL2
        exact ⟨_, rfl, h⟩
    | tuple =>
      exact .of_wp fun prog w A R s h => by
        obtain ⟨hp, g, d, tk, os⟩ := s; obtain ⟨hl1, hl2, h⟩ := h
        have hsub := sub_zip
        have hL1 : Heap.IsTuple (Shared.heap ⟨hp, g, d, tk, os⟩) l1 xs := hl1
        have hL2 : Heap.IsTuple (Shared.heap ⟨hp.push { cls := .type "tuple_iterator", data := .fields #[.ref l1, .int 0 0] }, g, d, tk, os⟩) l2 ys := SIs.at (k := .tuple) hl2 fun o e => Heap.get?_push_of_some _ e
        wp_walk using wpAny_pyIter_tuple hL1, wpAny_pyIter_tuple hL2
        exact ⟨_, rfl, h⟩
section
variable {prog : Program} {w : World} {A : Around} {E : Value → Shared → Prop} {s : Shared}
theorem call_zipS {k1 k2 : SK} {l1 l2 : Addr} {xs ys : Array Value} {Q : Value → Shared → Prop} (hl1 : SIs k1 s.heap l1 xs) (hl2 : SIs k2 s.heap l2 ys)
    (h : ∀ h', IsZip h' (s.heap.objs.size + 4) (s.heap.objs.size + 2) (s.heap.objs.size + 3) .none → IsPair h' (s.heap.objs.size + 2) (.ref s.heap.objs.size) (.ref (s.heap.objs.size + 1)) →
      IsPair h' (s.heap.objs.size + 3) .none .none → SIt k1 h' s.heap.objs.size l1 0 → SIt k2 h' (s.heap.objs.size + 1) l2 0 →
      (∀ c o, s.heap.get? c = some o → h'.get? c = some o) → Q (.ref (s.heap.objs.size + 4)) { s with heap := h' }) :
    wpAny (model prog w) A (call (.type "zip") [.ref l1, .ref l2]) Q E s := by
  refine callType_new F.called_zip (by decide) (F.typeCall_zip_2 _ _) (F.newCall_zip_2 _ _) (fun obj => F.args_object_init_3 obj _ _) F.entry_zip_new
    (meets_zipS_new k1 k2 l1 l2 xs ys) ⟨hl1, hl2, ?_⟩
  have z1 : (zS1 s.heap k1 l1).objs.size = s.heap.objs.size + 1 := Heap.size_push ..
  have z2 : (zS2 s.heap k1 k2 l1 l2).objs.size = s.heap.objs.size + 2 := by rw [Heap.size_push, z1]
  have z3 : (zS3 s.heap k1 k2 l1 l2).objs.size = s.heap.objs.size + 3 := by rw [Heap.size_push, z2]
  have z4 : (zS4 s.heap k1 k2 l1 l2).objs.size = s.heap.objs.size + 4 := by rw [Heap.size_push, z3]
  have r1 : (itObj k1 l1).isFreed = false := by cases k1 <;> rfl
  have r2 : (itObj k2 l2).isFreed = false := by cases k2 <;> rfl
  have g5 : (zS5 s.heap k1 k2 l1 l2).get? (zS4 s.heap k1 k2 l1 l2).objs.size = some _ := Heap.get?_push_size _ rfl
  have g4 : (zS5 s.heap k1 k2 l1 l2).get? (zS3 s.heap k1 k2 l1 l2).objs.size = some _ := Heap.get?_push_of_some _ (Heap.get?_push_size _ rfl)
  have g3 : (zS5 s.heap k1 k2 l1 l2).get? (zS2 s.heap k1 k2 l1 l2).objs.size = some _ := Heap.get?_push_of_some _ (Heap.get?_push_of_some _ (Heap.get?_push_size _ rfl))
  have g2 : (zS5 s.heap k1 k2 l1 l2).get? (zS1 s.heap k1 l1).objs.size = some _ := Heap.get?_push_of_some _ (Heap.get?_push_of_some _ (Heap.get?_push_of_some _ (Heap.get?_push_size _ r2)))
  have g1 : (zS5 s.heap k1 k2 l1 l2).get? s.heap.objs.size = some _ := Heap.get?_push_of_some _ (Heap.get?_push_of_some _ (Heap.get?_push_of_some _ (Heap.get?_push_of_some _ (Heap.get?_push_size _ r1))))
  show _ ∧ _
  rw [z2, z3, z4] at g5
  rw [z1, z2] at g3
  rw [z3] at g4
  rw [z1] at g2
  rw [z4]
  exact ⟨⟨_, g5, rfl⟩, h _ g5 g3 g4 (itObj_it g1) (itObj_it g2) fun c o x =>
    Heap.get?_push_of_some _ (Heap.get?_push_of_some _ (Heap.get?_push_of_some _ (Heap.get?_push_of_some _ (Heap.get?_push_of_some _ x))))⟩
end
section
variable {X : Cx} {elts : List Expr} {kk : Nat} {tpos : Pos}
def iZip (K : PySem.W.Frag) (k1 k2 : SK) (ta : TA) : TI := fun σ H R => ta σ H fun vs H1 => ∃ a b, vs = [.ref a, .ref b] ∧ (∃ xs, Sq k1 K H1 a xs) ∧ (∃ ys, Sq k2 K H1 b ys) ∧ R (Itz K k1 k2 a b) H1
theorem pi_zip (k1 k2 : SK) {a b : Expr} {ta : TA} {p pos : Pos} (hg : Gl X "zip") (hm : X.mg "zip" = none) (ha : PA X [a, b] ta) (hs : starEach [a, b] X.env = [(false, eval a X.env), (false, eval b X.env)] := by rfl) (hs2 : starEach [b] X.env = [(false, eval b X.env)] := by rfl) :
    PI X (.Tuple elts kk tpos) (.Call (.Name "zip" p) [a, b] [] pos) (iZip X.K k1 k2 ta) := by
  intro pins s σ H R I h
  refine Call_ (ld_blt I hg hm boot_zip (PyProof.Rows.callWith_type1 (thn (ha pos pins s σ H _ I h) fun us s1 ⟨vs, H1, I1, r1, q1⟩ => ?_) (by rw [hs, hs2]) (by rw [hs2]; rfl)))
  obtain ⟨a', b', e, ⟨xs, qx⟩, ⟨ys, qy⟩, q⟩ := q1
  subst e
  obtain ⟨u, v, rfl, ru, rv⟩ := vals2 r1
  cases ru
  cases rv
  obtain ⟨ix, rx, px⟩ := I1.sis qx
  obtain ⟨iy, ry, py⟩ := I1.sis qy
  refine call_zipS px py fun h' b1 b2 b3 b4 b5 b6 => wpAny_pyIter_zip (s := { s1 with heap := h' }) b1 ?_
  have nn : ∀ b, s1.heap.objs.size ≤ b → FpOk X pins H1 b := fun b hb => I1.fpOk hb (I1.hok.fresh hb)
  refine ⟨_, [s1.heap.objs.size + 4, s1.heap.objs.size + 2, s1.heap.objs.size + 3, s1.heap.objs.size, s1.heap.objs.size + 1], _, _, H1, rfl, I1.kept (t' := s1.toks) b6, turn_zip (k1 := k1) (k2 := k2) (zipApart_new px.lt py.lt), ⟨b1, b2, ⟨_, _, b3⟩, b4, b5⟩, fun b hb => ?_, q⟩
  simp only [List.mem_cons, List.not_mem_nil, or_false] at hb
  rcases hb with rfl | rfl | rfl | rfl | rfl
  · exact nn _ (Nat.le_add_right _ _)
  · exact nn _ (Nat.le_add_right _ _)
  · exact nn _ (Nat.le_add_right _ _)
  · exact nn _ (Nat.le_refl _)
  · exact nn _ (Nat.le_add_right _ _)
end
end L2

namespace L2
open PySem PySem.Spec PyProof.Rows PySem.Builtin PySem.Builtin.Str
section
variable {X : Cx}
def rSlS : V → Option Int → Option Int → Hp → VK → Prop := fun x lo hi H Q => ∃ z, x = .str z ∧ z.length ≤ sizeLine ∧ Q (.str (Txt.slice z lo hi)) H
def rMulS : R2 := fun x y H Q => ∃ c n, x = .str ⟨#[c]⟩ ∧ y = .int n ∧ 1 ≤ n ∧ n ≤ 1000 ∧ ∀ z : Str, z.cps.toList = List.replicate n.toNat c → Q (.str z) H
def rJoin (K : PySem.W.Frag) : V → List V → Hp → VK → Prop := fun x vs H Q => ∃ sep p ys, x = .str sep ∧ vs = [.ref p] ∧ SqL K H p (ys.map V.str) ∧ (ys.map (·.length)).sum + ys.length * sep.length ≤ 16777216 ∧ Q (.str (Str.join sep ys)) H
def rSplit : V → List V → Hp → VK → Prop := fun x vs H Q => ∃ z y, x = .str z ∧ vs = [.str y] ∧ y.length ≠ 0 ∧ z.length + 2 ≤ sizeLine ∧ ∀ p, H p = none → Q (.ref p) (upd H p (.lst ((Txt.split z y).map V.str)))
def rIsT (K : PySem.W.Frag) : List V → Hp → VK → Prop := fun xs H Q => ∃ x T t b, xs = [x, .ty T] ∧ TyOf K H x t ∧ PySem.W.kitOne K t (.type T) = some b ∧ Q (.bl b) H
theorem call_isT : CallR X (.builtin "isinstance") (rIsT X.K) := by
  intro pins s σ H xs us Q I r h
  obtain ⟨x, T, t, b, rfl, ty, e, q⟩ := h
  obtain ⟨u, v, rfl, ru, rv⟩ := vals2 r
  cases rv
  exact isinst_ok I ru ty e fun tk => ⟨.bl b, H, I.tok _, rfl, q⟩
example (K : PySem.W.Frag) : PySem.W.kitOne K (.type "int") (.type "int") = some true := rfl
example (K : PySem.W.Frag) : PySem.W.kitOne K (.type "str") (.type "int") = some false := rfl
example (K : PySem.W.Frag) : PySem.W.kitOne K (.type "tuple") (.type "int") = some false := rfl
example (K : PySem.W.Frag) : PySem.W.kitOne K (.type "bool") (.type "int") = some true := rfl
end
end L2
namespace L2
open PySem PySem.Spec PyProof.Rows
end L2

namespace L2
open PySem PySem.Spec PyProof.Rows
def ent (w : World) (x : Str × Tok × Value) : DictEntry := ⟨hashStr w x.1, .str x.1 x.2.1, x.2.2⟩
structure KD (P : Program) (w : World) (K : PySem.W.Frag) (a : Addr) (kvs : List (Key × V)) : Prop where
  ex : ∃ (o : Obj) (es : Array DictEntry) (ep : Nat) (vs : List (Key × Value)), K.lookup a = some o ∧ o.ExactDict ∧ o.data = .dict es ep ∧ KeysOf (mixKind P w) es ∧ Pairs (mixKind P w) es.toList vs ∧ (vs.map (·.1)).Nodup ∧ KV kvs vs
  ns : (a == sysModules) = false
def DK (P : Program) (w : World) (K : PySem.W.Frag) (H : Hp) (a : Addr) (kvs : List (Key × V)) : Prop := Rd H a (.dK kvs) ∨ KD P w K a kvs
section
variable {X : Cx}
def rIxD (X : Cx) : R2 := fun x y H Q => ∃ a kvs k v, x = .ref a ∧ y = kV k ∧ DK X.prog X.w X.K H a kvs ∧ valV kvs k = some v ∧ Q v H
def rInD (X : Cx) (neg : Bool) : R2 := fun x y H Q => ∃ a kvs k, y = .ref a ∧ x = kV k ∧ DK X.prog X.w X.K H a kvs ∧ Q (.bl (if neg then !(valV kvs k).isSome else (valV kvs k).isSome)) H
end
end L2

namespace L2
open PySem PySem.Spec PyProof.Rows
structure Pr (p : Prop) : Prop where
  h : p
section
variable {X : Cx}
theorem qpe_var {i : Nat} {x : Str} {pos : Pos} (hN : X.N[i]? = some x) (hv : Vis X.env.scope x) (hd : (x == ("__debug__" : Str)) = false := by decide) (hcd : (x == ("__classdict__" : Str)) = false := by decide) : Pr (PE X (.Name x pos) (tVar i)) := ⟨pe_var hN hv hd hcd⟩
end
section
variable {X : Cx}
theorem qpe_int {i j pos} : Pr (PE X (.Constant (.int i) j pos) (tC (.int i))) := ⟨pe_int⟩
end
section
variable {X : Cx}
theorem qpe_bl {b j pos} : Pr (PE X (.Constant (.bool b) j pos) (tC (.bl b))) := ⟨pe_bl⟩
end
section
variable {X : Cx}
theorem qpe_non {j pos} : Pr (PE X (.Constant .none j pos) (tC .non)) := ⟨pe_non⟩
end
section
variable {X : Cx}
theorem qpe_str {x j pos} : Pr (PE X (.Constant (.str x) j pos) (tC (.str x))) := ⟨pe_str⟩
end
section
variable {X : Cx}
end
section
variable {X : Cx}
theorem qpe_bltn {x : Str} {v : V} {u : Value} {pos : Pos} (hg : Gl X x) (hm : X.mg x = none) (hv : bootBuiltins x = some u) (r : RelV v u) (hn : x ≠ "__name__" := by decide) (hd : (x == ("__debug__" : Str)) = false := by decide) : Pr (PE X (.Name x pos) (tC v)) := ⟨pe_bltn hg hm hv r hn hd⟩
end
section
variable {X : Cx} {a b c : Expr} {ta tb tc : TE} {pos : Pos}
theorem qpe_op {op : Operator} {r : R2} (ho : OpR X (binaryOp op) r) (ha : Pr (PE X a ta)) (hb : Pr (PE X b tb)) : Pr (PE X (.BinOp a op b pos) (tOp r ta tb)) := ⟨pe_op ho ha.h hb.h⟩
end
section
variable {X : Cx} {a b c : Expr} {ta tb tc : TE} {pos : Pos}
theorem qpe_un {op : UnaryOp} {r : V → Hp → VK → Prop} (ho : UnR X (unaryOp op) r) (ha : Pr (PE X a ta)) : Pr (PE X (.UnaryOp op a pos) (tUn r ta)) := ⟨pe_un ho ha.h⟩
end
section
variable {X : Cx} {a b c : Expr} {ta tb tc : TE} {pos : Pos}
theorem qpe_cmpR {op : CmpOp} {r : R2} (ho : OpR X (compareOp op) r) (ha : Pr (PE X a ta)) (hb : Pr (PE X b tb)) (hm : behindInMarks op b = false) : Pr (PE X (.Compare a [op] [b] pos) (tOp r ta tb)) := ⟨pe_cmpR ho ha.h hb.h hm⟩
end
section
variable {X : Cx} {a b c : Expr} {ta tb tc : TE} {pos : Pos}
theorem qpe_chain {op op' : CmpOp} {r r' : R2} (ho : OpR X (compareOp op) r) (ho' : OpR X (compareOp op') r') (ha : Pr (PE X a ta)) (hb : Pr (PE X b tb)) (hc : Pr (PE X c tc)) (hm : lastMarks [op, op'] [b, c] = false := by with_unfolding_all rfl) : Pr (PE X (.Compare a [op, op'] [b, c] pos) (tChain r r' ta tb tc)) := ⟨pe_chain ho ho' ha.h hb.h hc.h hm⟩
end
section
variable {X : Cx}
variable {a b : Expr} {ta tb : TE} {pos : Pos}
variable {tA tB' : TT} {rest : List Expr}
theorem qpe_and (ha : Pr (PE X a ta)) (hb : Pr (PE X (.BoolOp .And (b :: rest) pos) tb)) : Pr (PE X (.BoolOp .And (a :: b :: rest) pos) (tAndV ta tb)) := ⟨pe_and ha.h hb.h⟩
end
section
variable {X : Cx}
variable {a b : Expr} {ta tb : TE} {pos : Pos}
variable {tA tB' : TT} {rest : List Expr}
end
section
variable {X : Cx}
variable {a b : Expr} {ta tb : TE} {pos : Pos}
variable {tA tB' : TT} {rest : List Expr}
theorem qpe_one {op} {t : TE} (h : Pr (PE X a t)) : Pr (PE X (.BoolOp op [a] pos) t) := ⟨pe_one h.h⟩
end
section
variable {X : Cx}
variable {a b : Expr} {ta tb : TE} {pos : Pos}
variable {tA tB' : TT} {rest : List Expr}
theorem qpe_not (ha : Pr (PE X a ta)) : Pr (PE X (.UnaryOp .Not a pos) (tNotV ta)) := ⟨pe_not ha.h⟩
end
section
variable {X : Cx}
variable {a b : Expr} {ta tb : TE} {pos : Pos}
variable {tA tB' : TT} {rest : List Expr}
end
section
variable {X : Cx} {e : Expr} {es : List Expr} {te : TE} {t : TA} {pos : Pos}
theorem qpe_tup {x1} (h : Pr (PA X es t)) : Pr (PE X (.Tuple es x1 pos) (tTup t)) := ⟨pe_tup h.h⟩
end
section
variable {X : Cx} {e : Expr} {es : List Expr} {te : TE} {t : TA} {pos : Pos}
theorem qpe_lst (h : Pr (PA X es t)) : Pr (PE X (.List es pos) (tLst t)) := ⟨pe_lst h.h⟩
end
section
variable {X : Cx} {e : Expr} {te : TE} {lo hi : Option Expr} {tl th : TO} {pos p2 : Pos}
theorem qpe_slice {r : V → Option Int → Option Int → Hp → VK → Prop} (hr : SlR X r) (he : Pr (PE X e te)) (hl : Pr (PO X lo tl)) (hu : Pr (PO X hi th)) : Pr (PE X (.Subscript e (.Slice lo hi none p2) pos) (tSl r te tl th)) := ⟨pe_slice hr he.h hl.h hu.h⟩
end
section
variable {X : Cx} {a b : Expr} {ta tb : TE} {pos : Pos}
theorem qpe_ix {r : R2} (hr : IxR X r) (ha : Pr (PE X a ta)) (hb : Pr (PE X b tb)) (hs : PlainIx b) : Pr (PE X (.Subscript a b pos) (tOp r ta tb)) := ⟨pe_ix hr ha.h hb.h hs⟩
end
section
variable {X : Cx}
end
section
variable {X : Cx} {o e value : Expr} {f : Str} {pos pos' tpos : Pos} {ta tv : TE}
theorem qpe_fld (he : Pr (PE X e ta)) (hb : attributeBase e f X.env (eval e X.env) = eval e X.env) : Pr (PE X (.Attribute e f pos) (tFld X.K ta f)) := ⟨pe_fld he.h hb⟩
end
section
variable {X : Cx} {CX : CXT} {k : Nat} {ps : List Str} {sp : Sp} {E : XK} {x : Str} {p pos : Pos} {e : Expr} {es : List Expr} {t : TA}
theorem qpe_callD (D : DefOk X.prog X.w X.K X.mg X.base CX k x ps sp) (hr : Room k X.A) (hg : Gl X x) (hx : Passes CX X E) (ha : Pr (PA X (e :: es) t)) (hdb : (x == ("__debug__" : Str)) = false := by decide) (he : starEach (e :: es) X.env = (false, eval e X.env) :: starEach es X.env := by rfl) (hpl : (backTo pos (starEach es X.env)).any (·.1) = false := by rfl) : Pr (PE X (.Call (.Name x p) (e :: es) [] pos) (tCall sp [] E t)) := ⟨pe_callD D hr hg hx ha.h hdb he hpl⟩
end
section
variable {X : Cx} {CX : CXT} {k : Nat} {ps : List Str} {sp : Sp} {E : XK} {x : Str} {p pos : Pos} {e : Expr} {es : List Expr} {t : TA}
end
section
variable {X : Cx} {x : Str} {p pos : Pos} {e : Expr} {es : List Expr} {t : TA} {id T : String} {r : List V → Hp → VK → Prop}
theorem qpe_callB (hc : CallR X (.builtin id) r) (hg : Gl X x) (hm : X.mg x = none) (hv : bootBuiltins x = some (.builtin id)) (ha : Pr (PA X (e :: es) t)) (hn : x ≠ "__name__" := by decide) (hdb : (x == ("__debug__" : Str)) = false := by decide) (he : starEach (e :: es) X.env = (false, eval e X.env) :: starEach es X.env := by rfl) (hpl : (backTo pos (starEach es X.env)).any (·.1) = false := by rfl) : Pr (PE X (.Call (.Name x p) (e :: es) [] pos) (tCB r t)) := ⟨pe_callB hc hg hm hv ha.h hn hdb he hpl⟩
end
section
variable {X : Cx} {x : Str} {p pos : Pos} {e : Expr} {es : List Expr} {t : TA} {id T : String} {r : List V → Hp → VK → Prop}
theorem qpe_callTy (hc : CallR X (.type T) r) (hg : Gl X x) (hm : X.mg x = none) (hv : bootBuiltins x = some (.type T)) (ha : Pr (PA X (e :: es) t)) (hn : x ≠ "__name__" := by decide) (hdb : (x == ("__debug__" : Str)) = false := by decide) (he : starEach (e :: es) X.env = (false, eval e X.env) :: starEach es X.env := by rfl) (hpl : (backTo pos (starEach es X.env)).any (·.1) = false := by rfl) : Pr (PE X (.Call (.Name x p) (e :: es) [] pos) (tCB r t)) := ⟨pe_callTy hc hg hm hv ha.h hn hdb he hpl⟩
end
section
variable {X : Cx} {a b : Expr} {ta tb : TE} {pos : Pos}
variable {o e : Expr} {es : List Expr} {to : TE} {t : TA} {name : Str} {apos cpos : Pos} {T id : String} {r : V → List V → Hp → VK → Prop}
theorem qpe_bm (pa : PlainAttrs T) (slot : Slot T name id) (hty : typeOf (.builtin id) = pure (.type "method_descriptor")) (hm : MtR X id r) (ho : Pr (PE X o to)) (ha : Pr (PA X (e :: es) t)) (hbase : attributeBase o name X.env (eval o X.env) = eval o X.env := by rfl) (hfew : ((backTo cpos (starEach (e :: es) X.env)).all (fun x => !x.1) && (backToKw cpos (keywordEach [] X.env)).all (fun x => x.1.isSome)
      && decide ((e :: es).length + ([] : List Keyword).length + (if ([] : List Keyword).isEmpty then 0 else 1) < 30)) = true := by rfl) (hline : (apos.endLine == cpos.line) = true := by rfl) (hs : starEach (e :: es) X.env = (false, eval e X.env) :: starEach es X.env := by rfl) (hplain : (backTo cpos (starEach es X.env)).any (·.1) = false := by rfl) : Pr (PE X (.Call (.Attribute o name apos) (e :: es) [] cpos) (tBM X.K T r to t)) := ⟨pe_bm pa slot hty hm ho.h ha.h hbase hfew hline hs hplain⟩
end
section
variable {X : Cx} {a b c : Expr} {ta tb tc : TE} {pos : Pos}
theorem qpt_cmpR {op : CmpOp} {r : R2} (ho : OpR X (compareOp op) r) (ha : Pr (PE X a ta)) (hb : Pr (PE X b tb)) (hm : behindInMarks op b = false) : Pr (PT X (.Compare a [op] [b] pos) (tTest (tOp r ta tb))) := ⟨pt_cmpR ho ha.h hb.h hm⟩
end
section
variable {X : Cx} {a b c : Expr} {ta tb tc : TE} {pos : Pos}
end
section
variable {X : Cx}
variable {a b : Expr} {ta tb : TE} {pos : Pos}
variable {tA tB' : TT} {rest : List Expr}
theorem qpt_not (ha : Pr (PT X a tA)) : Pr (PT X (.UnaryOp .Not a pos) (tNot tA)) := ⟨pt_not ha.h⟩
end
section
variable {X : Cx}
variable {a b : Expr} {ta tb : TE} {pos : Pos}
theorem qpt_val {e : Expr} {t : TE} (h : Pr (PE X e t)) (he : ∀ whole, isTrue e X.env whole = (do let v ← whole; standAt e.pos; holding [v] (truthy v)) := by intro _; rfl) : Pr (PT X e (tB t)) := ⟨pt_val h.h he⟩
end
section
theorem qPW_pt {X : Cx} {e : Expr} {t : TT} (h : Pr (PW X e t)) : Pr (PT X e t) := ⟨PW.pt h.h⟩
end
section
variable {X : Cx}
variable {a b : Expr} {ta tb : TE} {pos : Pos}
variable {tA tB' : TT} {rest : List Expr}
theorem qpw_and (ha : Pr (PT X a tA)) (hb : Pr (PW X (.BoolOp .And (b :: rest) pos) tB')) : Pr (PW X (.BoolOp .And (a :: b :: rest) pos) (tAnd tA tB')) := ⟨pw_and ha.h hb.h⟩
end
section
variable {X : Cx}
variable {a b : Expr} {ta tb : TE} {pos : Pos}
variable {tA tB' : TT} {rest : List Expr}
theorem qpw_and1 (ha : Pr (PT X a tA)) : Pr (PW X (.BoolOp .And [a] pos) tA) := ⟨pw_and1 ha.h⟩
end
section
variable {X : Cx}
variable {a b : Expr} {ta tb : TE} {pos : Pos}
variable {tA tB' : TT} {rest : List Expr}
theorem qpw_or (ha : Pr (PT X a tA)) (hb : Pr (PW X (.BoolOp .Or (b :: rest) pos) tB')) : Pr (PW X (.BoolOp .Or (a :: b :: rest) pos) (tOr tA tB')) := ⟨pw_or ha.h hb.h⟩
end
section
variable {X : Cx}
variable {a b : Expr} {ta tb : TE} {pos : Pos}
variable {tA tB' : TT} {rest : List Expr}
theorem qpw_or1 (ha : Pr (PT X a tA)) : Pr (PW X (.BoolOp .Or [a] pos) tA) := ⟨pw_or1 ha.h⟩
end
section
variable {X : Cx} {e : Expr} {es : List Expr} {te : TE} {t : TA} {pos : Pos}
theorem qpa_nil  : Pr (PA X [] tNil) := ⟨pa_nil⟩
end
section
variable {X : Cx} {e : Expr} {es : List Expr} {te : TE} {t : TA} {pos : Pos}
theorem qpa_cons (ha : Pr (PE X e te)) (hr : Pr (PA X es t)) (hs : starEach (e :: es) X.env = (false, eval e X.env) :: starEach es X.env := by rfl) : Pr (PA X (e :: es) (tCons te t)) := ⟨pa_cons ha.h hr.h hs⟩
end
section
variable {X : Cx} {e : Expr} {te : TE} {lo hi : Option Expr} {tl th : TO} {pos p2 : Pos}
theorem qpo_none  : Pr (PO X none tNoPart) := ⟨po_none⟩
end
section
variable {X : Cx} {e : Expr} {te : TE} {lo hi : Option Expr} {tl th : TO} {pos p2 : Pos}
theorem qpo_some (h : Pr (PE X e te)) : Pr (PO X (some e) (tPart te)) := ⟨po_some h.h⟩
end
section
variable {X : Cx} {tg : Expr}
theorem qpi_list {l : Expr} {tl : TE} (hl : Pr (PE X l tl)) : Pr (PI X tg l (iList X.K tl)) := ⟨pi_list hl.h⟩
end
section
variable {X : Cx} {tg : Expr}
theorem qpi_tup {l : Expr} {tl : TE} (hl : Pr (PE X l tl)) : Pr (PI X tg l (iTup X.K tl)) := ⟨pi_tup hl.h⟩
end
section
variable {X : Cx} {tg : Expr}
theorem qpi_range1 {a : Expr} {ta : TA} {p pos : Pos} (hg : Gl X "range") (hm : X.mg "range" = none) (ha : Pr (PA X [a] ta)) (hs : starEach [a] X.env = [(false, eval a X.env)] := by rfl) : Pr (PI X tg (.Call (.Name "range" p) [a] [] pos) (iRng1 ta)) := ⟨pi_range1 hg hm ha.h hs⟩
end
section
variable {X : Cx} {tg : Expr}
end
section
variable {X : Cx} {elts : List Expr} {kk : Nat} {tpos : Pos}
theorem qpi_zip (k1 k2 : SK) {a b : Expr} {ta : TA} {p pos : Pos} (hg : Gl X "zip") (hm : X.mg "zip" = none) (ha : Pr (PA X [a, b] ta)) (hs : starEach [a, b] X.env = [(false, eval a X.env), (false, eval b X.env)] := by rfl) (hs2 : starEach [b] X.env = [(false, eval b X.env)] := by rfl) : Pr (PI X (.Tuple elts kk tpos) (.Call (.Name "zip" p) [a, b] [] pos) (iZip X.K k1 k2 ta)) := ⟨pi_zip k1 k2 hg hm ha.h hs hs2⟩
end
section
variable {X : Cx} {pos : Pos}
theorem qpg_name {i : Nat} {x : Str} (hN : X.N.Nodup) (hi : X.N[i]? = some x) (hx : Loc X.env.scope x) (hf : X.fn x = true ∨ X.env.scope.names.lookup x = some .local := by first | exact .inl rfl | exact .inr rfl | assumption) : Pr (PG X (.Name x pos) (gName i)) := ⟨pg_name hN hi hx hf⟩
end
section
variable {X : Cx} {pos : Pos}
theorem qpgs_nil  : Pr (PGs X [] gNil) := ⟨pgs_nil⟩
end
section
variable {X : Cx} {pos : Pos}
theorem qpgs_cons {e : Expr} {es : List Expr} {t : TG} {u : TGs} (h1 : Pr (PG X e t)) (h2 : Pr (PGs X es u)) (hs : (assignEach (e :: es) X.env).map (·.2) = assign e X.env :: (assignEach es X.env).map (·.2) := by rfl) : Pr (PGs X (e :: es) (gCons t u)) := ⟨pgs_cons h1.h h2.h hs⟩
end
section
variable {X : Cx} {pos : Pos}
theorem qpg_tup {es : List Expr} {k : Nat} {t : TGs} {n : Nat} (hc : X.calm = true) (h : Pr (PGs X es t)) (hn : (assignEach es X.env).length = n := by rfl) (hst : (assignEach es X.env).findIdx? (·.1) = none := by rfl) : Pr (PG X (.Tuple es k pos) (gTup X.K n t)) := ⟨pg_tup hc h.h hn hst⟩
end
section
variable {X : Cx} {pos : Pos}
theorem qpg_sub {o i : Expr} {to ti : TE} {t : TSet} (ho : Pr (PE X o to)) (hi : Pr (PE X i ti)) (hs : PSet X t) (ha : ∀ v, assign (.Subscript o i pos) X.env v = (do
      let ov ← holding [v] (eval o X.env)
      let iv ← holding [v, ov] (eval i X.env)
      standAt pos
      holding [v, ov, iv] (setItem ov iv v)
      release [v, ov, iv] []) := by intro _; rfl) : Pr (PG X (.Subscript o i pos) (gSub to ti t)) := ⟨pg_sub ho.h hi.h hs ha⟩
end
section
variable {X : Cx} {st : Stmt} {rest : List Stmt} {t u : TS} {e : Expr} {te : TE} {pos : Pos}
theorem qps_ret (he : Pr (PE X e te)) : Pr (PS X (.Return (some e) pos) (tRet te)) := ⟨ps_ret he.h⟩
end
section
variable {X : Cx} {st : Stmt} {rest : List Stmt} {t u : TS} {e : Expr} {te : TE} {pos : Pos}
end
section
variable {X : Cx} {pos : Pos}
theorem qps_set {i : Nat} {x : Str} {e : Expr} {te : TE} {pos' : Pos} (hN : X.N.Nodup) (hi : X.N[i]? = some x) (hx : Loc X.env.scope x) (he : Pr (PE X e te)) (hs : swapsWith e (some (.Name x pos')) pos.line X.env = pure false := by rfl) (hf : X.fn x = true ∨ X.env.scope.names.lookup x = some .local := by first | exact .inl rfl | exact .inr rfl | assumption) : Pr (PS X (.Assign [.Name x pos'] e pos) (tAsg te (gName i))) := ⟨ps_set hN hi hx he.h hs hf⟩
end
section
variable {X : Cx} {pos : Pos}
theorem qps_asg {tg e : Expr} {te : TE} {g : TG} (he : Pr (PE X e te)) (hg : Pr (PG X tg g)) (hs : swapsWithSole [tg] e pos.line X.env = pure false := by rfl) (hw : swappedStores [tg] e X.env = pure none := by rfl) (h1 : (assignEach [tg] X.env).map (·.2) = [assign tg X.env] := by rfl) : Pr (PS X (.Assign [tg] e pos) (tAsg te g)) := ⟨ps_asg he.h hg.h hs hw h1⟩
end
section
variable {X : Cx} {pos : Pos}
end
section
variable {X : Cx} {st : Stmt} {rest : List Stmt} {t u : TS} {e : Expr} {te : TE} {pos : Pos}
theorem qps_if {c : Expr} {a b : List Stmt} {tc : TT} (hc : Pr (PT X c tc)) (ha : Pr (PSs X a t)) (hb : Pr (PSs X b u)) : Pr (PS X (.If c a b pos) (tIfS tc t u)) := ⟨ps_if hc.h ha.h hb.h⟩
end
section
theorem qps_loop {X : Cx} {tg iter : Expr} {body : List Stmt} {wi : TI} {g : TG} {tb : TS} {pos : Pos} (hp : PassesOwn (model X.prog X.w) X.A X.env X.xe) (hc : X.calm = true) (hi : Pr (PI X tg iter wi)) (hg : Pr (PG X tg g)) (hb : Pr (PSs X body tb)) (hs : ∀ x, foldedSetIterable iter X.env x = pure x := by intro _; rfl) : Pr (PS X (.For tg iter body [] pos) (tLoop wi g tb)) := ⟨ps_loop hp hc hi.h hg.h hb.h hs⟩
end
section
variable {X : Cx} {pos : Pos}
theorem qps_while {c : Expr} {body : List Stmt} {tc : TT} {tb : TS} (hp : PassesOwn (model X.prog X.w) X.A X.env X.xe) (hc : Pr (PT X c tc)) (hb : Pr (PSs X body tb)) : Pr (PS X (.While c body [] pos) (tWhile tc tb)) := ⟨ps_while hp hc.h hb.h⟩
end
section
variable {X : Cx} {st : Stmt} {rest : List Stmt} {t u : TS} {e : Expr} {te : TE} {pos : Pos}
theorem qps_expr (he : Pr (PE X e te)) (hs : swapsWith e none pos.line X.env = pure false := by rfl) : Pr (PS X (.Expr e pos) (tDrop te)) := ⟨ps_expr he.h hs⟩
end
section
variable {X : Cx} {st : Stmt} {rest : List Stmt} {t u : TS} {e : Expr} {te : TE} {pos : Pos}
end
section
variable {X : Cx} {st : Stmt} {rest : List Stmt} {t u : TS} {e : Expr} {te : TE} {pos : Pos}
end
section
variable {X : Cx} {st : Stmt} {rest : List Stmt} {t u : TS} {e : Expr} {te : TE} {pos : Pos}
end
section
variable {X : Cx} {st : Stmt} {rest : List Stmt} {t u : TS} {e : Expr} {te : TE} {pos : Pos}
theorem qpss_nil  : Pr (PSs X [] tNext) := ⟨pss_nil⟩
end
section
variable {X : Cx} {st : Stmt} {rest : List Stmt} {t u : TS} {e : Expr} {te : TE} {pos : Pos}
theorem qpss_one (h1 : Pr (PS X st t)) : Pr (PSs X [st] t) := ⟨pss_one h1.h⟩
end
section
variable {X : Cx} {st : Stmt} {rest : List Stmt} {t u : TS} {e : Expr} {te : TE} {pos : Pos}
theorem qpss_cons (h1 : Pr (PS X st t)) (h2 : Pr (PSs X rest u)) : Pr (PSs X (st :: rest) (tSeq t u)) := ⟨pss_cons h1.h h2.h⟩
end
section
theorem qpss_cut {X : Cx} {st : Stmt} {rest : List Stmt} {t u : TS} (h1 : Pr (PS X st t)) (h2 : Pr (PSs X rest u)) : Pr (PSs X (st :: rest) (tCut t u)) := ⟨pss_cut h1.h h2.h⟩
end
section
variable {X : Cx} {st : Stmt} {rest : List Stmt} {t u : TS} {e : Expr} {te : TE} {pos : Pos}
end
section
variable {X : Cx} {o e value : Expr} {f : Str} {pos pos' tpos : Pos} {ta tv : TE}
theorem qps_fld (ha : Pr (PE X o ta)) (hv : Pr (PE X value tv)) (hs : swapsWith value (some (.Attribute o f pos')) pos.line X.env = pure false) : Pr (PS X (.Assign [.Attribute o f pos'] value pos) (sFld X.K ta tv f)) := ⟨ps_fld ha.h hv.h hs⟩
end
end L2

namespace L2
open PySem PySem.Spec PyProof.Rows
def relab (sc outer : Scope) : Scope :=
  { sc with names := sc.names.map fun (n, k) => if (k == .free && outer.kind == .function && outer.names.lookup n == some .cell) then (n, .cell) else (n, k) }
structure CompOk (sc outer : Scope) (own : List Str) (N : List Str) (fr : List Nat) (N' : List Str) : Prop where
  kind : sc.kind = .function
  nocell : ∀ y ∈ sc.names, y.2 ≠ .cell
  loc : ∀ y ∈ sc.names, y.2 = .local → sc.names.lookup y.1 = some .local
  fre : ∀ y ∈ sc.names, y.2 = .free → outer.names.lookup y.1 = some .cell ∨ outer.names.lookup y.1 = some .free
  nd : N'.Nodup
  all : N'.map some = own.map some ++ fr.map fun j => N[j]?
  frk : ∀ j ∈ fr, ∀ x, N[j]? = some x → sc.names.lookup x = some .free ∧ (outer.names.lookup x = some .cell ∨ outer.names.lookup x = some .free)
def cst (n : Nat) (fr : List Nat) (σ : St) : St := List.replicate n none ++ fr.map fun j => (σ[j]?).join
theorem closure_has {env : Env} {sc : Scope} (h : ∀ y ∈ sc.names, y.2 = .free → ∃ c, env.cells.lookup y.1 = some c) :
    ∃ cl, closureFor sc env = pure cl ∧ (∀ x c, cl.lookup x = some c → env.cells.lookup x = some c) ∧ ∀ y ∈ sc.names, y.2 = .free → ∃ c, cl.lookup y.1 = some c := by
  have key : ∀ (l : List (Str × NameKind)) (cs : List (Str × Addr)), (∀ y ∈ l, y.2 = .free → ∃ c, env.cells.lookup y.1 = some c) → (∀ x c, cs.lookup x = some c → env.cells.lookup x = some c) →
      ∃ cl, (forIn l cs fun x r => if (x.2 == NameKind.free) = true then do let a ← cellOf env x.1; pure (ForInStep.yield ((x.1, a) :: r)) else pure (ForInStep.yield r)) = (pure cl : Sem _) ∧ (∀ x c, cl.lookup x = some c → env.cells.lookup x = some c) ∧
        (∀ x, (∃ c, cs.lookup x = some c) → ∃ c, cl.lookup x = some c) ∧ ∀ y ∈ l, y.2 = .free → ∃ c, cl.lookup y.1 = some c := by
    intro l
    induction l with
    | nil => intro cs _ h2; exact ⟨cs, rfl, h2, fun _ z => z, fun y hy => nomatch hy⟩
    | cons y l ih =>
      intro cs h1 h2
      obtain ⟨n, k⟩ := y
      by_cases hk : k = .free
      · subst hk
        obtain ⟨c, hc⟩ := h1 (n, .free) List.mem_cons_self rfl
        obtain ⟨cl, e, a, b, d⟩ := ih ((n, c) :: cs) (fun y hy => h1 y (List.mem_cons_of_mem _ hy)) (fun x c' hx => by
          rw [List.lookup_cons] at hx
          split at hx
          · rename_i q
            have : x = n := by simpa using q
            cases hx; subst this; exact hc
          · exact h2 x c' hx)
        refine ⟨cl, ?_, a, fun x ⟨c', hx⟩ => b x ?_, fun y hy hf => ?_⟩
        · rw [List.forIn_cons]
          have e1 : cellOf env n = pure c := by unfold cellOf; rw [hc]
          simp only [beq_self_eq_true, if_true, e1, pure_bind]
          exact e
        · rw [List.lookup_cons]
          split
          · exact ⟨_, rfl⟩
          · exact ⟨c', hx⟩
        · rcases List.mem_cons.mp hy with rfl | hy
          · exact b n ⟨c, by simp [List.lookup_cons]⟩
          · exact d y hy hf
      · obtain ⟨cl, e, a, b, d⟩ := ih cs (fun y hy => h1 y (List.mem_cons_of_mem _ hy)) h2
        refine ⟨cl, ?_, a, b, fun y hy hf => ?_⟩
        · rw [List.forIn_cons]
          have hb : (k == NameKind.free) = false := by simpa using hk
          simp only [hb, Bool.false_eq_true, if_false, pure_bind]
          exact e
        · rcases List.mem_cons.mp hy with rfl | hy
          · exact absurd hf hk
          · exact d y hy hf
  obtain ⟨cl, e, a, _, d⟩ := key sc.names [] h (fun x c hx => by simp at hx)
  refine ⟨cl, ?_, a, d⟩
  unfold closureFor
  simp only [e, pure_bind]
def cxC (X : Cx) (sc : Scope) (cl : List (Str × Addr)) (N' : List Str) (C : Addr) (s : Shared) (H : Hp) (fp : List Addr) : Cx :=
  { X with N := N', s₀ := s, H₀ := H, env := compEnvC sc cl C X.env, outer := X.stack, stack := X.stack, ex := fp, fn := fun _ => false, pn := [], xe := fun _ _ => False }
theorem relab_lookup {outer : Scope} : ∀ {names : List (Str × NameKind)} {x : Str} {k : NameKind},
    (names.map fun (n, k) => if (k == NameKind.free && outer.kind == .function && outer.names.lookup n == some .cell) then (n, NameKind.cell) else (n, k)).lookup x = some k →
      names.lookup x = some k ∨ (names.lookup x = some .free ∧ k = .cell)
  | [], x, k, h => by simp at h
  | (n, k') :: r, x, k, h => by
    rw [List.map_cons] at h
    by_cases hc : (k' == NameKind.free && outer.kind == .function && outer.names.lookup n == some .cell) = true
    · simp only [hc, if_true] at h
      rw [List.lookup_cons] at h ⊢
      cases hx : x == n with
      | true =>
        rw [hx] at h
        simp only [Option.some.injEq] at h
        have hf : k' = .free := by
          have := (Bool.and_eq_true_iff.mp (Bool.and_eq_true_iff.mp hc).1).1
          simpa using this
        exact .inr ⟨by simp [hf], h.symm⟩
      | false => rw [hx] at h; exact relab_lookup h
    · simp only [hc, Bool.false_eq_true, if_false] at h
      rw [List.lookup_cons] at h ⊢
      cases hx : x == n with
      | true => rw [hx] at h; exact .inl (by simpa using h)
      | false => rw [hx] at h; exact relab_lookup h
theorem relab_free {outer : Scope} : ∀ {names : List (Str × NameKind)} {x : Str}, names.lookup x = some .free →
    (names.map fun (n, k) => if (k == NameKind.free && outer.kind == .function && outer.names.lookup n == some .cell) then (n, NameKind.cell) else (n, k)).lookup x = some .cell ∨
    (names.map fun (n, k) => if (k == NameKind.free && outer.kind == .function && outer.names.lookup n == some .cell) then (n, NameKind.cell) else (n, k)).lookup x = some .free
  | [], x, h => by simp at h
  | (n, k') :: r, x, h => by
    rw [List.lookup_cons] at h
    rw [List.map_cons]
    by_cases hc : (k' == NameKind.free && outer.kind == .function && outer.names.lookup n == some .cell) = true
    · simp only [hc, if_true]
      rw [List.lookup_cons]
      cases hx : x == n with
      | true => exact .inl rfl
      | false => rw [hx] at h; exact relab_free h
    · simp only [hc, Bool.false_eq_true, if_false]
      rw [List.lookup_cons]
      cases hx : x == n with
      | true => rw [hx] at h; exact .inr h
      | false => rw [hx] at h; exact relab_free h
theorem lookup_mem' {α : Type} : ∀ {l : List (Str × α)} {x : Str} {k : α}, l.lookup x = some k → (x, k) ∈ l
  | [], _, _, h => by simp at h
  | (n, k') :: r, x, k, h => by
    rw [List.lookup_cons] at h
    cases hx : x == n with
    | true =>
      rw [hx] at h
      have e : x = n := by simpa using hx
      have e2 : k' = k := by simpa using h
      rw [e, e2]; exact List.mem_cons_self
    | false => rw [hx] at h; exact List.mem_cons_of_mem _ (lookup_mem' h)
section
variable {X : Cx} {pins : List (Addr × Obj)} {σ : St} {H : Hp} {s : Shared} {sc : Scope} {own : List Str} {fr : List Nat} {N' : List Str} {cl : List (Str × Addr)}
theorem block_start (I : Inv X pins σ H s) (cs : CompOk sc X.env.scope own X.N fr N') (h1 : ∀ x c, cl.lookup x = some c → X.env.cells.lookup x = some c) (h2 : ∀ y ∈ sc.names, y.2 = .free → ∃ c, cl.lookup y.1 = some c)
    {fp : List Addr} (hf : ∀ b ∈ fp, FpOk X pins H b ∧ ∃ o, s.heap.get? b = some o) {h' : Heap} {t' : Nat} {C D : Addr} {o : Obj} (hC : s.heap.objs.size ≤ C) (hD : s.heap.objs.size ≤ D) (hDC : D ≠ C)
    (k : ∀ b u, s.heap.get? b = some u → h'.get? b = some u) (hn : h'.Ns C fun _ => none) (hDo : h'.get? D = some o) (hd : ∀ v, o.data ≠ .cell v) :
    Inv (cxC X sc cl N' C s H fp) [(D, o)] (cst own.length fr σ) H { s with heap := h', toks := t' } := by
  have lt : ∀ b u, s.heap.get? b = some u → b < s.heap.objs.size := fun b u e => Heap.lt_size e
  have fpC : ∀ b ∈ fp, b ≠ C := fun b hb z => by
    obtain ⟨_, o, e⟩ := hf b hb
    have := lt b o e
    rw [z] at this
    exact absurd (Nat.lt_of_lt_of_le this hC) (Nat.lt_irrefl _)
  have lenN : N'.length = own.length + fr.length := by
    have := congrArg List.length cs.all
    simpa using this
  refine ⟨⟨I.ok.mod, cs.kind, I.ok.glob, I.ok.blt, hC, fun x y c e1 e2 => I.ok.inj x y c (h1 x c e1) (h1 y c e2), fun x hx => ?_, fun x c z => absurd z Bool.false_ne_true, I.ok.hd, I.ok.frames, .inl rfl, fun b hb => ⟨fpC b hb, fun x c e => (hf b hb).1.2.2.2.2.1 x c (h1 x c e)⟩,
      I.bs, Nat.le_trans I.ok.bsz I.sz, fun b o' e hb => ?_, fun b hb z => ?_, I.stack, I.stkFree⟩,
    rfl, I.bare, Un.kept k, ⟨_, hn, fun i x v e1 e2 e3 => ?_⟩, fun x c e => ?_, I.hok.fresh hC, fun x c e => I.freeC x c (h1 x c e), fun p hp => ?_, I.hok.kept k, ?_⟩
  · have hx' : (relab sc X.env.scope).names.lookup x = some .cell ∨ (relab sc X.env.scope).names.lookup x = some .free := hx
    have hfree : sc.names.lookup x = some .free := by
      rcases hx' with z | z
      · rcases relab_lookup z with q | q
        · exact absurd rfl (cs.nocell _ (lookup_mem' q))
        · exact q.1
      · rcases relab_lookup z with q | q
        · exact q
        · exact q.1
    exact h2 (x, .free) (lookup_mem' hfree) rfl
  · have q := (hf b hb).1.2.2.2.1
    rcases q with q | q
    · exact I.ok.noex b o' e q
    · exact absurd (Nat.lt_of_lt_of_le (Heap.lt_size (I.ok.bs b o' e).1) q) (Nat.lt_irrefl _)
  · have z' : b ∈ frs X.stack := z
    rcases List.mem_cons.mp (I.stkSub b z') with q | q
    · exact (hf b hb).1.2.1 q
    · exact (hf b hb).1.2.2.1 q
  · -- a name of the block at its entry is one of the def's
    have hi : own.length ≤ i := by
      by_cases hi : i < own.length
      · have e2' : (cst own.length fr σ)[i]? = some none := by
          unfold cst
          rw [List.getElem?_append_left (by simpa using hi), List.getElem?_replicate, if_pos hi]
        rw [e2'] at e2; cases e2
      · omega
    have e2' : (fr.map fun j => (σ[j]?).join)[i - own.length]? = some (some v) := by
      unfold cst at e2
      rwa [List.getElem?_append_right (by simpa using hi), List.length_replicate] at e2
    rw [List.getElem?_map] at e2'
    have e1a : (N'.map some)[i]? = some (some x) := by
      have e1 : N'[i]? = some x := e1
      rw [List.getElem?_map, e1]; rfl
    rw [cs.all, List.getElem?_append_right (by simpa using hi), List.length_map, List.getElem?_map] at e1a
    cases ej : fr[i - own.length]? with
    | none => rw [ej] at e2'; cases e2'
    | some j =>
      rw [ej] at e2' e1a
      have hj : j ∈ fr := List.mem_of_getElem? ej
      have nj : X.N[j]? = some x := by simpa using e1a
      have sj : σ[j]? = some (some v) := by
        have : (σ[j]?).join = some v := by simpa using e2'
        cases q : σ[j]? with
        | none => rw [q] at this; cases this
        | some y => rw [q] at this; simp at this; rw [this]
      obtain ⟨kf, ko⟩ := cs.frk j hj x nj
      obtain ⟨m, hm, hl⟩ := I.loc
      obtain ⟨u, r, l⟩ := hl j x v nj sj (.inr ko)
      refine ⟨u, r, .inr ?_⟩
      have lk : X.env.kindOf x = some .cell ∨ X.env.kindOf x = some .free := ko
      rcases l with ⟨z, _⟩ | ⟨_, c, ec, ic⟩
      · rcases lk with q | q <;> rw [z] at q <;> cases q
      · obtain ⟨c', hc'⟩ := h2 (x, .free) (lookup_mem' kf) rfl
        have : c' = c := by
          have := h1 x c' hc'
          rw [ec] at this; exact (Option.some.inj this).symm
        subst this
        refine ⟨relab_free kf, c', hc', ?_⟩
        obtain ⟨oc, hoc, hcd⟩ := ic
        exact ⟨oc, k c' oc hoc, hcd⟩
  · obtain ⟨v, oc, hoc, hcd⟩ := I.cell x c (h1 x c e)
    exact ⟨v, oc, k c oc hoc, hcd⟩
  · have hp' : p ∈ [(D, o)] := hp
    have e : p = (D, o) := by simpa using hp'
    subst e
    refine ⟨hDo, I.hok.fresh hD, hDC, fun z => ?_, hd⟩
    have z' : D ∈ frs X.stack := z
    obtain ⟨_, o2, ho2, _⟩ := I.stack.mem z'
    exact absurd (Nat.lt_of_lt_of_le (Heap.lt_size ho2) hD) (Nat.lt_irrefl _)
  · show (cst own.length fr σ).length = N'.length
    unfold cst
    rw [List.length_append, List.length_replicate, List.length_map, lenN]
theorem block_end (I : Inv X pins σ H s) {fp : List Addr} (hf : ∀ b ∈ fp, FpOk X pins H b ∧ ∃ o, s.heap.get? b = some o) {C D : Addr} {its : List Value} {ys : List V} {n : Nat} {σ' : St} {H' : Hp} {s' : Shared}
    (hD : s.heap.objs.size ≤ D) (J : Inv (cxC X sc cl N' C s H fp) [(D, { cls := .type "list", data := .seq its.toArray n })] σ' H' s') (r : Vals ys its) (hz : ys.length ≤ sizeLine) : Inv X pins σ (upd H' D (.lst ys)) s' := by
  obtain ⟨hDo, hDn, hDC, hDf, hDc⟩ := J.pin (D, { cls := .type "list", data := .seq its.toArray n }) (List.mem_append_right _ List.mem_cons_self)
  have u : Un (frs X.stack) fp H H' s.heap s'.heap := J.base
  have os : s'.os = s.os := J.os
  have lt : ∀ b ob, s.heap.get? b = some ob → b ≠ D := fun b ob e z => by
    have := Heap.lt_size e
    rw [z] at this
    exact absurd (Nat.lt_of_lt_of_le this hD) (Nat.lt_irrefl _)
  refine I.call' (ch := fp) os ⟨u.keep, u.slot, fun b ob e n hx => ?_, u.there, fun b xs e => ?_, fun b ob x e => ?_, fun b ps e => ?_⟩ ?_ J.bare (fun b hb => ?_)
  · rw [upd_ne (lt b ob e)]; exact u.free b ob e n hx
  · have := u.tups b xs e
    rw [upd_ne (ne_of_none this hDn)]; exact this
  · have := u.frzs b ob x e
    rw [upd_ne (ne_of_none this hDn)]; exact this
  · obtain ⟨m, q⟩ := u.tbls b ps e
    exact ⟨m, by rw [upd_ne (ne_of_none q hDn)]; exact q⟩
  · intro b ob e
    by_cases hb : b = D
    · subst hb
      rw [upd_same] at e; cases e
      exact ⟨hz, its, n, r, hDo⟩
    · rw [upd_ne hb] at e
      exact (J.hok b ob e).stay (fun c v _ q => q) (fun c q => by rw [upd_ne (ne_of_none q hDn)]; exact q) fun c xs q => by rw [upd_ne (ne_of_none q hDn)]; exact q
  · obtain ⟨_, f1, _, f3, f4, f5⟩ := (hf b hb).1
    exact ⟨f3, f1, f4, f5⟩
end
def PIf (X : Cx) (ifs : List Expr) (t : TT) : Prop :=
  ∀ (pins : List (Addr × Obj)) (s : Shared) (σ : St) (H : Hp) (Q : Bool → Hp → Prop), Inv X pins σ H s → t σ H Q →
    wpAny (model X.prog X.w) X.A (forIn ifs true fun c r => if r = true then do let ok ← isTrue c X.env (eval c X.env); pure (ForInStep.yield ok) else pure (ForInStep.yield r)) (TP X pins σ Q) X.xe s
def tYes : TT := fun _ H Q => Q true H
theorem pif_nil {X : Cx} : PIf X [] tYes := fun _ _ _ H _ I h => wpAny_tests_nil ⟨H, I, h⟩
theorem pif_one {X : Cx} {c : Expr} {t : TT} (h : PT X c t) : PIf X [c] t := fun pins s σ H Q I q => wpAny_tests_one (h pins s σ H Q I q)
structure Comp (J : It) (g : TG) (tt : TT) (te : TE) (Q : List V → Hp → Prop) (σ : St) (H : Hp) : Prop where
  ex : ∃ W : Nat → Nat → List V → St → Hp → Prop, (∃ m, W 0 m [] σ H) ∧ ∀ i m ys σ H, W i m ys σ H → ys.length < sizeLine ∧
    ((J.stop i H ∧ Q ys H) ∨ (J.go i H ∧ ∃ N : List V → St → Hp → Prop, (∀ ys' σ' H', N ys' σ' H' → ∃ m', m' < m ∧ W (i + 1) m' ys' σ' H') ∧
      ∀ x H', J.yld i H x H' → g x σ H' fun σ2 H2 => tt σ2 H2 fun b H3 => if b = true then te σ2 H3 fun y H4 => N (ys ++ [y]) σ2 H4 else N ys σ2 H3))
section
variable {prog : Program} {w : World} {A : Around} {R : Result → Shared → Prop} {s : Shared}
theorem compLoop_own {elt target iter : Expr} {ifs : List Expr} {scope : Scope} {pos : Pos} {it acc : Value} {env : Env} (I : Nat → Shared → Prop)
    (turn : ∀ n s, I n s → wpAny (model prog w) A (pyNext it) (fun r s₁ => match r with
      | none => R (.ok .next) s₁
      | some v => wpAny (model prog w) A (letOwnedTupleGo target it v) (fun _ s₁ => wpAny (model prog w) A (assign target env v) (fun _ s₂ =>
          wpAny (model prog w) A (forIn ifs true fun c r => if r = true then do let ok ← isTrue c env (eval c env); pure (ForInStep.yield ok) else pure (ForInStep.yield r)) (fun ok s₃ =>
            if ok = true then wpAny (model prog w) A (eval elt env) (fun x s₄ =>
              wpAny (model prog w) A (call (.builtin "list.append") [acc, x]) (fun _ s₅ => ∃ m, m < n ∧ I m s₅) (fun _ _ => False) s₄) (fun _ _ => False) s₃
            else ∃ m, m < n ∧ I m s₃) (fun _ _ => False) s₂) (fun _ _ => False) s₁) (fun _ _ => False) s₁) (fun _ _ => False) s)
    (n : Nat) (h : I n s) : codeAny (model prog w) A (.compLoop (.ListComp elt [⟨target, iter, ifs, 0⟩] scope pos) 0 it acc env) R s := by
  refine codeAny_loop rfl I (fun n s hI => ?_) n h
  show wpAny _ A ((compTurn (.ListComp elt [⟨target, iter, ifs, 0⟩] scope pos) 0 it acc env).onRaise (fun x => do noteFrame x env; theTreesLotGoes x)) _ _ s
  refine wpAny_noted (wpAny_noRaise ?_)
  rw [compTurn_list]
  refine wpAny_bind (wpAny_standAt (wpAny_bind (wpAny_mono (turn n s hI) (fun r s₁ h₁ => ?_) fun _ _ h' => h')))
  cases r with
  | none => exact wpAny_pure h₁
  | some v =>
    refine wpAny_bind (wpAny_mono h₁ (fun _ s₁ h₁ => ?_) fun _ _ h' => h')
    refine wpAny_bind (wpAny_mono h₁ (fun _ s₂ h₂ => wpAny_bind (wpAny_mono h₂ (fun ok s₃ h₃ => ?_) fun _ _ h' => h')) fun _ _ h' => h')
    cases ok with
    | false => exact wpAny_pure ⟨rfl, h₃⟩
    | true =>
      exact wpAny_bind (wpAny_bind (wpAny_mono h₃ (fun x s₄ h₄ => wpAny_bind (wpAny_mono h₄ (fun _ s₅ h₅ => wpAny_pure (wpAny_pure ⟨rfl, h₅⟩)) fun _ _ h' => h')) fun _ _ h' => h'))
end
end L2

namespace L2
open PySem PySem.Spec PyProof.Rows
structure TurnX (G : Cx → Prop) (P : Program) (w : World) (K : PySem.W.Frag) (tg : Expr) (J : It) (fp : List Addr) (it : Addr) (tn : Nat → Heap → Prop) : Prop where
  obj : ∀ i h, tn i h → ∀ b ∈ fp, ∃ o, h.get? b = some o ∧ ∀ v, o.data ≠ .cell v
  keep : ∀ i h h', tn i h → (∀ b ∈ fp, ∀ o, h.get? b = some o → h'.get? b = some o) → tn i h'
  item : ∀ (X : Cx), X.prog = P → X.w = w → X.K = K → G X → ∀ (i : Nat) (pins : List (Addr × Obj)) (s : Shared) (σ : St) (H : Hp) (E : Value → Shared → Prop), Inv X pins σ H s → (∀ b ∈ fp, FpOk X pins H b) → tn i s.heap → J.go i H →
    wpAny (model P w) X.A (pyNext (.ref it)) (fun r s1 => ∃ u, r = some u ∧
      wpAny (model P w) X.A (letOwnedTupleGo tg (.ref it) u) (fun _ s2 => ∃ x H', Inv X pins σ H' s2 ∧ RelV x u ∧ J.yld i H x H' ∧ tn (i + 1) s2.heap ∧ ∀ b ∈ fp, H' b = none) E s1) E s
  done : ∀ (X : Cx), X.prog = P → X.w = w → X.K = K → G X → ∀ (i : Nat) (pins : List (Addr × Obj)) (s : Shared) (σ : St) (H : Hp) (E : Value → Shared → Prop), Inv X pins σ H s → (∀ b ∈ fp, FpOk X pins H b) → tn i s.heap → J.stop i H →
    wpAny (model P w) X.A (pyNext (.ref it)) (fun r s1 => r = none ∧ Inv X pins σ H s1) E s
  self : ∀ (A : Around) (i : Nat) (s : Shared) (Q : Value → Shared → Prop) (E : Value → Shared → Prop), tn i s.heap → Q (.ref it) s → wpAny (model P w) A (pyIter (.ref it)) Q E s
theorem Turn.x {P : Program} {w : World} {K : PySem.W.Frag} {tg : Expr} {J : It} {fp : List Addr} {it : Addr} {tn : Nat → Heap → Prop} (T : Turn P w K tg J fp it tn) : TurnX (fun X => X.calm = true) P w K tg J fp it tn := ⟨T.obj, T.keep, T.item, T.done, T.self⟩
section
variable {X : Cx} {sc : Scope} {own : List Str} {fr : List Nat} {N' : List Str} {tg elt iter : Expr} {ifs : List Expr} {g : TG} {tt : TT} {te : TE} {wi : TI} {pos : Pos}
theorem comp_block {G : Cx → Prop} {pins : List (Addr × Obj)} {σ : St} {H : Hp} {s2 : Shared} {it : Addr} {fp : List Addr} {tn : Nat → Heap → Prop} {J : It} {QQ : List V → Hp → Prop} {cl : List (Str × Addr)} {RR : Value → Addr → Result → Shared → Prop} {E : Value → Shared → Prop}
    (I2 : Inv X pins σ H s2) (hc : ∀ cl C s H fp, G (cxC X sc cl N' C s H fp)) (T : TurnX G X.prog X.w X.K tg J fp it tn) (st : tn 0 s2.heap) (f2 : ∀ b ∈ fp, FpOk X pins H b) (cs : CompOk sc X.env.scope own X.N fr N')
    (h1 : ∀ x c, cl.lookup x = some c → X.env.cells.lookup x = some c) (h2 : ∀ y ∈ sc.names, y.2 = .free → ∃ c, cl.lookup y.1 = some c)
    (hg : ∀ cl C s H fp, PG (cxC X sc cl N' C s H fp) tg g) (hif : ∀ cl C s H fp, PIf (cxC X sc cl N' C s H fp) ifs tt) (he : ∀ cl C s H fp, PE (cxC X sc cl N' C s H fp) elt te)
    (KK : Comp J g tt te QQ (cst own.length fr σ) H)
    (hRR : ∀ D C m H' ys s', s2.heap.objs.size ≤ C → s'.heap.Ns C m → H' D = none → (upd H' D (.lst ys)) C = none → QQ ys H' → Inv X pins σ (upd H' D (.lst ys)) s' → RR (.ref D) C (.ok .next) s') :
    wpAny (model X.prog X.w) X.A (newList []) (fun acc s₃ => wpAny (model X.prog X.w) X.A (newFunctionEnv sc X.env.globals cl [] X.env.qual none .none (some X.env)) (fun cenv s₄ =>
      codeAny (model X.prog X.w) X.A (.compStart (.ListComp elt [⟨tg, iter, ifs, 0⟩] sc pos) 0 (.ref it) acc { cenv with scope := relabel sc X.env }) (RR acc cenv.locals) s₄) E s₃) E s2 := by
  refine wpAny_newObj_type (wpAny_newFunctionEnv cs.nocell (by intro y hy; simp at hy) (fun h₁ hns₁ hsb₁ => ?_) cs.kind)
  dsimp only at hns₁ hsb₁ ⊢
  generalize hH2 : s2.heap.push { cls := .type "list", dict := none, data := .seq ([] : List Value).toArray } = H2 at hns₁ hsb₁ ⊢
  have hC : H2.objs.size = s2.heap.objs.size + 1 := by rw [← hH2, Heap.size_push]
  have hDC : s2.heap.objs.size ≠ H2.objs.size := by rw [hC]; exact Nat.ne_of_lt (Nat.lt_succ_self _)
  have hCle : s2.heap.objs.size ≤ H2.objs.size := by rw [hC]; exact Nat.le_succ _
  have below : ∀ b, b < s2.heap.objs.size → b ≠ H2.objs.size ∧ b ≠ s2.heap.objs.size := fun b hb => ⟨by rw [hC]; exact Nat.ne_of_lt (Nat.lt_succ_of_lt hb), Nat.ne_of_lt hb⟩
  have old : ∀ b o, s2.heap.get? b = some o → h₁.get? b = some o := fun b o e => hsb₁.extBut b o (below b (Heap.lt_size e)).1 (Heap.get?_push_of_some _ (hH2 ▸ Heap.get?_push_of_some _ e))
  have hacc : h₁.get? s2.heap.objs.size = some { cls := .type "list", data := .seq ([] : List Value).toArray 0 } := hsb₁.extBut _ _ hDC (Heap.get?_push_of_some _ (hH2 ▸ Heap.get?_push_size _ rfl))
  have fpo : ∀ b ∈ fp, FpOk X pins H b ∧ ∃ o, s2.heap.get? b = some o := fun b hb => ⟨f2 b hb, let ⟨o, e, _⟩ := T.obj 0 _ st b hb; ⟨o, e⟩⟩
  have st1 : tn 0 h₁ := T.keep _ _ _ st fun b hb o e => old b o e
  have hns : h₁.Ns H2.objs.size fun _ => none := by simpa using hns₁
  obtain ⟨W, ⟨m0, w0⟩, turn⟩ := KK.ex
  have loop : ∀ s₃ : Shared, s₃ = { s2 with heap := h₁, toks := s2.toks + ([] : List (Str × Value)).length } →
      codeAny (model X.prog X.w) X.A (.compLoop (.ListComp elt [⟨tg, iter, ifs, 0⟩] sc pos) 0 (.ref it) (.ref s2.heap.objs.size) (compEnvC sc cl H2.objs.size X.env)) (RR (.ref s2.heap.objs.size) H2.objs.size) s₃ := by
    rintro s₃ rfl
    have J0 : Inv (cxC X sc cl N' H2.objs.size s2 H fp) [(s2.heap.objs.size, { cls := .type "list", data := .seq ([] : List Value).toArray 0 })] (cst own.length fr σ) H { s2 with heap := h₁, toks := s2.toks + ([] : List (Str × Value)).length } :=
      block_start I2 cs h1 h2 fpo hCle (Nat.le_refl _) hDC old hns hacc (fun v z => by cases z)
    have stat : ∀ {pl : List (Addr × Obj)} {H' : Hp}, (∀ p ∈ pl, p.1 = s2.heap.objs.size) → (∀ b ∈ fp, H' b = none) → ∀ b ∈ fp, FpOk (cxC X sc cl N' H2.objs.size s2 H fp) pl H' b := fun {pl H'} hpl hn b hb => by
      obtain ⟨f, ob, e⟩ := fpo b hb
      refine ⟨hn b hb, (below b (Heap.lt_size e)).1, fun z => ?_, .inl hb, fun x c ec => f.2.2.2.2.1 x c (h1 x c ec), fun p hp => ?_⟩
      · have z' : b ∈ frs X.stack := z
        rcases List.mem_cons.mp (I2.stkSub b z') with q | q
        · exact f.2.1 q
        · exact f.2.2.1 q
      · have hp' : p ∈ pl := hp
        rw [hpl p hp']
        exact Ne.symm (below b (Heap.lt_size e)).2
    have one : ∀ (o : Obj), ∀ p ∈ [(s2.heap.objs.size, o)], p.1 = s2.heap.objs.size := fun o p hp => by
      have : p = (s2.heap.objs.size, o) := by simpa using hp
      rw [this]
    refine compLoop_own (env := compEnvC sc cl H2.objs.size X.env) (fun n s' => ∃ i ys its k σ' H', Inv (cxC X sc cl N' H2.objs.size s2 H fp) [(s2.heap.objs.size, { cls := .type "list", data := .seq (its : List Value).toArray k })] σ' H' s' ∧ tn i s'.heap ∧ (∀ b ∈ fp, H' b = none) ∧ Vals ys its ∧ W i n ys σ' H')
      ?_ m0 ⟨0, [], [], 0, _, H, J0, st1, fun b hb => (f2 b hb).1, .nil, w0⟩
    rintro n s3 ⟨i, ys, its, k, σ3, H3, I3, st3, fr3, rv, w3⟩
    obtain ⟨hlen, alt⟩ := turn i n ys σ3 H3 w3
    rcases alt with ⟨stop, qn⟩ | ⟨go, N, hN, step⟩
    · refine wpAny_mono (T.done (cxC X sc cl N' H2.objs.size s2 H fp) rfl rfl rfl (hc _ _ _ _ _) i _ s3 σ3 H3 (fun _ _ => False) I3 (stat (one _) fr3) st3 stop) (fun r s4 ⟨hr, I4⟩ => ?_) fun _ _ z => z
      subst hr
      obtain ⟨m, hm, _⟩ := I4.loc
      have hDn : H3 s2.heap.objs.size = none := (I4.pin (s2.heap.objs.size, { cls := .type "list", data := .seq its.toArray k }) (List.mem_append_right _ List.mem_cons_self)).2.1
      exact hRR _ _ m H3 ys s4 hCle hm hDn (by rw [upd_ne (Ne.symm hDC)]; exact I4.free) qn (block_end I2 fpo (Nat.le_refl _) I4 rv (Nat.le_of_lt hlen))
    · refine wpAny_mono (T.item (cxC X sc cl N' H2.objs.size s2 H fp) rfl rfl rfl (hc _ _ _ _ _) i _ s3 σ3 H3 (fun _ _ => False) I3 (stat (one _) fr3) st3 go) (fun r s4 ⟨u, hr, h4⟩ => ?_) fun _ _ z => z
      subst hr
      refine wpAny_mono h4 (fun _ s5 ⟨x, H5, I5, r5, y5, st5, fr5⟩ => ?_) fun _ _ z => z
      have I5' := I5.pinned (stat (one _) fr5) (T.obj _ _ st5)
      refine wpAny_mono (hg cl H2.objs.size s2 H fp _ s5 σ3 H5 x u _ I5' r5 (step x H5 y5)) (fun _ s6 ⟨σ6, H6, I6, q6⟩ => ?_) fun _ _ z => z
      refine wpAny_mono (hif cl H2.objs.size s2 H fp _ s6 σ6 H6 _ I6 q6) (fun b s7 ⟨H7, I7, q7⟩ => ?_) fun _ _ z => z
      have fps : ∀ {σ8 : St} {H8 : Hp} {s8 : Shared}, Inv (cxC X sc cl N' H2.objs.size s2 H fp) ([(s2.heap.objs.size, { cls := .type "list", data := .seq its.toArray k })] ++ pinsAt fp s5.heap) σ8 H8 s8 →
          tn (i + 1) s8.heap ∧ ∀ b ∈ fp, H8 b = none := fun {σ8 H8 s8} I8 => by
        refine ⟨T.keep _ _ _ st5 fun b hb o e => (I8.pin (b, o) (List.mem_append_right _ (List.mem_append_right _ (mem_pinsAt hb e)))).1, fun b hb => ?_⟩
        obtain ⟨o, e, d⟩ := T.obj _ _ st5 b hb
        exact (I8.pin (b, o) (List.mem_append_right _ (List.mem_append_right _ (mem_pinsAt hb e)))).2.1
      cases b with
      | false =>
        obtain ⟨m', hm, w7⟩ := hN ys σ6 H7 q7
        exact ⟨m', hm, i + 1, ys, its, k, σ6, H7, I7.unpinned, (fps I7).1, (fps I7).2, rv, w7⟩
      | true =>
        have q7' : te σ6 H7 fun y H4 => N (ys ++ [y]) σ6 H4 := q7
        refine wpAny_mono (he cl H2.objs.size s2 H fp _ s7 σ6 H7 _ I7 q7') (fun uy s8 ⟨y, H8, I8, r8, n8⟩ => ?_) fun _ _ z => z
        obtain ⟨m', hm, w8⟩ := hN _ _ _ n8
        obtain ⟨hDo, hDn, hDL, hDf, _⟩ := I8.pin (s2.heap.objs.size, { cls := .type "list", data := .seq its.toArray k }) (List.mem_append_right _ (List.mem_append_left _ List.mem_cons_self))
        have hys : its.toArray.size ≤ sizeLine := by rw [List.size_toArray, ← rv.length]; exact Nat.le_of_lt hlen
        refine wpAny_list_append_plain (hsz := hys) (⟨k, hDo⟩ : s8.heap.PlainList s2.heap.objs.size its.toArray) fun h9 ⟨k', hl9⟩ hs9 => ?_
        have hDp : ∀ p ∈ (cxC X sc cl N' H2.objs.size s2 H fp).pn ++ pinsAt fp s5.heap, p.1 ≠ s2.heap.objs.size := fun p hp => by
          have hp' : p ∈ pinsAt fp s5.heap := by
            have hp2 : p ∈ ([] : List (Addr × Obj)) ++ pinsAt fp s5.heap := hp
            simpa using hp2
          obtain ⟨hb, _⟩ := of_pinsAt hp'
          obtain ⟨_, ob, e⟩ := fpo p.1 hb
          exact (below p.1 (Heap.lt_size e)).2
        have I8' : Inv (cxC X sc cl N' H2.objs.size s2 H fp) (pinsAt fp s5.heap) σ6 H8 s8 := I8.pins_of fun p hp => I8.pin p (List.mem_append_right _ (List.mem_append_right _ hp))
        have I9 : Inv (cxC X sc cl N' H2.objs.size s2 H fp) (pinsAt fp s5.heap) σ6 H8 { s8 with heap := h9 } := I8'.turned (t' := s8.toks) (it := s2.heap.objs.size) (fun b o hb e => (hs9.2 b hb).trans e) hDn hDL (.inr (Nat.le_refl _))
          (fun x c e z => by
            obtain ⟨v, q⟩ := I2.cell x c (h1 x c e)
            have := q.lt
            rw [z] at this
            exact absurd this (Nat.lt_irrefl _)) hDp
        have key := fps I8
        refine ⟨m', hm, i + 1, ys ++ [y], its ++ [uy], k', σ6, H8, I9.pins_of fun p hp => ?_, T.keep _ _ _ key.1 fun b hb o e => ?_, key.2, rv.append (.cons r8 .nil), w8⟩
        · have e : p = (s2.heap.objs.size, { cls := .type "list", data := .seq (its ++ [uy]).toArray k' }) := by simpa using hp
          subst e
          refine ⟨?_, hDn, hDL, hDf, fun v z => by cases z⟩
          have : (its ++ [uy]).toArray = its.toArray.push uy := by simp
          rw [this]; exact hl9
        · obtain ⟨_, ob, e2⟩ := fpo b hb
          exact (hs9.2 b (below b (Heap.lt_size e2)).2).trans e
  exact codeAny_compStart_list (loop _ rfl) (wpAny_mono (T.self X.A 0 _ (fun it' s' => it' = .ref it ∧ s' = { s2 with heap := h₁, toks := s2.toks + ([] : List (Str × Value)).length }) _ st1 ⟨rfl, rfl⟩) (fun it' s' ⟨e1, e2⟩ => by subst e1 e2; exact loop _ rfl) fun _ _ z => z)
def tComp (n : Nat) (fr : List Nat) (wi : TI) (g : TG) (tt : TT) (te : TE) : TE := fun σ H Q => wi σ H fun J H1 => Comp J g tt te (fun ys H2 => ∀ D, H2 D = none → Q (.ref D) (upd H2 D (.lst ys))) (cst n fr σ) H1
theorem pe_comp (hc : X.calm = true) (cs : CompOk sc X.env.scope own X.N fr N') (hi : PI X tg iter wi) (hg : ∀ cl C s H fp, PG (cxC X sc cl N' C s H fp) tg g) (hif : ∀ cl C s H fp, PIf (cxC X sc cl N' C s H fp) ifs tt)
    (he : ∀ cl C s H fp, PE (cxC X sc cl N' C s H fp) elt te) (hs : ∀ x, foldedSetIterable iter X.env x = pure x := by intro _; rfl) : PE X (.ListComp elt [⟨tg, iter, ifs, 0⟩] sc pos) (tComp own.length fr wi g tt te) := by
  intro pins s σ H Q I h
  obtain ⟨cl, ecl, h1, h2⟩ := closure_has (env := X.env) (sc := sc) fun y hy hf => I.ok.has y.1 (cs.fre y hy hf)
  rw [eval_ListComp]
  refine wpAny_comprehension_free (use := none) rfl hs ecl cs.kind cs.loc (thn (hi pins s σ H _ I h) fun v s1 q1 => thn q1 fun itv s2 q2 => ?_)
  obtain ⟨it, fp, tn, J, H2, rfl, I2, T, st, f2, KK⟩ := q2
  refine comp_block (RR := fun acc C => compPost (model X.prog X.w) X.A X.xe none (EP X pins σ Q) acc C) I2 (fun _ _ _ _ _ => hc) T.x st f2 cs h1 h2 hg hif he KK fun D C m H' ys s' hC hn hD hCn hq I' => ?_
  refine ⟨m, hn, fun h' hs' => ⟨.ref D, upd H' D (.lst ys), ?_, rfl, hq D hD⟩⟩
  obtain ⟨f0, f1, f2, f3, f4, f5⟩ := I2.fpOk hC hCn
  exact I'.turned (t' := s'.toks) (it := C) (fun b o hb e => (hs'.2 b hb).trans e) f0 (Ne.symm (Ne.symm f1)) f3 f4 f5
def tSetC (i n : Nat) (fr : List Nat) (wi : TI) (g : TG) (tt : TT) (te : TE) : TS := fun D σ H => wi σ H fun J H1 => Comp J g tt te (fun ys H2 => ∀ p, H2 p = none → D.nx (σ.set i (some (.ref p))) (upd H2 p (.lst ys))) (cst n fr σ) H1
theorem ps_setC {i : Nat} {y : Str} {py spos : Pos} (hN : X.N.Nodup) (hy : X.N[i]? = some y) (hx : Loc X.env.scope y) (hc : X.calm = true) (cs : CompOk sc X.env.scope own X.N fr N') (hi : PI X tg iter wi)
    (hg : ∀ cl C s H fp, PG (cxC X sc cl N' C s H fp) tg g) (hif : ∀ cl C s H fp, PIf (cxC X sc cl N' C s H fp) ifs tt) (he : ∀ cl C s H fp, PE (cxC X sc cl N' C s H fp) elt te)
    (hsw : swapsWith (.ListComp elt [⟨tg, iter, ifs, 0⟩] sc pos) (some (.Name y py)) spos.line X.env = pure true) (hfn : X.fn y = true ∨ X.env.scope.names.lookup y = some .local := by first | exact .inl rfl | exact .inr rfl | assumption) (hs : ∀ x, foldedSetIterable iter X.env x = pure x := by intro _; rfl) :
    PS X (.Assign [.Name y py] (.ListComp elt [⟨tg, iter, ifs, 0⟩] sc pos) spos) (tSetC i own.length fr wi g tt te) := by
  intro pins s σ H D I h
  obtain ⟨cl, ecl, h1, h2⟩ := closure_has (env := X.env) (sc := sc) fun y hy hf => I.ok.has y.1 (cs.fre y hy hf)
  rw [exec_Assign_Name_used _ _ _ _ hsw]
  refine wpAny_bind (wpAny_standAt (wpAny_bind ?_))
  show wpAny _ X.A (do let _ ← comprehension (.ListComp elt [⟨tg, iter, ifs, 0⟩] sc pos) sc X.env _ (newList []) false (eval iter X.env) (some (assign (.Name y py) X.env))) _ _ s
  refine wpAny_bind (wpAny_mono (wpAny_comprehension_free (use := some (assign (.Name y py) X.env)) (Q := fun _ s' => ∃ σ' H', Inv X pins σ' H' s' ∧ D.nx σ' H') rfl hs ecl cs.kind cs.loc (thn (hi pins s σ H _ I h) fun v s1 q1 => thn q1 fun itv s2 q2 => ?_))
    (fun _ s' hq => wpAny_pure (wpAny_pure hq)) fun _ _ e => e)
  obtain ⟨it, fp, tn, J, H2, rfl, I2, T, st, f2, KK⟩ := q2
  refine comp_block (RR := fun acc C => compPost (model X.prog X.w) X.A X.xe (some (assign (.Name y py) X.env)) (fun _ s' => ∃ σ' H', Inv X pins σ' H' s' ∧ D.nx σ' H') acc C) I2 (fun _ _ _ _ _ => hc) T.x st f2 cs h1 h2 hg hif he KK fun p C m H' ys s' hC hn hD hCn hq I' => ?_
  obtain ⟨f0, f1, f2, f3, f4, f5⟩ := I2.fpOk hC hCn
  show wpAny _ X.A (assign (.Name y py) X.env (.ref p)) _ _ _
  refine wpAny_assign_Name (store_ok2 (v := .ref p) I' hN hy hx rfl (fun s'' I'' ⟨a, hsa, ha⟩ => ?_) hfn)
  have hCa : C ≠ a := by
    rcases ha with z | z
    · rw [z]; exact f1
    · exact Ne.symm (f4 y a z)
  refine ⟨m, hn.sameBut hsa hCa, fun h' hs' => ⟨_, _, ?_, hq p hD⟩⟩
  exact I''.turned (t' := s''.toks) (it := C) (fun b o hb e => (hs'.2 b hb).trans e) f0 f1 f3 f4 f5
end
theorem comp_by {J : It} {g : TG} {tt : TT} {te : TE} {Q : List V → Hp → Prop} {σ : St} {H : Hp} (n : Nat) (Pv : Nat → List V → St → Hp → Prop) (h0 : Pv 0 [] σ H) (hl : ∀ i ys σ H, i ≤ n → Pv i ys σ H → ys.length < sizeLine)
    (go : ∀ i ys σ H, i < n → Pv i ys σ H → J.go i H) (stop : ∀ ys σ H, Pv n ys σ H → J.stop n H)
    (turn : ∀ i ys σ H, i < n → Pv i ys σ H → ∀ x H', J.yld i H x H' → g x σ H' fun σ2 H2 => tt σ2 H2 fun b H3 => if b = true then te σ2 H3 fun y H4 => Pv (i + 1) (ys ++ [y]) σ2 H4 else Pv (i + 1) ys σ2 H3)
    (after : ∀ ys σ H, Pv n ys σ H → Q ys H) : Comp J g tt te Q σ H := by
  refine ⟨fun i m ys σ H => i ≤ n ∧ m = n - i ∧ Pv i ys σ H, ⟨n, Nat.zero_le _, rfl, h0⟩, fun i m ys σ H ⟨hi, hm, p⟩ => ⟨hl i ys σ H hi p, ?_⟩⟩
  rcases Nat.lt_or_ge i n with h | h
  · exact .inr ⟨go i ys σ H h p, Pv (i + 1), fun ys' σ' H' q => ⟨n - (i + 1), by omega, h, rfl, q⟩, turn i ys σ H h p⟩
  · have e : i = n := Nat.le_antisymm hi h
    subst e
    exact .inl ⟨stop ys σ H p, after ys σ H p⟩
theorem comp_range {lo : Int} {n : Nat} {g : TG} {tt : TT} {te : TE} {Q : List V → Hp → Prop} {σ : St} {H : Hp} (Pv : Nat → List V → St → Hp → Prop) (hn : n < sizeLine) (h0 : Pv 0 [] σ H) (hl : ∀ i ys σ H, i ≤ n → Pv i ys σ H → ys.length ≤ i)
    (turn : ∀ i ys σ H, i < n → Pv i ys σ H → g (.int (lo + i)) σ H fun σ2 H2 => tt σ2 H2 fun b H3 => if b = true then te σ2 H3 fun y H4 => Pv (i + 1) (ys ++ [y]) σ2 H4 else Pv (i + 1) ys σ2 H3)
    (after : ∀ ys σ H, Pv n ys σ H → Q ys H) : Comp (Itr lo n) g tt te Q σ H :=
  comp_by n Pv h0 (fun i ys σ H hi p => Nat.lt_of_le_of_lt (Nat.le_trans (hl i ys σ H hi p) hi) hn) (fun i _ _ _ hi _ => hi) (fun _ _ _ _ => Nat.le_refl _) (fun i ys σ H hi p x H' y => by obtain ⟨rfl, rfl⟩ := y; exact turn i ys σ _ hi p) after
theorem comp_list {K : PySem.W.Frag} {a : Addr} (xs : List V) {g : TG} {tt : TT} {te : TE} {Q : List V → Hp → Prop} {σ : St} {H : Hp} (Pv : Nat → List V → St → Hp → Prop) (hn : xs.length < sizeLine) (h0 : Pv 0 [] σ H) (hl : ∀ i ys σ H, i ≤ xs.length → Pv i ys σ H → ys.length ≤ i ∧ SqL K H a xs)
    (turn : ∀ i ys σ H x, xs[i]? = some x → Pv i ys σ H → g x σ H fun σ2 H2 => tt σ2 H2 fun b H3 => if b = true then te σ2 H3 fun y H4 => Pv (i + 1) (ys ++ [y]) σ2 H4 else Pv (i + 1) ys σ2 H3)
    (after : ∀ ys σ H, Pv xs.length ys σ H → Q ys H) : Comp (Itl K a) g tt te Q σ H :=
  comp_by xs.length Pv h0 (fun i ys σ H hi p => Nat.lt_of_le_of_lt (Nat.le_trans (hl i ys σ H hi p).1 hi) hn) (fun i ys σ H hi p => ⟨xs, xs[i], (hl i ys σ H (Nat.le_of_lt hi) p).2, List.getElem?_eq_getElem hi⟩)
    (fun ys σ H p => ⟨xs, (hl _ ys σ H (Nat.le_refl _) p).2, Nat.le_refl _⟩) (fun i ys σ H hi p x H' y => by obtain ⟨rfl, y⟩ := y; exact turn i ys σ _ x (y xs (hl i ys σ _ (Nat.le_of_lt hi) p).2) p) after
theorem comp_tup {K : PySem.W.Frag} {a : Addr} (xs : List V) {g : TG} {tt : TT} {te : TE} {Q : List V → Hp → Prop} {σ : St} {H : Hp} (Pv : Nat → List V → St → Hp → Prop) (hn : xs.length < sizeLine) (h0 : Pv 0 [] σ H) (hl : ∀ i ys σ H, i ≤ xs.length → Pv i ys σ H → ys.length ≤ i ∧ SqT K H a xs)
    (turn : ∀ i ys σ H x, xs[i]? = some x → Pv i ys σ H → g x σ H fun σ2 H2 => tt σ2 H2 fun b H3 => if b = true then te σ2 H3 fun y H4 => Pv (i + 1) (ys ++ [y]) σ2 H4 else Pv (i + 1) ys σ2 H3)
    (after : ∀ ys σ H, Pv xs.length ys σ H → Q ys H) : Comp (Itt K a) g tt te Q σ H :=
  comp_by xs.length Pv h0 (fun i ys σ H hi p => Nat.lt_of_le_of_lt (Nat.le_trans (hl i ys σ H hi p).1 hi) hn) (fun i ys σ H hi p => ⟨xs, xs[i], (hl i ys σ H (Nat.le_of_lt hi) p).2, List.getElem?_eq_getElem hi⟩)
    (fun ys σ H p => ⟨xs, (hl _ ys σ H (Nat.le_refl _) p).2, Nat.le_refl _⟩) (fun i ys σ H hi p x H' y => by obtain ⟨rfl, y⟩ := y; exact turn i ys σ _ x (y xs (hl i ys σ _ (Nat.le_of_lt hi) p).2) p) after
end L2

namespace L2
open PySem PySem.Spec PyProof.Rows
open AutoSeq1 (wpAny_loadPart') in
set_option maxHeartbeats 4000000 in
theorem meets_enumS_new (k : SK) (l : Addr) (xs : Array Value) :
    Meets (Builtin.«enumerate.__new__» ⟨[.type "enumerate", .ref l], []⟩) (fun _ R s => SIs k s.heap l xs ∧
      R (.ok (.ret (.ref (s.heap.push (itObj k l)).objs.size))) { s with heap := (s.heap.push (itObj k l)).push { cls := .type "enumerate", data := .fields #[.none, .bool false, .ref s.heap.objs.size, rawInt 0, .none, .none] } }) := by
  cases k with
  | list =>
    exact .of_wp fun prog w A R s h => by
      obtain ⟨hp, g, d, tk, os⟩ := s; obtain ⟨hL, h⟩ := h
      have hsub := sub_enumerate
      have hL : Heap.IsList (Shared.heap ⟨hp, g, d, tk, os⟩) l xs := hL
      obtain ⟨ol, hl, hlc, nl, hld⟩ := id hL
      wp_walk using wpAny_loadPart' hl
      refine wpAny_stack_any fun st => wpAny_pure ?_
      split
      · rename_i c _ _ _ _ _
        cases (c == Value.type "enumerate")
        · wp_walk using wpAny_loadPart' hl, wpAny_pyIter_list hL
          exact ⟨_, rfl, h⟩
        · wp_walk using wpAny_loadPart' hl, wpAny_pyIter_list hL
          exact ⟨_, rfl, h⟩
      · wp_walk using wpAny_loadPart' hl, wpAny_pyIter_list hL
        exact ⟨_, rfl, h⟩
  | tuple =>
    exact .of_wp fun prog w A R s h => by
      obtain ⟨hp, g, d, tk, os⟩ := s; obtain ⟨hL, h⟩ := h
      have hsub := sub_enumerate
      have hL : Heap.IsTuple (Shared.heap ⟨hp, g, d, tk, os⟩) l xs := hL
      obtain ⟨ol, hl, hlc, nl, hld⟩ := id hL
      wp_walk using wpAny_loadPart' hl
      refine wpAny_stack_any fun st => wpAny_pure ?_
      split
      · rename_i c _ _ _ _ _
        cases (c == Value.type "enumerate")
        · wp_walk using wpAny_loadPart' hl, wpAny_pyIter_tuple hL
          exact ⟨_, rfl, h⟩
        · wp_walk using wpAny_loadPart' hl, wpAny_pyIter_tuple hL
          exact ⟨_, rfl, h⟩
      · wp_walk using wpAny_loadPart' hl, wpAny_pyIter_tuple hL
        exact ⟨_, rfl, h⟩
section
variable {prog : Program} {w : World} {A : Around} {E : Value → Shared → Prop} {s : Shared}
theorem call_enumS {k : SK} {l : Addr} {xs : Array Value} {Q : Value → Shared → Prop} (hL : SIs k s.heap l xs)
    (h : ∀ h', IsEnum h' (s.heap.objs.size + 1) s.heap.objs.size 0 .none → SIt k h' s.heap.objs.size l 0 → (∀ b o, s.heap.get? b = some o → h'.get? b = some o) → Q (.ref (s.heap.objs.size + 1)) { s with heap := h' }) :
    wpAny (model prog w) A (call (.type "enumerate") [.ref l]) Q E s := by
  refine callType_new F.called_enumerate (by decide) (F.typeCall_enumerate_1 _) (F.newCall_enumerate_1 _) (fun obj => F.args_object_init_2 obj _) F.entry_enumerate_new (meets_enumS_new k l xs) ⟨hL, ?_⟩
  have hz : (s.heap.push (itObj k l)).objs.size = s.heap.objs.size + 1 := Heap.size_push ..
  have r1 : (itObj k l).isFreed = false := by cases k <;> rfl
  have he := Heap.get?_push_size (s.heap.push (itObj k l)) (o := { cls := .type "enumerate", data := .fields #[.none, .bool false, .ref s.heap.objs.size, rawInt 0, .none, .none] }) rfl
  rw [hz] at he
  show _ ∧ _
  rw [hz]
  exact ⟨⟨_, he, rfl⟩, h _ he (itObj_it (Heap.get?_push_of_some _ (Heap.get?_push_size _ r1))) fun b o x => Heap.get?_push_of_some _ (Heap.get?_push_of_some _ x)⟩
theorem enumS_item {k : SK} {e it l : Addr} {i : Nat} {items : Array Value} {x old : Value} {Q : Value → Shared → Prop}
    (he : IsEnum s.heap e it i old) (hit : SIt k s.heap it l i) (hl : SIs k s.heap l items) (hx : items[i]? = some x) (hne : e ≠ it)
    (hQ : ∀ h', IsEnumOut h' e it ((i : Int) + 1) x s.heap.objs.size → SIt k h' it l (i + 1) →
      h'.get? s.heap.objs.size = some { cls := .type "tuple", data := .seq #[.int i s.toks, x] } → h'.objs.size = s.heap.objs.size + 1 →
      (∀ b o, b ≠ e → b ≠ it → s.heap.get? b = some o → h'.get? b = some o) → Q (.ref s.heap.objs.size) { s with heap := h', toks := s.toks + 1 }) :
    wpAny (model prog w) A (Builtin.«enumerate.__next__» ⟨[.ref e], []⟩) (fun fin s' => ∃ v, fin = .done (.ret v) ∧ Q v s') E s := by
  obtain ⟨hp, g, d, tk, os⟩ := s
  show wpAny _ _ (field (.ref e) 2 >>= _) _ _ _
  refine wpAny_bind (wpAny_field he rfl (x := .ref it) rfl ?_)
  refine wpAny_bind (nextOf_item hit hl hx fun h₁ hit₁ hs₁ => ?_)
  replace hs₁ : Heap.SameBut it hp h₁ := hs₁
  have he₁ : IsEnum h₁ e it i old := (hs₁.2 e hne).trans he
  show wpAny _ _ (field (.ref e) 3 >>= _) _ _ ⟨h₁, g, d, tk, os⟩
  refine wpAny_bind (wpAny_field he₁ rfl (x := rawInt i) rfl ?_)
  show wpAny _ _ (field (.ref e) 4 >>= _) _ _ ⟨h₁, g, d, tk, os⟩
  refine wpAny_bind (wpAny_field he₁ rfl (x := .none) rfl ?_)
  show wpAny _ _ (mkInt i >>= _) _ _ ⟨h₁, g, d, tk, os⟩
  refine wpAny_bind (wpAny_mkInt ?_)
  show wpAny _ _ (setField (.ref e) 3 (rawInt ((i : Int) + 1)) >>= _) _ _ ⟨h₁, g, d, tk + 1, os⟩
  refine wpAny_bind (wpAny_setField_rec he₁ (by simp) fun h₂ he₂ hs₂ => ?_)
  replace hs₂ : Heap.SameBut e h₁ h₂ := hs₂
  replace he₂ : IsEnum h₂ e it ((i : Int) + 1) old := he₂
  show wpAny _ _ (setField (.ref e) 4 .none >>= _) _ _ ⟨h₂, g, d, tk + 1, os⟩
  refine wpAny_bind (wpAny_setField_rec he₂ (by simp) fun h₃ he₃ hs₃ => ?_)
  replace hs₃ : Heap.SameBut e h₂ h₃ := hs₃
  replace he₃ : IsEnum h₃ e it ((i : Int) + 1) old := he₃
  show wpAny _ _ (newTuple [.int i tk, x] >>= _) _ _ ⟨h₃, g, d, tk + 1, os⟩
  refine wpAny_bind (wpAny_newTuple ?_)
  have he₄ : IsEnum (h₃.push { cls := .type "tuple", data := .seq #[.int i tk, x] }) e it ((i : Int) + 1) old := Heap.get?_push_of_some _ he₃
  generalize hh₄ : h₃.push { cls := .type "tuple", data := .seq #[.int i tk, x] } = h₄ at he₄
  have hsz : h₃.objs.size = hp.objs.size := by rw [hs₃.1, hs₂.1, hs₁.1]
  have hel : e < hp.objs.size := Heap.lt_size he
  have ht₄ : h₄.get? hp.objs.size = some { cls := .type "tuple", data := .seq #[.int i tk, x] } := by rw [← hh₄, ← hsz]; exact Heap.get?_push_size _ rfl
  have hz₄ : h₄.objs.size = hp.objs.size + 1 := by rw [← hh₄, Heap.size_push, hsz]
  have hk₄ : ∀ b o, b ≠ e → b ≠ it → hp.get? b = some o → h₄.get? b = some o := fun b o hbe hbi hb => by
    rw [← hh₄]; exact Heap.get?_push_of_some _ (hs₃.extBut b o hbe (hs₂.extBut b o hbe (hs₁.extBut b o hbi hb)))
  have hit₄ : SIt k h₄ it l (i + 1) := by
    rw [← hh₄]; exact ((hit₁.ext hs₂.extBut (Ne.symm hne)).ext hs₃.extBut (Ne.symm hne)).at fun o ho => Heap.get?_push_of_some _ ho
  show wpAny _ _ (Builtin.SmallTypes.ownedTupleIsFree (.ref e) >>= _) _ _ ⟨h₄, g, d, tk + 1, os⟩
  rw [hsz]
  clear hh₄ he₃ hs₃ he₂ hs₂ he₁ hs₁ hit₁ hsz h₃ h₂ h₁
  refine wpAny_bind ?_
  · unfold Builtin.SmallTypes.ownedTupleIsFree
    refine wpAny_bind (wpAny_field he₄ rfl (x := .none) rfl (wpAny_pure ?_))
    simp only [if_true]
    refine wpAny_bind (wpAny_rule ?_)
    refine wpAny_bind (wpAny_field he₄ rfl (x := old) rfl ?_)
    refine wpAny_bind (wpAny_setField_rec he₄ (by simp) fun h₅ he₅ hs₅ => ?_)
    replace hs₅ : Heap.SameBut e h₄ h₅ := hs₅
    replace he₅ : IsEnum h₅ e it ((i : Int) + 1) x := he₅
    show wpAny _ _ (Builtin.SmallTypes.ownedTupleHandOut (.ref e) (.ref hp.objs.size) >>= _) _ _ ⟨h₅, g, d, tk + 1, os⟩
    refine wpAny_bind ?_
    · unfold Builtin.SmallTypes.ownedTupleHandOut
      refine wpAny_bind (wpAny_setField_rec he₅ (by simp) fun h₆ he₆ hs₆ => ?_)
      replace hs₆ : Heap.SameBut e h₅ h₆ := hs₆
      replace he₆ : IsEnumOut h₆ e it ((i : Int) + 1) x hp.objs.size := he₆
      refine wpAny_setField_rec he₆ (by simp) fun h₇ he₇ hs₇ => ?_
      replace hs₇ : Heap.SameBut e h₆ h₇ := hs₇
      replace he₇ : IsEnumOut h₇ e it ((i : Int) + 1) x hp.objs.size := he₇
      refine wpAny_bind (wpAny_letGo (wpAny_pure ⟨_, rfl, hQ h₇ he₇ ?_ ?_ ?_ ?_⟩))
      · exact ((hit₄.ext hs₅.extBut (Ne.symm hne)).ext hs₆.extBut (Ne.symm hne)).ext hs₇.extBut (Ne.symm hne)
      · exact hs₇.extBut _ _ (Nat.ne_of_gt hel) (hs₆.extBut _ _ (Nat.ne_of_gt hel) (hs₅.extBut _ _ (Nat.ne_of_gt hel) ht₄))
      · rw [hs₇.1, hs₆.1, hs₅.1, hz₄]
      · exact fun b o hbe hbi hb => hs₇.extBut b o hbe (hs₆.extBut b o hbe (hs₅.extBut b o hbe (hk₄ b o hbe hbi hb)))
theorem pyNext_enumS_item {k : SK} {e it l : Addr} {i : Nat} {items : Array Value} {x old : Value} {Q : Option Value → Shared → Prop}
    (he : IsEnum s.heap e it i old) (hit : SIt k s.heap it l i) (hl : SIs k s.heap l items) (hx : items[i]? = some x) (hne : e ≠ it)
    (hQ : ∀ h', IsEnumOut h' e it ((i : Int) + 1) x s.heap.objs.size → SIt k h' it l (i + 1) →
      h'.get? s.heap.objs.size = some { cls := .type "tuple", data := .seq #[.int i s.toks, x] } → h'.objs.size = s.heap.objs.size + 1 →
      (∀ b o, b ≠ e → b ≠ it → s.heap.get? b = some o → h'.get? b = some o) → Q (some (.ref s.heap.objs.size)) { s with heap := h', toks := s.toks + 1 }) :
    wpAny (model prog w) A (pyNext (.ref e)) Q E s := by
  have hT : s.TypeIs (.ref e) "enumerate" := ⟨_, he, rfl⟩
  unfold pyNext
  exact wpAny_bind (wpAny_attempt (wpAny_callSpecial?_slot (name := Str.ofString "__next__") hT F.slot_enumerate_next
    (wpAny_call_entry F.slot_enumerate_next hT F.entry_enumerate_next
      (enumS_item he hit hl hx hne fun h' a b c d k => wpAny_pure (hQ h' a b c d k)) (F.args_enumerate_next_1 _))))
theorem pyNext_enumS_end {k : SK} {e it l : Addr} {i : Nat} {items : Array Value} {old : Value} {Q : Option Value → Shared → Prop} (hh : A.handled = none)
    (he : IsEnum s.heap e it i old) (hit : SIt k s.heap it l i) (hl : SIs k s.heap l items) (hx : items[i]? = none)
    (hQ : ∀ h', Heap.ExtBut it s.heap h' → Q none { s with heap := h' }) : wpAny (model prog w) A (pyNext (.ref e)) Q E s := by
  have hT : s.TypeIs (.ref e) "enumerate" := ⟨_, he, rfl⟩
  unfold pyNext
  refine wpAny_bind (wpAny_attempt (wpAny_callSpecial?_slot (name := Str.ofString "__next__") hT F.slot_enumerate_next
    (wpAny_call_entry F.slot_enumerate_next hT F.entry_enumerate_next ?_ (F.args_enumerate_next_1 _))))
  show wpAny _ _ (field (.ref e) 2 >>= _) _ _ _
  refine wpAny_bind (wpAny_field he rfl (x := .ref it) rfl ?_)
  refine wpAny_bind (nextOf_end hh hit hl hx fun h' x he' hx' => ?_)
  obtain ⟨o, ho, hc⟩ := hx'
  refine wpAny_bind (wpAny_isInstance (T := "StopIteration") (b := true) ⟨o, ho, hc⟩ isSubtype_stop ?_)
  exact wpAny_pure (hQ _ he')
end
def Itn (K : PySem.W.Frag) (k : SK) (a : Addr) : It :=
  ⟨fun i H => ∃ xs x, Sq k K H a xs ∧ xs[i]? = some x,
   fun i H v H' => ∃ T, H T = none ∧ v = .ref T ∧ ∀ xs, Sq k K H a xs → ∃ x, xs[i]? = some x ∧ H' = upd H T (.tup [.int i, x]),
   fun i H => ∃ xs, Sq k K H a xs ∧ xs.length ≤ i⟩
theorem turn_enum {P : Program} {w : World} {K : PySem.W.Frag} {elts : List Expr} {kk : Nat} {tpos : Pos} {k : SK} {e it a : Addr} (hne : e ≠ it) :
    Turn P w K (.Tuple elts kk tpos) (Itn K k a) [e, it] e (fun i h => (∃ old, IsEnum h e it i old) ∧ SIt k h it a i) where
  mem := by simp
  obj := fun i h st b hb => by
    obtain ⟨⟨old, he⟩, h1⟩ := st
    simp only [List.mem_cons, List.not_mem_nil, or_false] at hb
    rcases hb with rfl | rfl
    · exact ⟨_, he, fun v q => nomatch q⟩
    · exact h1.obj
  keep := fun i h h' st k => by
    obtain ⟨⟨old, he⟩, h1⟩ := st
    exact ⟨⟨old, k _ (by simp) _ he⟩, h1.at fun o e => k _ (by simp) o e⟩
  item := by
    intro X hP hw hK hc i pins s σ H E I hf st hg
    subst hP hw hK
    obtain ⟨⟨old, he⟩, h1⟩ := st
    obtain ⟨xs, x, q1, hx⟩ := hg
    obtain ⟨ix, rx, px⟩ := I.sis q1
    obtain ⟨u, hu, ru⟩ := rx.get hx
    refine pyNext_enumS_item he h1 px (x := u) (by simpa using hu) hne fun h' a1 a2 a3 a4 a5 => ?_
    refine ⟨_, rfl, wpAny_letOwnedTupleGo_enum (s := { s with heap := h', toks := s.toks + 1 }) a1 fun h'' b1 b2 => ?_⟩
    have elt : e < s.heap.objs.size := Heap.lt_size he
    have ilt : it < s.heap.objs.size := by obtain ⟨o, ho, _⟩ := h1.obj; exact Heap.lt_size ho
    have k2 : ∀ c o, c ∉ [e, it] → s.heap.get? c = some o → h''.get? c = some o := fun c o hc ec => by
      simp only [List.mem_cons, List.not_mem_nil, or_false, not_or] at hc
      exact b2.extBut _ _ hc.1 (a5 c o hc.1 hc.2 ec)
    have hT2 : h''.get? s.heap.objs.size = some { cls := .type "tuple", data := .seq #[.int i s.toks, u] } := b2.extBut _ _ (Nat.ne_of_gt elt) a3
    refine ⟨.ref s.heap.objs.size, upd H s.heap.objs.size (.tup [.int i, x]), I.turnedNew (t' := s.toks + 1) (o := .tup [.int i, x]) k2 hf (Nat.le_refl _)
      ⟨by show 2 ≤ sizeLine; decide, [.int i s.toks, u], .cons ⟨_, rfl⟩ (.cons ru .nil), ⟨_, hT2, rfl, _, rfl⟩⟩, rfl,
      ⟨_, I.hok.fresh (Nat.le_refl _), rfl, fun xs' e1 => ?_⟩, ⟨⟨u, by simpa using b1⟩, a2.at fun o eo => b2.extBut _ _ (Ne.symm hne) eo⟩, fun b hb => ?_⟩
    · rw [I.sq_inj e1 q1]
      exact ⟨x, hx, rfl⟩
    · have blt : b < s.heap.objs.size := by
        simp only [List.mem_cons, List.not_mem_nil, or_false] at hb
        rcases hb with rfl | rfl
        · exact elt
        · exact ilt
      rw [upd_ne (Nat.ne_of_lt blt)]
      exact (hf b hb).1
  done := by
    intro X hP hw hK hc i pins s σ H E I hf st hg
    subst hP hw hK
    obtain ⟨⟨old, he⟩, h1⟩ := st
    obtain ⟨xs, q1, hl⟩ := hg
    obtain ⟨ix, rx, px⟩ := I.sis q1
    have l1 := rx.length
    refine pyNext_enumS_end (I.ok.hd hc) he h1 px (by simp; omega) fun h' hk => ⟨rfl, I.turnedL (t' := s.toks) (its := [e, it]) (fun b o hb eb => ?_) hf⟩
    simp only [List.mem_cons, List.not_mem_nil, or_false, not_or] at hb
    exact hk b o hb.2 eb
  self := fun _ _ _ _ _ st h => by
    obtain ⟨⟨old, he⟩, _⟩ := st
    exact wpAny_pyIter_enum he h
section
variable {X : Cx} {elts : List Expr} {kk : Nat} {tpos : Pos}
def iEnum (K : PySem.W.Frag) (k : SK) (ta : TA) : TI := fun σ H R => ta σ H fun vs H1 => ∃ a, vs = [.ref a] ∧ (∃ xs, Sq k K H1 a xs) ∧ R (Itn K k a) H1
theorem pi_enum (k : SK) {a : Expr} {ta : TA} {p pos : Pos} (hg : Gl X "enumerate") (hm : X.mg "enumerate" = none) (ha : PA X [a] ta) (hs : starEach [a] X.env = [(false, eval a X.env)] := by rfl) :
    PI X (.Tuple elts kk tpos) (.Call (.Name "enumerate" p) [a] [] pos) (iEnum X.K k ta) := by
  intro pins s σ H R I h
  refine Call_ (ld_blt I hg hm PyProof.Rows.Boot.«enumerate» (PyProof.Rows.callWith_type1 (thn (ha pos pins s σ H _ I h) fun us s1 ⟨vs, H1, I1, r1, q1⟩ => ?_) hs rfl))
  obtain ⟨a', e, ⟨xs, qx⟩, q⟩ := q1
  subst e
  cases r1 with
  | cons r rr =>
    cases rr
    cases r
    obtain ⟨ix, rx, px⟩ := I1.sis qx
    refine call_enumS px fun h' b1 b2 b3 => wpAny_pyIter_enum (s := { s1 with heap := h' }) b1 ?_
    have nn : ∀ b, s1.heap.objs.size ≤ b → FpOk X pins H1 b := fun b hb => I1.fpOk hb (I1.hok.fresh hb)
    refine ⟨_, [s1.heap.objs.size + 1, s1.heap.objs.size], _, _, H1, rfl, I1.kept (t' := s1.toks) b3, turn_enum (k := k) (Nat.ne_of_gt (Nat.lt_succ_self _)), ⟨⟨_, b1⟩, b2⟩, fun b hb => ?_, q⟩
    simp only [List.mem_cons, List.not_mem_nil, or_false] at hb
    rcases hb with rfl | rfl
    · exact nn _ (Nat.le_succ _)
    · exact nn _ (Nat.le_refl _)
end
theorem loop_enum {K : PySem.W.Frag} {k : SK} {a : Addr} {xs : List V} {g : TG} {tb : TS} {D : Ends} {σ : St} {H : Hp} (Pv : Nat → St → Hp → Prop) (h0 : Pv 0 σ H)
    (hl : ∀ i σ H, i ≤ xs.length → Pv i σ H → Sq k K H a xs)
    (hs : ∀ i x σ H T, xs[i]? = some x → Pv i σ H → H T = none → g (.ref T) σ (upd H T (.tup [.int i, x])) fun σ2 H2 => tb { D with nx := Pv (i + 1), ct := Pv (i + 1), bk := D.nx } σ2 H2)
    (hd : ∀ σ H, Pv xs.length σ H → D.nx σ H) : Loop (Itn K k a) g tb D σ H := by
  refine ⟨fun i m σ H => m = xs.length - i ∧ i ≤ xs.length ∧ Pv i σ H, ⟨xs.length, by simp, Nat.zero_le _, h0⟩, ?_⟩
  rintro i m σ H ⟨rfl, hi, p⟩
  have q1 := hl i σ H hi p
  by_cases hlt : i < xs.length
  · refine .inr ⟨⟨xs, xs[i], q1, by simp [hlt]⟩, Pv (i + 1), fun σ' H' p' => ⟨xs.length - (i + 1), by omega, rfl, hlt, p'⟩, fun x H' y => ?_⟩
    obtain ⟨T, hT, rfl, y⟩ := y
    obtain ⟨u, e1, rfl⟩ := y xs q1
    exact hs i u σ H T e1 p hT
  · have e : i = xs.length := by omega
    refine .inl ⟨⟨xs, q1, by omega⟩, ?_⟩
    subst e
    exact hd σ H p
theorem comp_enum {K : PySem.W.Frag} {k : SK} {a : Addr} (xs : List V) {g : TG} {tt : TT} {te : TE} {Q : List V → Hp → Prop} {σ : St} {H : Hp} (Pv : Nat → List V → St → Hp → Prop) (hn : xs.length < sizeLine) (h0 : Pv 0 [] σ H) (hl : ∀ i ys σ H, i ≤ xs.length → Pv i ys σ H → ys.length ≤ i ∧ Sq k K H a xs)
    (turn : ∀ i ys σ H x T, xs[i]? = some x → Pv i ys σ H → H T = none → g (.ref T) σ (upd H T (.tup [.int i, x])) fun σ2 H2 => tt σ2 H2 fun b H3 => if b = true then te σ2 H3 fun y H4 => Pv (i + 1) (ys ++ [y]) σ2 H4 else Pv (i + 1) ys σ2 H3)
    (after : ∀ ys σ H, Pv xs.length ys σ H → Q ys H) : Comp (Itn K k a) g tt te Q σ H :=
  comp_by xs.length Pv h0 (fun i ys σ H hi p => Nat.lt_of_le_of_lt (Nat.le_trans (hl i ys σ H hi p).1 hi) hn) (fun i ys σ H hi p => ⟨xs, xs[i], (hl i ys σ H (Nat.le_of_lt hi) p).2, List.getElem?_eq_getElem hi⟩)
    (fun ys σ H p => ⟨xs, (hl _ ys σ H (Nat.le_refl _) p).2, Nat.le_refl _⟩) (fun i ys σ H hi p x H' y => by
      obtain ⟨T, hT, rfl, y⟩ := y
      obtain ⟨u, e1, rfl⟩ := y xs (hl i ys σ _ (Nat.le_of_lt hi) p).2
      exact turn i ys σ _ u T e1 p hT) after
theorem comp_zip {K : PySem.W.Frag} {k1 k2 : SK} {a b : Addr} (xs zs : List V) {g : TG} {tt : TT} {te : TE} {Q : List V → Hp → Prop} {σ : St} {H : Hp} (Pv : Nat → List V → St → Hp → Prop) (hn : xs.length < sizeLine) (hz : xs.length = zs.length) (h0 : Pv 0 [] σ H) (hl : ∀ i ys σ H, i ≤ xs.length → Pv i ys σ H → ys.length ≤ i ∧ Sq k1 K H a xs ∧ Sq k2 K H b zs)
    (turn : ∀ i ys σ H x z T, xs[i]? = some x → zs[i]? = some z → Pv i ys σ H → H T = none → g (.ref T) σ (upd H T (.tup [x, z])) fun σ2 H2 => tt σ2 H2 fun b H3 => if b = true then te σ2 H3 fun y H4 => Pv (i + 1) (ys ++ [y]) σ2 H4 else Pv (i + 1) ys σ2 H3)
    (after : ∀ ys σ H, Pv xs.length ys σ H → Q ys H) : Comp (Itz K k1 k2 a b) g tt te Q σ H :=
  comp_by xs.length Pv h0 (fun i ys σ H hi p => Nat.lt_of_le_of_lt (Nat.le_trans (hl i ys σ H hi p).1 hi) hn)
    (fun i ys σ H hi p => ⟨xs, zs, xs[i], zs[i]'(hz ▸ hi), (hl i ys σ H (Nat.le_of_lt hi) p).2.1, (hl i ys σ H (Nat.le_of_lt hi) p).2.2, List.getElem?_eq_getElem hi, List.getElem?_eq_getElem (hz ▸ hi)⟩)
    (fun ys σ H p => ⟨xs, zs, (hl _ ys σ H (Nat.le_refl _) p).2.1, (hl _ ys σ H (Nat.le_refl _) p).2.2, .inl (Nat.le_refl _)⟩) (fun i ys σ H hi p x H' y => by
      obtain ⟨T, hT, rfl, y⟩ := y
      obtain ⟨u, v, e1, e2, rfl⟩ := y xs zs (hl i ys σ _ (Nat.le_of_lt hi) p).2.1 (hl i ys σ _ (Nat.le_of_lt hi) p).2.2
      exact turn i ys σ _ u v T e1 e2 p hT) after
end L2

namespace L2
open PySem PySem.Spec PyProof.Rows
theorem list_getattr_none : typeLookup (.type "list") "__getattr__" = pure none := by rw [typeLookup_type, builtinLookup_eq_fast]; kernel_rfl
theorem list_keys_none : typeLookup (.type "list") "keys" = pure none := by rw [typeLookup_type, builtinLookup_eq_fast]; kernel_rfl
set_option maxHeartbeats 4000000 in
theorem meets_miss_list (a : Addr) (its : Array Value) (n : Nat) (name : Str) (u : Tok) (hmiss : typeLookup (.type "list") name = pure none) (hns : [Str.ofString "__module__", Str.ofString "__name__", Str.ofString "__qualname__", Str.ofString "__doc__", Str.ofString "__annotations__"].contains name = false) (hsz : name.length + 100 ≤ sizeLine := by size_fits) :
    Meets (Builtin.«object.__getattribute__» ⟨[.ref a, .str name u], []⟩) (fun A R s => s.heap.get? a = some { cls := .type "list", data := .seq its n } ∧ raisesAttr (.ref a) name A R s) :=
  Meets.of_wp fun prog w A R s hs => by
    obtain ⟨hp, g, d, tk, os⟩ := s
    obtain ⟨ha, hs⟩ := hs
    have hT : (⟨hp, g, d, tk, os⟩ : Shared).TypeIs (.ref a) "list" := ⟨_, ha, rfl⟩
    unfold Builtin.«object.__getattribute__»
    repeat (any_goals (first | assumption | wp_step))
    rw [if_neg (by rw [hns]; exact Bool.false_ne_true)]
    repeat (any_goals (first | assumption | wp_step))
    exact wpAny_raiseAttrError hs.1 hs.2 (attrMsg_fits (by decide +kernel) hsz)
section
variable {prog : Program} {w : World} {A : Around} {E : Value → Shared → Prop} {s : Shared}
set_option maxHeartbeats 4000000 in
theorem attr_miss_list {a : Addr} {its : Array Value} {n : Nat} {name : Str} {Q : Option Value → Shared → Prop} (hmiss : typeLookup (.type "list") name = pure none) (hns : [Str.ofString "__module__", Str.ofString "__name__", Str.ofString "__qualname__", Str.ofString "__doc__", Str.ofString "__annotations__"].contains name = false) (hA : A.handled = none) (ha : s.heap.get? a = some { cls := .type "list", data := .seq its n })
    (h : ∀ h' tk, (∀ b o, s.heap.get? b = some o → h'.get? b = some o) → Q none { s with heap := h', toks := tk }) (hsz : name.length + 100 ≤ sizeLine := by size_fits) :
    wpAny (model prog w) A (getAttr? (.ref a) name) Q E s := by
  obtain ⟨hp, g, d, tk, os⟩ := s
  have hT : ∀ t', (⟨hp, g, d, t', os⟩ : Shared).TypeIs (.ref a) "list" := fun _ => ⟨_, ha, rfl⟩
  have f1 := sub_AttributeError
  have f3 := F.slot_list_getattribute.lookup
  have f4 := F.slot_list_getattribute.bind (.ref a)
  have f5 := list_getattr_none
  unfold getAttr? getAttrBy? getAttrBy
  repeat (any_goals (first | assumption | exact hT _ | ((with_reducible show wpAny _ _ (call (Value.builtin "list.__getattribute__") _ _) _ _ _); refine call_meets F.slot_list_getattribute (hT _) F.entry_list_ga (F.args_list_getattribute_2 _ _) (meets_miss_list a its n name _ hmiss hns hsz) ⟨ha, hA, fun h' tk' e hx => ?_⟩) | wp_step))
  obtain ⟨t', u', he⟩ := hx.there
  show wpAny _ _ (getattributeRaised _ _ _ _ _ _ _) _ _ _
  unfold getattributeRaised
  repeat (any_goals (first | assumption | wp_step))
  exact h _ _ fun b o hb => hx.keeps b o hb
end
theorem entry_dul : entryFor table "dict.update.loop" = some Builtin.«dict.update.loop» := entryFor_of_tree (by kernel_rfl)
theorem plain_dul : plainId "dict.update.loop" = true := by decide +kernel
section
variable {prog : Program} {w : World} {K : Type} [DecidableEq K] {knd : KeyKind prog w K} {A : Around} {R : Result → Shared → Prop}
theorem dict_loop {d I l : Addr} {items : Array Value} {ps : List (K × Value)} (hh : A.handled = none) (hdI : d ≠ I) (hld : l ≠ d) (hlI : l ≠ I) (hn : items.size = ps.length) (hsz : ps.length ≤ sizeLine) :
    ∀ (k i : Nat) (s : Shared) (acc : List (K × Value)), ps.length - i = k → i ≤ ps.length → acc.length ≤ i → s.heap.IsListIter I l i → s.heap.IsList l items → s.heap.DictOf knd d acc →
    (∀ (j : Nat) (kv : K × Value), ps[j]? = some kv → ∃ (t : Addr) (key : Value), items[j]? = some (Value.ref t) ∧ s.heap.IsTuple t #[key, kv.2] ∧ knd.is kv.1 key = true ∧ t ≠ d ∧ t ≠ I) →
    (∀ h' tk, h'.DictOf knd d (merged acc (ps.drop i)) → (∀ b o, b ≠ d → b ≠ I → s.heap.get? b = some o → h'.get? b = some o) → R (.ok (.ret .none)) { s with heap := h', toks := tk }) →
    codeAny (model prog w) A (.builtin "dict.update.loop" ⟨[.ref d, .ref I, rawInt i, .none], []⟩) R s := by
  intro k
  induction k with
  | zero =>
    intro i s acc hk hi hacc hit hl hd hp hR
    refine codeAny_builtin entry_dul ?_
    rw [Around.under_plainId plain_dul _]
    show wpAny _ A.in1 (pyNext (.ref I) >>= _) _ _ s
    refine wpAny_bind (wpAny_pyNext_list_end (A := A.in1) hh hit hl (by simp; omega) fun h₁ he₁ => ?_)
    show wpAny _ _ (Builtin.Dict.addKeywords d [] >>= _) _ _ _
    refine wpAny_bind (wpAny_pure (wpAny_pure ?_))
    have := hR h₁ s.toks (by rw [List.drop_of_length_le (by omega)]; exact hd.extBut he₁ hdI) (fun b o hb hbI e => he₁ b o hbI e)
    exact this
  | succ k ih =>
    intro i s acc hk hi hacc hit hl hd hp hR
    have hlt : i < ps.length := by omega
    obtain ⟨t, key, hx, ht, hkey, htd, htI⟩ := hp i ps[i] (List.getElem?_eq_getElem hlt)
    refine codeAny_builtin entry_dul ?_
    rw [Around.under_plainId plain_dul _]
    show wpAny _ A.in1 (pyNext (.ref I) >>= _) _ _ s
    refine wpAny_bind (wpAny_pyNext_list_item hit hl hx fun h₁ hit₁ hs₁ => ?_)
    have ht₁ : h₁.IsTuple t #[key, ps[i].2] := let ⟨o, ho, r⟩ := ht; ⟨o, (hs₁.2 t htI).trans ho, r⟩
    have hd₁ : h₁.DictOf knd d acc := hd.sameBut hs₁ hdI
    refine wpAny_bind (wpAny_holding ?_)
    obtain ⟨ot, hot, hotc, nt, hotd⟩ := id ht₁
    refine wpAny_bind (wpAny_tryCatch ?_)
    unfold Builtin.Dict.pairItems
    refine wpAny_bind (wpAny_typeOf (T := "tuple") (⟨ot, hot, hotc⟩ : Shared.TypeIs _ (.ref t) "tuple") ?_)
    rw [if_pos (by decide)]
    refine wpAny_bind (wpAny_seqItems hot hotd (wpAny_pure ?_))
    show wpAny _ _ (holding [key, ps[i].2] (dictSet d key ps[i].2)) _ _ _
    refine wpAny_holding (wpAny_dictSet_pairs (hsz := by omega) hkey hd₁ fun h₂ hd₂ hs₂ => wpAny_pure ?_)
    refine ⟨plainId_quiet plain_dul _, ?_⟩
    have up : ∀ b o, b ≠ d → b ≠ I → s.heap.get? b = some o → h₂.get? b = some o := fun b o hb hbI e => (hs₂.2 b hb).trans ((hs₁.2 b hbI).trans e)
    have e1 : (i : Int) + 1 = ((i + 1 : Nat) : Int) := by omega
    have := ih (i + 1) { s with heap := h₂, toks := s.toks + 1 } (stored acc ps[i].1 ps[i].2) (by omega) hlt (Nat.le_trans (stored_length_le ..) (by omega)) (hit₁.extBut hs₂.extBut (Ne.symm hdI))
      (let ⟨o, ho, r⟩ := hl; ⟨o, up l o hld hlI ho, r⟩) hd₂ (fun j kv hj => by
        obtain ⟨t', key', a1, ⟨o, ho, r⟩, a3, a4, a5⟩ := hp j kv hj
        exact ⟨t', key', a1, ⟨o, up t' o a4 a5 ho, r⟩, a3, a4, a5⟩) (fun h' tk hm hk' => by
        have := hR h' tk (by
          rw [List.drop_eq_getElem_cons hlt]
          exact hm) fun b o hb hbI e => hk' b o hb hbI (up b o hb hbI e)
        exact this)
    rw [← e1] at this
    exact this
end
section
variable {prog : Program} {w : World} {K : Type} [DecidableEq K] {knd : KeyKind prog w K} {A : Around} {E : Value → Shared → Prop} {s : Shared}
theorem call_dict_pairs {l : Addr} {items : List Value} {n : Nat} {ps : List (K × Value)} {Q : Value → Shared → Prop} (hh : A.handled = none) (hl : s.heap.get? l = some { cls := .type "list", data := .seq items.toArray n })
    (hn : items.length = ps.length) (hsz : ps.length ≤ sizeLine) (hp : ∀ (j : Nat) (kv : K × Value), ps[j]? = some kv → ∃ (t : Addr) (key : Value), items[j]? = some (Value.ref t) ∧ s.heap.IsTuple t #[key, kv.2] ∧ knd.is kv.1 key = true)
    (h : ∀ h' tk, h'.DictOf knd s.heap.objs.size (merged [] ps) → (∀ b o, s.heap.get? b = some o → h'.get? b = some o) → Q (.ref s.heap.objs.size) { s with heap := h', toks := tk }) :
    wpAny (model prog w) A (call (.type "dict") [.ref l]) Q E s := by
  refine callType_codes (Q₁ := fun obj s₁ => obj = .ref s.heap.objs.size ∧ s₁ = { s with heap := s.heap.push { cls := .type "dict", data := .dict #[] } }) F.kt_called_dict (F.kt_typeCall_dict_1 _) F.entry_dict_init (kt_code_dict_new _ ⟨rfl, rfl⟩) ?_
  rintro obj s₁ ⟨rfl, rfl⟩
  have hnew : (s.heap.push { cls := .type "dict", data := .dict #[] }).DictOf knd s.heap.objs.size [] := Heap.DictOf.new s.heap
  have hl' : (s.heap.push { cls := .type "dict", data := .dict #[] }).get? l = some { cls := .type "list", data := .seq items.toArray n } := Heap.get?_push_of_some _ hl
  refine ⟨hnew.typeIs, F.args_dict_init_2 _ _, ?_⟩
  unfold Builtin.«dict.__init__»
  refine wpAny_bind ?_
  unfold Builtin.Dict.selfAndRest
  refine wpAny_bind (wpAny_notOrdered_dict hnew.typeIs ?_)
  show wpAny _ _ (pure (s.heap.objs.size, [Value.ref l])) _ _ _
  refine wpAny_pure ?_
  show wpAny _ _ (Builtin.Dict.updateFrom "dict.__init__" s.heap.objs.size (.ref l) [] .none) _ _ _
  unfold Builtin.Dict.updateFrom
  refine wpAny_bind (wpAny_typeOf (T := "list") (⟨_, hl', rfl⟩ : Shared.TypeIs _ (.ref l) "list") ?_)
  rw [if_pos (by decide)]
  refine wpAny_bind (attr_miss_list (name := "keys") list_keys_none (by decide +kernel) ?_ hl' fun h₁ tk₁ k₁ => ?_)
  · first | exact hh | (show A.in1.handled = none; exact hh)
  rw [if_pos (show (none : Option Value).isNone = true from rfl)]
  refine wpAny_bind (wpAny_rule ?_)
  have hl₁ : h₁.IsList l items.toArray := ⟨_, k₁ _ _ hl', rfl, n, rfl⟩
  refine wpAny_bind (wpAny_pyIter_list (s := { s with heap := h₁, toks := tk₁ }) hl₁ ?_)
  have szd : s.heap.objs.size < h₁.objs.size := by
    obtain ⟨o, _, _, ho, _⟩ := hnew
    exact Heap.lt_size (k₁ _ _ ho)
  have lsz : l < s.heap.objs.size := Heap.lt_size hl
  have old : ∀ b o, s.heap.get? b = some o → (h₁.push { cls := .type "list_iterator", data := .fields #[.ref l, .int 0 0] }).get? b = some o := fun b o e => Heap.get?_push_of_some _ (k₁ b o (Heap.get?_push_of_some _ e))
  refine wpAny_pure ⟨plainId_quiet plain_dul _, ?_⟩
  refine dict_loop (knd := knd) (d := s.heap.objs.size) (I := h₁.objs.size) (l := l) (items := items.toArray) (ps := ps) (A := A.in1) hh (Nat.ne_of_lt szd) (Nat.ne_of_lt lsz) (Nat.ne_of_lt (Nat.lt_trans lsz szd)) (by simpa using hn) hsz ps.length 0 _ [] rfl (Nat.zero_le _) (Nat.le_refl _)
    ⟨_, Heap.get?_push_size _ rfl, rfl, rfl⟩ ⟨_, Heap.get?_push_of_some _ (k₁ _ _ hl'), rfl, n, rfl⟩ (let ⟨o, es, ep, ho, r⟩ := hnew; ⟨o, es, ep, Heap.get?_push_of_some _ (k₁ _ _ ho), r⟩) (fun j kv hj => ?_) (fun h' tk hm hk => ?_)
  · obtain ⟨t, key, a1, ⟨o, ho, r⟩, a3⟩ := hp j kv hj
    have tlt := Heap.lt_size ho
    exact ⟨t, key, by simpa using a1, ⟨o, old t o ho, r⟩, a3, Nat.ne_of_lt tlt, Nat.ne_of_lt (Nat.lt_trans tlt szd)⟩
  · exact ⟨rfl, h h' tk hm fun b o e => hk b o (Nat.ne_of_lt (Heap.lt_size e)) (Nat.ne_of_lt (Nat.lt_trans (Heap.lt_size e) szd)) (old b o e)⟩
end
end L2

namespace L2
open PySem PySem.Spec PyProof.Rows
abbrev IsZipK (h : Heap) (z TI TO : Addr) (T : Addr) (f1 : Bool) : Prop :=
  h.get? z = some { cls := .type "zip", dict := none, data := .fields #[rawInt T, .bool f1, .bool false, .ref TI, .ref TO], slots := #[] }
section
variable {prog : Program} {w : World} {A : Around} {E : Value → Shared → Prop} {s : Shared}
end
def PairsAt (h : Heap) (us : List Value) (xs ys : List Value) : Prop := us.length ≤ xs.length ∧ us.length ≤ ys.length ∧ ∀ (j : Nat) (u : Value), us[j]? = some u → ∃ (t : Addr) (x y : Value), u = .ref t ∧ xs[j]? = some x ∧ ys[j]? = some y ∧ IsPair h t x y
section
variable {prog : Program} {w : World} {A : Around} {R : Result → Shared → Prop}
end
section
variable {prog : Program} {w : World} {A : Around} {E : Value → Shared → Prop} {s : Shared}
end
end L2

namespace L2
open PySem PySem.Spec PyProof.Rows
section
variable {X : Cx} {pins : List (Addr × Obj)} {σ : List (Option V)} {H H' : Hp} {s : Shared} {h' : Heap}
end
section
variable {X : Cx}
def tLZ (K : PySem.W.Frag) (k1 k2 : SK) (ta : TA) : TE := fun σ H Q => ta σ H fun vs H1 => ∃ a b xs ys, vs = [.ref a, .ref b] ∧ Sq k1 K H1 a xs ∧ Sq k2 K H1 b ys ∧ xs.length = ys.length ∧ xs.length ≤ sizeLine ∧
  ∀ (p : Addr) (ts : List Addr) (H' : Hp), Ch [] H1 H' → H1 p = none → H' p = some (.lst (ts.map V.ref)) → ts.length = xs.length →
    (∀ (i : Nat) (t : Addr) (x y : V), ts[i]? = some t → xs[i]? = some x → ys[i]? = some y → H' t = some (.tup [x, y])) → Q (.ref p) H'
def adr : Value → Addr
  | .ref a => a
  | _ => 0
theorem key_of_kV {P : Program} {w : World} {k : Key} {u : Value} (r : RelV (kV k) u) : (mixKind P w).is k u = true := kV_is r
theorem call_dictP (hc : X.calm = true) : CallR X (.type "dict") (fun xs H Q => ∃ (p : Addr) (ts : List Addr) (kvs : List (Key × V)), xs = [.ref p] ∧ H p = some (.lst (ts.map V.ref)) ∧ ts.length = kvs.length ∧
    (∀ (i : Nat) (t : Addr) (kv : Key × V), ts[i]? = some t → kvs[i]? = some kv → H t = some (.tup [kV kv.1, kv.2])) ∧ (kvs.map (·.1)).Nodup ∧ kvs.length ≤ sizeLine ∧ ∀ d, H d = none → Q (.ref d) (upd H d (.dK kvs))) := by
  intro pins s σ H xs us Q I r h
  obtain ⟨p, ts, kvs, rfl, hp, hlen, hts, hnd, hz, q⟩ := h
  obtain ⟨u, rfl, ru⟩ := vals1 r
  cases ru
  obtain ⟨z, its, n, rv, e⟩ := I.hok p _ hp
  have each : ∀ (i : Nat) (kv : Key × V), kvs[i]? = some kv → ∃ (t : Addr) (ku vu : Value), its[i]? = some (.ref t) ∧ s.heap.IsTuple t #[ku, vu] ∧ RelV (kV kv.1) ku ∧ RelV kv.2 vu := by
    intro i kv ei
    have hi : i < ts.length := by rw [hlen]; exact (List.getElem?_eq_some_iff.mp ei).1
    have et : ts[i]? = some ts[i] := List.getElem?_eq_getElem hi
    obtain ⟨u, eu, ru⟩ := rv.get (i := i) (x := .ref ts[i]) (by rw [List.getElem?_map, et]; rfl)
    cases ru
    obtain ⟨_, us, r2, o, ho, hoc, no, hod⟩ := I.hok _ _ (hts i ts[i] kv et ei)
    obtain ⟨ku, vu, rfl, rk, rvv⟩ := vals2 r2
    exact ⟨ts[i], ku, vu, eu, ⟨o, ho, hoc, no, hod⟩, rk, rvv⟩
  have mk : ∀ (l : List (Key × V)) (m : Nat), (∀ (i : Nat) (kv : Key × V), l[i]? = some kv → kvs[m + i]? = some kv) → ∃ ps : List (Key × Value), KV l ps ∧
      ∀ (i : Nat) (kv : Key × Value), ps[i]? = some kv → ∃ (t : Addr) (key : Value), its[m + i]? = some (.ref t) ∧ s.heap.IsTuple t #[key, kv.2] ∧ (mixKind X.prog X.w).is kv.1 key = true := by
    intro l
    induction l with
    | nil => intro m _; exact ⟨[], .nil, fun i kv e => by simp at e⟩
    | cons kv l ih =>
      intro m hm
      obtain ⟨t, ku, vu, e1, e2, e3, e4⟩ := each m kv (by simpa using hm 0 kv rfl)
      obtain ⟨ps, h1, h2⟩ := ih (m + 1) fun i kv' e => by
        have := hm (i + 1) kv' (by simpa using e)
        rw [show m + 1 + i = m + (i + 1) by omega]; exact this
      refine ⟨(kv.1, vu) :: ps, .cons ⟨rfl, e4⟩ h1, fun i kv' e => ?_⟩
      cases i with
      | zero =>
        simp at e
        subst e
        exact ⟨t, ku, by simpa using e1, e2, key_of_kV e3⟩
      | succ i =>
        obtain ⟨t', key, f1, f2, f3⟩ := h2 i kv' (by simpa using e)
        exact ⟨t', key, by rw [show m + (i + 1) = m + 1 + i by omega]; exact f1, f2, f3⟩
  obtain ⟨ps, kv, hps⟩ := mk kvs 0 fun i kv e => by simpa using e
  have lps : kvs.length = ps.length := Paired.length kv
  have keys : ps.map (·.1) = kvs.map (·.1) := by
    clear hps mk each hts hnd hz q lps hlen
    unfold KV at kv
    induction kv with
    | nil => rfl
    | cons a _ ih => rw [List.map_cons, List.map_cons, ih, a.1]
  refine call_dict_pairs (knd := mixKind X.prog X.w) (ps := ps) (I.ok.hd hc) e (by rw [← rv.length]; simp; omega) (by omega) (fun j kv' ej => by
    have := hps j kv' ej
    simpa using this) fun h' tk hd hk => ?_
  rw [merged_nil_of_nodup ps (by rw [keys]; exact hnd)] at hd
  have hf : H s.heap.objs.size = none := I.hok.fresh (Nat.le_refl _)
  refine ⟨.ref s.heap.objs.size, upd H s.heap.objs.size (.dK kvs), I.laid (t' := tk) hk (Nat.le_refl _) ?_, rfl, q _ hf⟩
  exact ⟨hz, beq_eq_false_iff_ne.mpr (Ne.symm (Nat.ne_of_lt I.big)), ps, kv, hd⟩
theorem bools_truth {prog : Program} {w : World} {A : Around} {bs : List Bool} : TruthOf prog w A (fun i v => (bs.map fun b => Value.bool b).toArray[i]? = some v) (fun i => bs.getD i false) := by
  intro i v s Q E hP hQ
  have hP' : (bs.map fun b => Value.bool b)[i]? = some v := by simpa using hP
  rw [List.getElem?_map] at hP'
  cases e : bs[i]? with
  | none => rw [e] at hP'; cases hP'
  | some b =>
    rw [e] at hP'
    cases hP'
    have : bs.getD i false = b := by rw [List.getD_eq_getElem?_getD, e]; rfl
    have hQ : Q (bs.getD i false) s := hQ
    rw [this] at hQ
    exact wpAny_pure hQ
theorem range_all (bs : List Bool) : ((List.range bs.length).all fun i => bs.getD i false) = bs.all id := by
  rw [Bool.eq_iff_iff, List.all_eq_true, List.all_eq_true]
  constructor
  · intro h b hb
    obtain ⟨i, hi, rfl⟩ := List.mem_iff_getElem.mp hb
    have := h i (List.mem_range.mpr hi)
    rw [List.getD_eq_getElem?_getD, List.getElem?_eq_getElem hi] at this
    exact this
  · intro h i hi
    have hi := List.mem_range.mp hi
    rw [List.getD_eq_getElem?_getD, List.getElem?_eq_getElem hi]
    exact h _ (List.getElem_mem hi)
theorem vals_bools : ∀ {bs : List Bool} {its : List Value}, Vals (bs.map V.bl) its → its = bs.map fun b => Value.bool b
  | [], _, .nil => rfl
  | b :: bs, _, .cons r t => by rw [List.map_cons, vals_bools t]; cases r; rfl
theorem call_all (hc : X.calm = true) : CallR X (.builtin "all") (fun xs H Q => ∃ (p : Addr) (bs : List Bool), xs = [.ref p] ∧ H p = some (.lst (bs.map V.bl)) ∧ Q (.bl (bs.all id)) H) := by
  intro pins s σ H xs us Q I r h
  obtain ⟨p, bs, rfl, hp, q⟩ := h
  obtain ⟨u, rfl, ru⟩ := vals1 r
  cases ru
  obtain ⟨z, its, n, rv, e⟩ := I.hok p _ hp
  have ei := vals_bools rv
  subst ei
  have hl : s.heap.IsList p (bs.map fun b => Value.bool b).toArray := ⟨_, e, rfl, n, rfl⟩
  refine call_all_walk (wpAny_pyIter_list hl ?_)
  have hne : p ≠ s.heap.objs.size := Nat.ne_of_lt (Heap.lt_size e)
  refine ⟨s.heap.objs.size, _, _, _, _, _, _, rfl, Walks.list (by first | exact I.ok.hd hc | (show X.A.in1.handled = none; exact I.ok.hd hc)) s.heap.objs.size p hne (bs.map fun b => Value.bool b).toArray,
    ⟨⟨_, Heap.get?_push_size _ rfl, rfl, rfl⟩, ⟨_, Heap.get?_push_of_some _ e, rfl, n, rfl⟩⟩, bools_truth, fun h' tk hk => ?_⟩
  have sz : (bs.map fun b => Value.bool b).toArray.size = bs.length := by simp
  rw [sz, range_all]
  exact ⟨.bl (bs.all id), H, I.kept (t' := tk) fun b o eb => hk b o (by simp; exact Nat.ne_of_lt (Heap.lt_size eb)) (Heap.get?_push_of_some _ eb), rfl, q⟩
end
end L2

namespace L2
open PySem PySem.Spec PyProof.Rows
section
variable {X : Cx} {pins : List (Addr × Obj)} {σ : St} {H : Hp} {s : Shared} {A : Around} {E : Value → Shared → Prop} {Q : Value → Shared → Prop} {b : Bool}
theorem isinsts_ok {x : V} {u t : Value} {tp : Addr} {its : List Value} {o : Obj} {n : Nat} (I : Inv X pins σ H s) (rx : RelV x u) (ty : TyOf X.K H x t) (ho : s.heap.get? tp = some o) (hoc : o.cls = .type "tuple") (hod : o.data = .seq its.toArray n)
    (e : PySem.W.kitAny X.K t its = some b) (h : ∀ tk, Q (.bool b) { s with toks := tk }) :
    wpAny (model X.prog X.w) A (call (.builtin "isinstance") [u, .ref tp]) Q E s := by
  obtain ⟨c0, d0, t0, l0⟩ := o
  replace hoc : c0 = .type "tuple" := hoc
  replace hod : t0 = .seq its.toArray n := hod
  subst hoc hod
  cases ty with
  | non => cases (show u = Value.none from rx); exact PySem.W.kia_tup PySem.W.kitx_none I.kIn True.intro ho e (fun z => nomatch z) h
  | bl y => cases (show u = Value.bool y from rx); exact PySem.W.kia_tup PySem.W.kitx_bool I.kIn True.intro ho e (fun z => nomatch z) h
  | int i => obtain ⟨t, q⟩ := (show ∃ t, u = Value.int i t from rx); cases q; exact PySem.W.kia_tup PySem.W.kitx_int I.kIn True.intro ho e (fun z => nomatch z) h
  | str y => obtain ⟨t, q⟩ := (show ∃ t, u = Value.str y t from rx); cases q; exact PySem.W.kia_tup PySem.W.kitx_str I.kIn True.intro ho e (fun z => nomatch z) h
  | flt y => obtain ⟨t, q⟩ := (show ∃ t, u = Value.float y t from rx); cases q; exact PySem.W.kia_tup PySem.W.kitx_float I.kIn True.intro ho e (fun z => nomatch z) h
  | @lst a xs ea =>
    cases (show u = Value.ref a from rx)
    obtain ⟨_, _, n, _, h1⟩ := (show ObjOk X.prog X.w H s.heap a (.lst xs) from I.hok a _ ea)
    exact PySem.W.kia_tup PySem.W.kitx_list I.kIn ⟨_, h1, rfl⟩ ho e (fun z => nomatch z) h
  | @frz a ob xs ea =>
    cases (show u = Value.ref a from rx)
    obtain ⟨_, _, _, n, _, h1⟩ := (show ObjOk X.prog X.w H s.heap a (.frz ob (.lst xs)) from I.hok a _ ea)
    exact PySem.W.kia_tup PySem.W.kitx_list I.kIn ⟨_, h1, rfl⟩ ho e (fun z => nomatch z) h
  | @tup a xs ea =>
    cases (show u = Value.ref a from rx)
    obtain ⟨_, _, _, p⟩ := (show ObjOk X.prog X.w H s.heap a (.tup xs) from I.hok a _ ea)
    obtain ⟨o, h1, h2, _⟩ := p
    exact PySem.W.kia_tup PySem.W.kitx_tuple I.kIn ⟨o, h1, h2⟩ ho e (fun z => nomatch z) h
  | @dK a kvs ea =>
    cases (show u = Value.ref a from rx)
    obtain ⟨_, _, vs, _, p⟩ := (show ObjOk X.prog X.w H s.heap a (.dK kvs) from I.hok a _ ea)
    obtain ⟨o, es, ep, h1, h2, _⟩ := p
    exact PySem.W.kia_tup PySem.W.kitx_dict I.kIn ⟨o, h1, h2.1⟩ ho e (fun z => nomatch z) h
  | @dT a kvs ea =>
    cases (show u = Value.ref a from rx)
    obtain ⟨_, _, xs, _, o, es, ep, h1, h2, _⟩ := (show ObjOk X.prog X.w H s.heap a (.dT kvs) from I.hok a _ ea)
    exact PySem.W.kia_tup PySem.W.kitx_dict I.kIn ⟨o, h1, h2.1⟩ ho e (fun z => nomatch z) h
  | @ins a C dx fs ea cl ha hn htk hm =>
    cases (show u = Value.ref a from rx)
    obtain ⟨mA, O, _⟩ := ins_get I.hok ea
    obtain ⟨od, J, _⟩ := O.look
    exact PySem.W.kia_tup (PySem.W.kitx_own (cl.get _) cl.hd ha hn htk hm) I.kIn J ho e (fun z => nomatch z) h
end
def rIsTs (K : PySem.W.Frag) : List V → Hp → VK → Prop := fun xs H Q => ∃ (x : V) (p : Addr) (Ts : List String) (t : Value) (b : Bool), xs = [x, .ref p] ∧ H p = some (.tup (Ts.map V.ty)) ∧ TyOf K H x t ∧ PySem.W.kitAny K t (Ts.map Value.type) = some b ∧ Q (.bl b) H
theorem vals_tys : ∀ {Ts : List String} {us : List Value}, Vals (Ts.map V.ty) us → us = Ts.map Value.type
  | [], _, .nil => rfl
  | T :: Ts, _, .cons r t => by rw [List.map_cons, vals_tys t]; cases r; rfl
theorem call_isTs {X : Cx} : CallR X (.builtin "isinstance") (rIsTs X.K) := by
  intro pins s σ H xs us Q I r h
  obtain ⟨x, p, Ts, t, b, rfl, hp, ty, e, q⟩ := h
  obtain ⟨u, v, rfl, ru, rv⟩ := vals2 r
  cases rv
  obtain ⟨_, its, rt, o, ho, hoc, n, hod⟩ := I.hok p _ hp
  have := vals_tys rt
  subst this
  exact isinsts_ok I ru ty ho hoc hod e fun tk => ⟨.bl b, H, I.tok _, rfl, q⟩
example (K : PySem.W.Frag) : PySem.W.kitAny K (.type "list") [.type "list", .type "tuple"] = some true := rfl
example (K : PySem.W.Frag) : PySem.W.kitAny K (.type "tuple") [.type "list", .type "tuple"] = some true := rfl
example (K : PySem.W.Frag) : PySem.W.kitAny K (.type "int") [.type "list", .type "tuple"] = some false := rfl
end L2

namespace L2
open PySem PySem.Spec PyProof.Rows
structure MethOk (P : Program) (w : World) (K : PySem.W.Frag) (mg : Str → Option Value) (base : Heap) (CX : CXT) (k : Nat) (C : Addr) (m : Str) (ps : List Str) (sp : Sp) : Prop where
  cl : Cls K C
  ex : ∃ (f : Addr) (fd : FuncData), FnOk P w K mg base CX k f fd ps sp ∧ Binds K fd ps [] ∧ Meth K C m f
structure MakeOk (P : Program) (w : World) (K : PySem.W.Frag) (mg : Str → Option Value) (base : Heap) (CX : CXT) (k : Nat) (C : Addr) (x : Str) (ps : List Str) (sp : Sp) : Prop where
  ex : ∃ (f : Addr) (fd : FuncData), FnOk P w K mg base CX k f fd ps sp ∧ Binds K fd ps [] ∧ Mk K C f ∧ mg x = some (.ref C)
section
variable {X : Cx} {CX : CXT} {k : Nat} {C : Addr} {ps : List Str} {sp : Sp} {E : XK} {x m : Str} {p pos apos : Pos} {e o : Expr} {es : List Expr} {ta : TE} {t : TA}
theorem qpe_makeD (D : MakeOk X.prog X.w X.K X.mg X.base CX k C x ps sp) (hr : Room (k + 1) X.A) (hg : Gl X x) (hx : Passes CX X E)
    (ha : Pr (PA X (e :: es) t)) (hdb : (x == ("__debug__" : Str)) = false := by decide) (he : starEach (e :: es) X.env = (false, eval e X.env) :: starEach es X.env := by rfl) (hpl : (backTo pos (starEach es X.env)).any (·.1) = false := by rfl) :
    Pr (PE X (.Call (.Name x p) (e :: es) [] pos) (tMake C sp [] E t)) := by
  obtain ⟨f, fd, F, b, M, hm⟩ := D.ex
  exact ⟨pe_make M F hr hg hm b .nil hx ha.h hdb he hpl⟩
end
section
variable {X : Cx} {sc : Scope} {own : List Str} {fr : List Nat} {N' : List Str} {tg elt iter : Expr} {ifs : List Expr} {g : TG} {tt : TT} {te : TE} {wi : TI} {pos : Pos}
theorem qpif_nil : Pr (PIf X [] tYes) := ⟨pif_nil⟩
theorem qpif_one {c : Expr} {t : TT} (h : Pr (PT X c t)) : Pr (PIf X [c] t) := ⟨pif_one h.h⟩
theorem qpe_comp (hc : X.calm = true) (cs : CompOk sc X.env.scope own X.N fr N') (hi : Pr (PI X tg iter wi)) (hg : ∀ cl C s H fp, Pr (PG (cxC X sc cl N' C s H fp) tg g)) (hif : ∀ cl C s H fp, Pr (PIf (cxC X sc cl N' C s H fp) ifs tt))
    (he : ∀ cl C s H fp, Pr (PE (cxC X sc cl N' C s H fp) elt te)) (hs : ∀ x, foldedSetIterable iter X.env x = pure x := by intro _; rfl) : Pr (PE X (.ListComp elt [⟨tg, iter, ifs, 0⟩] sc pos) (tComp own.length fr wi g tt te)) :=
  ⟨pe_comp hc cs hi.h (fun a b c d e => (hg a b c d e).h) (fun a b c d e => (hif a b c d e).h) (fun a b c d e => (he a b c d e).h) hs⟩
theorem qps_setC {i : Nat} {y : Str} {py spos : Pos} (hN : X.N.Nodup) (hy : X.N[i]? = some y) (hx : Loc X.env.scope y) (hc : X.calm = true) (cs : CompOk sc X.env.scope own X.N fr N') (hi : Pr (PI X tg iter wi))
    (hg : ∀ cl C s H fp, Pr (PG (cxC X sc cl N' C s H fp) tg g)) (hif : ∀ cl C s H fp, Pr (PIf (cxC X sc cl N' C s H fp) ifs tt)) (he : ∀ cl C s H fp, Pr (PE (cxC X sc cl N' C s H fp) elt te))
    (hsw : swapsWith (.ListComp elt [⟨tg, iter, ifs, 0⟩] sc pos) (some (.Name y py)) spos.line X.env = pure true) (hfn : X.fn y = true ∨ X.env.scope.names.lookup y = some .local := by first | exact .inl rfl | exact .inr rfl | assumption) (hs : ∀ x, foldedSetIterable iter X.env x = pure x := by intro _; rfl) :
    Pr (PS X (.Assign [.Name y py] (.ListComp elt [⟨tg, iter, ifs, 0⟩] sc pos) spos) (tSetC i own.length fr wi g tt te)) :=
  ⟨ps_setC hN hy hx hc cs hi.h (fun a b c d e => (hg a b c d e).h) (fun a b c d e => (hif a b c d e).h) (fun a b c d e => (he a b c d e).h) hsw hfn hs⟩
theorem qpi_enum (k : SK) {elts : List Expr} {kk : Nat} {tpos : Pos} {a : Expr} {ta : TA} {p pos : Pos} (hg : Gl X "enumerate") (hm : X.mg "enumerate" = none) (ha : Pr (PA X [a] ta)) (hs : starEach [a] X.env = [(false, eval a X.env)] := by rfl) :
    Pr (PI X (.Tuple elts kk tpos) (.Call (.Name "enumerate" p) [a] [] pos) (iEnum X.K k ta)) := ⟨pi_enum k hg hm ha.h hs⟩
theorem qpps_nil : Pr (PPs X pos [] [] []) := ⟨pps_nil⟩
theorem qpps_cons {k v : Expr} {ks : List (Option Expr)} {vs : List Expr} {tk tv : TE} {trs : List (TE × TE)} (hk : Pr (PE X k tk)) (hv : Pr (PE X v tv)) (hr : Pr (PPs X pos ks vs trs)) : Pr (PPs X pos (some k :: ks) (v :: vs) ((tk, tv) :: trs)) := ⟨pps_cons hk.h hv.h hr.h⟩
theorem qpe_disp {keys : List (Option Expr)} {values : List Expr} {trs : List (TE × TE)} (h : Pr (PPs X pos keys values trs)) (hall : keys.all (·.isSome) = true) (hl : keys.length = values.length) (h0 : keys ≠ [])
    (h15 : keys.length ≤ 15) : Pr (PE X (.Dict keys values pos) (tDisp trs)) := ⟨pe_disp h.h hall hl h0 h15⟩
theorem qps_never {st : Stmt} : Pr (PS X st tNever) := ⟨ps_never⟩
theorem compOk {sc outer : Scope} {own N : List Str} {fr : List Nat} {N' : List Str} (h1 : sc.kind = .function) (h2 : ∀ y ∈ sc.names, y.2 ≠ .cell) (h3 : ∀ y ∈ sc.names, y.2 = .local → sc.names.lookup y.1 = some .local)
    (h4 : ∀ y ∈ sc.names, y.2 = .free → outer.names.lookup y.1 = some .cell ∨ outer.names.lookup y.1 = some .free) (h5 : N'.Nodup) (h6 : N'.map some = own.map some ++ fr.map fun j => N[j]?)
    (h7 : ∀ x ∈ fr.filterMap (fun j => N[j]?), sc.names.lookup x = some .free ∧ (outer.names.lookup x = some .cell ∨ outer.names.lookup x = some .free)) : CompOk sc outer own N fr N' :=
  ⟨h1, h2, h3, h4, h5, h6, fun j hj x hx => h7 x (List.mem_filterMap.mpr ⟨j, hj, hx⟩)⟩
end
def rIsT2 (K : PySem.W.Frag) : List V → Hp → VK → Prop := fun xs H Q => ∃ (x : V) (p : Addr) (T1 T2 : String) (t : Value) (b : Bool), xs = [x, .ref p] ∧ H p = some (.tup [.ty T1, .ty T2]) ∧ TyOf K H x t ∧ PySem.W.kitAny K t [.type T1, .type T2] = some b ∧ Q (.bl b) H
theorem call_isT2 {X : Cx} : CallR X (.builtin "isinstance") (rIsT2 X.K) := fun pins s σ H xs us Q I r h => by
  obtain ⟨x, p, T1, T2, t, b, e, hp, ty, k, q⟩ := h
  exact call_isTs pins s σ H xs us Q I r ⟨x, p, [T1, T2], t, b, e, hp, ty, k, q⟩
theorem iteD {c : Prop} [Decidable c] {A B : Prop} (hc : c) (h : A) : if decide c = true then A else B := by rw [if_pos (decide_eq_true hc)]; exact h
theorem iteNn {c : Prop} [Decidable c] {A B : Prop} (hc : c) (h : B) : if (!decide c) = true then A else B := by rw [if_neg (by simp [hc])]; exact h
def Tu (H H' : Hp) : Prop := ∀ b xs, H b = some (.tup xs) → H' b = some (.tup xs)
end L2

namespace L2
open PySem PySem.Spec PyProof.Rows
section
variable {X : Cx} {a b o e value : Expr} {es : List Expr} {f : Str} {ta tb te : TE} {pos : Pos} {tg l : Expr}
theorem ixaK_list (K : PySem.W.Frag) (hK : X.K = K) : IxR X (aIxL K) := hK ▸ ixa_list
theorem ixaK_tup (K : PySem.W.Frag) (hK : X.K = K) : IxR X (aIxT K) := hK ▸ ixa_tup
theorem callK_len_seq (K : PySem.W.Frag) (hK : X.K = K) : CallR X (.builtin "len") (fun xs H Q => ∃ p ys, xs = [.ref p] ∧ (SqL K H p ys ∨ SqT K H p ys) ∧ Q (.int ys.length) H) := hK ▸ call_len_seq
theorem opK_in_seq (K : PySem.W.Frag) (hK : X.K = K) : OpR X (compareOp .In) (rIn K false) := hK ▸ op_in_seq
theorem qpg_tupK (K : PySem.W.Frag) (n : Nat) (hK : X.K = K) {k : Nat} {t : TGs} (hc : X.calm = true) (h : Pr (PGs X es t)) (hn : (assignEach es X.env).length = n := by rfl) (hst : (assignEach es X.env).findIdx? (·.1) = none := by rfl) :
    Pr (PG X (.Tuple es k pos) (gTup K n t)) := hK ▸ ⟨pg_tup hc h.h hn hst⟩
end
end L2

namespace L2
open PySem PySem.Spec PyProof.Rows
structure Fl (h : Heap) (e C T : Addr) (fl : Value) : Prop where
  ob : ∃ oe vs, h.get? e = some oe ∧ (oe.cls = .ref C ∧ oe.dict = none) ∧ oe.data = .fields vs ∧ vs[1]? = some (.ref T) ∧ vs[2]? = some .none
  tb : ∃ oT ts, h.get? T = some oT ∧ oT.data = .fields ts ∧ ts[3]? = some fl
  ne : T ≠ e
def KB (ex fs : List Addr) (h h' : Heap) : Prop := ∀ b o, h.get? b = some o → b ∉ ex → (b ∉ fs → h'.get? b = some o) ∧ ∃ sl, h'.get? b = some { o with slots := sl }
section
variable {M : Model} {A : Around} {E : Value → Shared → Prop} {s : Shared} {base : Heap} {env : Env} {outer : List Env} {L e C T : Addr} {Q : Unit → Shared → Prop}
end
end L2

namespace L2
open PySem PySem.Spec PyProof.Rows
def CXE (P : Program) (w : World) : CXT := fun outer H s E e s' => ∃ (ea C T : Addr) (H' : Hp), e = .ref ea ∧ s'.os = s.os ∧ AllBare s'.gens ∧ Un (frs outer) [] H H' s.heap s'.heap ∧ HOk P w H' s'.heap ∧ Fl s'.heap ea C T .none ∧
  s.heap.get? ea = none ∧ s.heap.get? T = none ∧ H' ea = none ∧ H' T = none ∧ E (.ref C) none H'
section
variable {X : Cx} {pins : List (Addr × Obj)} {σ : St} {H H' : Hp} {s s' : Shared}
end
section
variable {P : Program} {w : World} {K : PySem.W.Frag} {mg : Str → Option Value} {base : Heap} {N : List Str} {qual : Str} {scope : Scope} {f : Addr} {cd : Value} {A : Around} {outer : List Env} {s₀ : Shared} {H₀ : Hp} {E : XK}
abbrev cxE (P : Program) (w : World) (K : PySem.W.Frag) (mg : Str → Option Value) (base : Heap) (N : List Str) (qual : Str) (scope : Scope) (f : Addr) (cd : Value) (A : Around) (outer : List Env) (s₀ : Shared) (H₀ : Hp) (E : XK) : Cx :=
  cxOf (CXE P w) P w K mg base N qual scope f cd A outer s₀ H₀ E
end
end L2

namespace L2
open PySem PySem.Spec PyProof.Rows
abbrev bmV : List Value := [.type "ValueError", .type "Exception", .type "BaseException", .type "object"]
def XC (K : PySem.W.Frag) (C : Addr) : Prop := PySem.W.excIn K C bmV "ValueError.__new__" = true
def tRaise (C : Addr) (E : XK) (t : TA) : TS := fun _ σ H => t σ H fun vs H1 => vs.length ≤ sizeLine ∧ E (.ref C) none H1
section
variable {P : Program} {w : World} {K : PySem.W.Frag} {mg : Str → Option Value} {base : Heap} {N : List Str} {qual : Str} {scope : Scope} {f : Addr} {cd : Value} {A : Around} {outer : List Env} {s₀ : Shared} {H₀ : Hp} {E : XK}
end
section
variable {P : Program} {w : World} {K : PySem.W.Frag} {mg : Str → Option Value} {base : Heap}
end
end L2

namespace L2
open PySem PySem.Spec PyProof.Rows
def Cx.hand (X : Cx) (v : Value) : Cx := { X with A := X.A.mark (some v), calm := false }
section
variable {X : Cx} {pins : List (Addr × Obj)} {σ : St} {H H' : Hp} {s s' : Shared} {v : Value}
def exO (a C : Addr) : HO := .ext fun h => ∃ o vs, h.get? a = some o ∧ (o.cls = .ref C ∧ o.dict = none) ∧ o.data = .fields vs ∧ vs[2]? = some .none
end
def XSub (K : PySem.W.Frag) (C CF : Addr) : Prop := (match K.lookup C with
  | some ⟨_, _, .cls cd, _⟩ => cd.mro.contains (.ref CF)
  | _ => false) = true
section
variable {M : Model} {A : Around} {E : Value → Shared → Prop} {s : Shared} {K : PySem.W.Frag} {C CF e : Addr}
end
end L2

namespace L2
open PySem PySem.Spec PyProof.Rows
abbrev XW := Value → Hp → Prop
abbrev XD := St → Value → Hp → Prop
def XE (X : Cx) (pins : List (Addr × Obj)) (σ : St) (Ew : XW) (e : Value) (s' : Shared) : Prop := ∃ H1 s1, Inv X pins σ H1 s1 ∧ CXE X.prog X.w X.stack H1 s1 (fun c _ H' => Ew c H') e s'
def XPs (X : Cx) (pins : List (Addr × Obj)) (Dx : XD) (e : Value) (s' : Shared) : Prop := ∃ σ1, XE X pins σ1 (Dx σ1) e s'
abbrev TEX := St → Hp → VK → XW → Prop
abbrev TSX := Ends → XD → St → Hp → Prop
def PEX (X : Cx) (e : Expr) (t : TEX) : Prop :=
  ∀ (pins : List (Addr × Obj)) (s : Shared) (σ : St) (H : Hp) (Q : VK) (Ew : XW), Inv X pins σ H s → t σ H Q Ew → wpAny (model X.prog X.w) X.A (eval e X.env) (EP X pins σ Q) (XE X pins σ Ew) s
def PSX (X : Cx) (st : Stmt) (t : TSX) : Prop :=
  ∀ (pins : List (Addr × Obj)) (s : Shared) (σ : St) (H : Hp) (D : Ends) (Dx : XD), Inv X pins σ H s → t D Dx σ H → wpAny (model X.prog X.w) X.A (exec st X.env) (SP X pins D) (XPs X pins Dx) s
def PSXs (X : Cx) (st : List Stmt) (t : TSX) : Prop :=
  ∀ (pins : List (Addr × Obj)) (s : Shared) (σ : St) (H : Hp) (D : Ends) (Dx : XD), Inv X pins σ H s → t D Dx σ H → wpAny (model X.prog X.w) X.A (execs st X.env) (SP X pins D) (XPs X pins Dx) s
def Nox (X : Cx) : Prop := ∀ e s, X.xe e s → False
def tCallX (sp : Sp) (t : TA) : TEX := fun σ H Q Ew => t σ H fun vs H1 => sp vs H1 Q fun c _ H' => Ew c H'
def tMethX (C : Addr) (m : Str) (sp : Sp) (ta : TE) (t : TA) : TEX := fun σ H Q Ew => ta σ H fun x H1 => ∃ a dx fs, x = .ref a ∧ H1 a = some (.ins C dx fs) ∧ fs.lookup m = none ∧ t σ H1 fun vs H2 => sp (x :: vs) H2 Q fun c _ H' => Ew c H'
def tDropX (t : TEX) : TSX := fun D Dx σ H => t σ H (fun _ H1 => D.nx σ H1) (Dx σ)
def tIfX (tc : TT) (a b : TSX) : TSX := fun D Dx σ H => tc σ H fun c H1 => if c = true then a D Dx σ H1 else b D Dx σ H1
section
variable {X : Cx} {k : Nat} {f C : Addr} {fd : FuncData} {ps : List Str} {sp : Sp} {x m : Str} {p pos apos : Pos} {e o : Expr} {es : List Expr} {ta : TE} {t : TA}
end
def tTry (K : PySem.W.Frag) (CF : Addr) (i : Nat) (tb : TSX) (ts : Addr → TS) : TS := fun D σ H => tb D (fun σ1 c H' => ∃ C, c = .ref C ∧ XC K C ∧ XSub K C CF ∧ ∀ ea, H' ea = none →
  ts ea { nx := fun σ2 H2 => D.nx (σ2.set i none) H2, rt := D.rt, bk := fun σ2 H2 => D.bk (σ2.set i none) H2, ct := fun σ2 H2 => D.ct (σ2.set i none) H2 } (σ1.set i (some (.ref ea))) (upd H' ea (exO ea C))) σ H
section
variable {X : Cx}
end
end L2

namespace L2
open PySem PySem.Spec PyProof.Rows
section
variable {prog : Program} {w : World} {A : Around} {E : Value → Shared → Prop} {s : Shared}
end
def ItrH (ea : Addr) (lo : Int) (n : Nat) : It := ⟨fun i _ => i < n, fun i H x H' => H' = H ∧ x = .int (lo + i), fun i H => n ≤ i ∧ ∃ C, H ea = some (exO ea C)⟩
def PIG (G : Cx → Prop) (X : Cx) (tg iter : Expr) (wi : TI) : Prop :=
  ∀ (pins : List (Addr × Obj)) (s : Shared) (σ : St) (H : Hp) (R : It → Hp → Prop), Inv X pins σ H s → wi σ H R →
    wpAny (model X.prog X.w) X.A (eval iter X.env) (fun v s1 => wpAny (model X.prog X.w) X.A (pyIter v) (fun itv s2 => ∃ (it : Addr) (fp : List Addr) (tn : Nat → Heap → Prop) (J : It) (H' : Hp), itv = .ref it ∧ Inv X pins σ H' s2 ∧ TurnX G X.prog X.w X.K tg J fp it tn ∧ tn 0 s2.heap ∧ (∀ b ∈ fp, FpOk X pins H' b) ∧ R J H') X.xe s1) X.xe s
def iRngH (ea : Addr) (ta : TA) : TI := fun σ H R => ta σ H fun vs H1 => ∃ j : Int, vs = [.int j] ∧ -(2 ^ 62) ≤ j ∧ j < 2 ^ 62 ∧ R (ItrH ea 0 j.toNat) H1
section
variable {X : Cx} {tg : Expr}
end
end L2

namespace L2
open PySem PySem.Spec PyProof.Rows PySem.W
structure XA (K : PySem.W.Frag) (C : Addr) : Prop where
  xc : XC K C
  ga : findIn K (.ref C) "__getattribute__" = some (some (.builtin "BaseException.__getattribute__"))
  gt : findIn K (.ref C) "__getattr__" = some none
  cl : findIn K (.ref C) "__class__" = some (some (.builtin "object.__class__"))
  sg : specialIn K (.builtin "object.__class__") "__get__" = some (some (.builtin "getset_descriptor.__get__"))
  tk : takesIn K (.builtin "object.__class__") = some true
  mo : mroIn K C (.type "object") = some true
  cs : (clsIn K C).isSome = true
section
variable {prog : Program} {w : World} {A : Around} {E : Value → Shared → Prop} {s : Shared} {K : Frag} {x C : Addr} {ox : Obj}
end
def rIsX (K : Frag) : List V → Hp → VK → Prop := fun xs H Q => ∃ (ea C : Addr) (c : V) (b : Bool), xs = [.ref ea, c] ∧ H ea = some (exO ea C) ∧ XA K C ∧ ((∃ CF, c = .ref CF ∧ kitOne K (.ref C) (.ref CF) = some b) ∨ ∃ T, c = .ty T ∧ kitOne K (.ref C) (.type T) = some b) ∧ Q (.bl b) H
end L2

namespace L2
open PySem PySem.Spec PyProof.Rows
structure RoomH (ea : Addr) (k : Nat) (A : Around) : Prop where
  hd : A.handled = some (.ref ea)
  dp : A.depth + 3 * k + 5 < recursionLimit
  un : A.units + 16 * k + 200 < cLine
structure FnOkH (P : Program) (w : World) (K : PySem.W.Frag) (mg : Str → Option Value) (base : Heap) (k : Nat) (f : Addr) (fd : FuncData) (ps : List Str) (sp : Addr → Sp) : Prop where
  len : ∀ ea vs H Q E, sp ea vs H Q E → vs.length = ps.length
  run : ∀ (ea : Addr) (A : Around) (outer : List Env) (s : Shared) (H : Hp) (args : Args) (us : List Value) (vs : List V) (Q : VK), RoomH ea k A → Env0 P w K mg base A outer s H → BindsTo s fd args (ps.zip us) → Vals vs us → sp ea vs H Q E0 →
    codeAny (model P w) A (.call (.ref f) args) (CR CX0 outer P w H s Q E0) s
structure DefOkH (P : Program) (w : World) (K : PySem.W.Frag) (mg : Str → Option Value) (base : Heap) (k : Nat) (x : Str) (ps : List Str) (sp : Addr → Sp) : Prop where
  ex : ∃ (f : Addr) (fd : FuncData), FnOkH P w K mg base k f fd ps sp ∧ Binds K fd ps [] ∧ PySem.W.keepIn K (.ref f) = true ∧ mg x = some (.ref f)
def tCallH (ea : Addr) (sp : Addr → Sp) (t : TA) : TE := fun σ H Q => t σ H fun vs H1 => sp ea vs H1 Q E0
section
variable {X : Cx} {k : Nat} {x : Str} {ps : List Str} {p pos : Pos} {e : Expr} {es : List Expr} {t : TA}
end
def cxH (P : Program) (w : World) (K : PySem.W.Frag) (mg : Str → Option Value) (base : Heap) (N : List Str) (qual : Str) (scope : Scope) (f : Addr) (cd : Value) (A : Around) (outer : List Env) (s : Shared) (H : Hp) : Cx :=
  { cxOf CX0 P w K mg base N qual scope f cd { A with handled := none } outer s H E0 with A := A.deeper (envOfC qual scope s.heap.objs.size f cd), calm := false, xe := fun _ _ => False }
section
variable {X : Cx} {sc : Scope} {own : List Str} {fr : List Nat} {N' : List Str} {tg elt iter : Expr} {ifs : List Expr} {g : TG} {tt : TT} {te : TE} {wi : TI} {pos : Pos} {G : Cx → Prop}
end
section
variable {X : Cx}
end
end L2

namespace L2
open PySem PySem.Spec PyProof.Rows PySem.SeqAt
section
variable {X : Cx}
end
def Itv (K : PySem.W.Frag) (a : Addr) (xs : List V) : It :=
  ⟨fun i H => SqL K H a xs ∧ i < xs.length, fun i H x H' => H' = H ∧ xs.reverse[i]? = some x, fun i H => SqL K H a xs ∧ xs.length ≤ i⟩
section
variable {X : Cx} {tg : Expr}
def iRev (K : PySem.W.Frag) (ta : TA) : TI := fun σ H R => ta σ H fun vs H1 => ∃ a xs, vs = [.ref a] ∧ SqL K H1 a xs ∧ R (Itv K a xs) H1
end
def Eq0 (x y : V) : Prop := x = y ∧ ((∃ i, x = .int i) ∨ ∃ a, x = .ref a)
def Eq1 (H : Hp) (x y : V) : Prop := ∃ (p q : Addr) (zs : List V), x = .ref p ∧ y = .ref q ∧ p ≠ q ∧ H p = some (.lst zs) ∧ H q = some (.lst zs) ∧ ∀ z ∈ zs, Eq0 z z
section
variable {X : Cx}
def rNeL : R2 := fun x y H Q => ∃ (a b : Addr) (xs ys : List V), x = .ref a ∧ y = .ref b ∧ H a = some (.lst xs) ∧ H b = some (.lst ys) ∧ xs.length = ys.length ∧ (∀ (i : Nat) (x y : V), xs[i]? = some x → ys[i]? = some y → Eq1 H x y) ∧ Q (.bl false) H
end
end L2

namespace L2
open PySem PySem.Spec PyProof.Rows PySem.SeqAt
def Sca (x : V) : Prop := (∃ i, x = .int i) ∨ ∃ t, x = .str t
structure ScaL (xs : List V) : Prop where
  h : ∀ z ∈ xs, Sca z
theorem dec_beq {α : Type} [BEq α] [LawfulBEq α] [DecidableEq α] (a b : α) : (a == b) = decide (a = b) := by
  by_cases h : a = b
  · subst h; simp
  · rw [decide_eq_false h]; exact beq_eq_false_iff_ne.mpr h
theorem sca_at {A : Around} {s : Shared} {x y : V} {u v : Value} (hx : Sca x) (hy : Sca y) (ru : RelV x u) (rv : RelV y v) : EqAt A s u v (decide (x = y)) := by
  rcases hx with ⟨i, rfl⟩ | ⟨i, rfl⟩ <;> rcases hy with ⟨j, rfl⟩ | ⟨j, rfl⟩ <;> obtain ⟨t, rfl⟩ := ru <;> obtain ⟨t', rfl⟩ := rv
  · have := EqAt.int_int (A := A) (s := s) i t j t'
    rw [dec_beq] at this
    rwa [show decide (V.int i = V.int j) = decide (i = j) from by by_cases h : i = j <;> simp [h]]
  · rw [show decide (V.int i = V.str j) = false from by simp]
    exact EqAt.int_str i t j t'
  · rw [show decide (V.str i = V.int j) = false from by simp]
    exact EqAt.str_int i t j t'
  · have := EqAt.str_str (A := A) (s := s) i t j t'
    rw [show decide (V.str i = V.str j) = (i == j) from by
      by_cases h : i = j
      · subst h; simp
      · rw [decide_eq_false (fun z => h (V.str.inj z))]; exact (beq_eq_false_iff_ne.mpr h).symm]
    exact this
theorem all_at {xs ys : List V} : ((List.range (min xs.length ys.length)).all (fun j => decide (xs[j]? = ys[j]?)) && xs.length == ys.length) = decide (xs = ys) := by
  by_cases h : xs = ys
  · subst h
    simp
  · rw [decide_eq_false h]
    by_cases hl : xs.length = ys.length
    · rw [Bool.and_eq_false_iff]
      refine .inl ?_
      rw [List.all_eq_false]
      refine Classical.byContradiction fun z => h (List.ext_getElem? fun j => ?_)
      by_cases hj : j < xs.length
      · refine Classical.byContradiction fun y => z ⟨j, List.mem_range.mpr (by omega), by simpa using y⟩
      · rw [List.getElem?_eq_none (by omega), List.getElem?_eq_none (by omega)]
    · rw [Bool.and_eq_false_iff]
      exact .inr (beq_eq_false_iff_ne.mpr hl)
theorem sca_pair {A : Around} {s : Shared} {xs ys : List V} {us vs : List Value} (hx : ScaL xs) (hy : ScaL ys) (ru : Vals xs us) (rv : Vals ys vs) (j : Nat) (h1 : j < us.toArray.size) (h2 : j < vs.toArray.size) :
    EqAt A s us.toArray[j] vs.toArray[j] (decide (xs[j]? = ys[j]?)) := by
  have l1 := ru.length
  have l2 := rv.length
  have h1' : j < us.length := by simpa using h1
  have h2' : j < vs.length := by simpa using h2
  have gx : xs[j]? = some (xs[j]'(by omega)) := List.getElem?_eq_getElem (by omega)
  have gy : ys[j]? = some (ys[j]'(by omega)) := List.getElem?_eq_getElem (by omega)
  obtain ⟨w1, hw1, r1⟩ := ru.get gx
  obtain ⟨w2, hw2, r2⟩ := rv.get gy
  have k1 : us.toArray[j] = w1 := by
    have := List.getElem?_eq_getElem h1'
    rw [hw1] at this
    simpa using (Option.some.inj this).symm
  have k2 : vs.toArray[j] = w2 := by
    have := List.getElem?_eq_getElem h2'
    rw [hw2] at this
    simpa using (Option.some.inj this).symm
  rw [k1, k2, gx, gy]
  have e : decide (some (xs[j]'(by omega)) = some (ys[j]'(by omega))) = decide (xs[j]'(by omega) = ys[j]'(by omega)) := by
    by_cases h : (xs[j]'(by omega)) = (ys[j]'(by omega)) <;> simp [h]
  rw [e]
  exact sca_at (hx.h _ (List.getElem_mem _)) (hy.h _ (List.getElem_mem _)) r1 r2
section
variable {X : Cx}
def rEqT : R2 := fun x y H Q => ∃ (a b : Addr) (xs ys : List V), x = .ref a ∧ y = .ref b ∧ H a = some (.tup xs) ∧ H b = some (.tup ys) ∧ ScaL xs ∧ ScaL ys ∧ Q (.bl (decide (xs = ys))) H
def rNeT : R2 := fun x y H Q => ∃ (a b : Addr) (xs ys : List V), x = .ref a ∧ y = .ref b ∧ H a = some (.tup xs) ∧ H b = some (.tup ys) ∧ ScaL xs ∧ ScaL ys ∧ Q (.bl (!decide (xs = ys))) H
theorem op_eqT (hu : X.A.units + 64 < cLine) : OpR X (compareOp .Eq) rEqT := by
  intro pins s σ H x y v u Q I rx ry h
  obtain ⟨a, b, xs, ys, rfl, rfl, ha, hb, hx, hy, q⟩ := h
  cases rx
  cases ry
  obtain ⟨z, its, rv, t1⟩ := I.hok a _ ha
  obtain ⟨z2, its2, rv2, t2⟩ := I.hok b _ hb
  have key := RcAt.tuples (A := X.A) (s := s) t1 t2 (by omega) (sca_pair hx hy rv rv2)
  have e : ((List.range (min its.toArray.size its2.toArray.size)).all (fun j => decide (xs[j]? = ys[j]?)) && its.toArray.size == its2.toArray.size) = decide (xs = ys) := by
    rw [← all_at, List.size_toArray, List.size_toArray, ← rv.length, ← rv2.length]
  rw [e] at key
  exact key X.prog X.w X.xe _ ⟨.bl _, H, I, rfl, q⟩
def rEqS : R2 := fun x y H Q => ∃ (a b : Addr) (xs ys : List V), x = .ref a ∧ y = .ref b ∧ H a = some (.lst xs) ∧ H b = some (.lst ys) ∧ ScaL xs ∧ ScaL ys ∧ Q (.bl (decide (xs = ys))) H
def rNeS : R2 := fun x y H Q => ∃ (a b : Addr) (xs ys : List V), x = .ref a ∧ y = .ref b ∧ H a = some (.lst xs) ∧ H b = some (.lst ys) ∧ ScaL xs ∧ ScaL ys ∧ Q (.bl (!decide (xs = ys))) H
def rInN : R2 := fun x y H Q => ∃ (b : Addr) (ys : List V), x = .non ∧ y = .ref b ∧ H b = some (.lst ys) ∧ (∀ z ∈ ys, ∃ p, z = .ref p ∧ ((∃ zs, H p = some (.lst zs)) ∨ ∃ zs, H p = some (.tup zs))) ∧ Q (.bl false) H
end
end L2


namespace L2
open PySem PySem.W PyProof.Rows
structure Pm (n : Nat) (p : Array Nat) : Prop where
  perm : p.toList.Perm (List.range n)
theorem Pm.size {n : Nat} {p : Array Nat} (P : Pm n p) : p.size = n := by
  have := P.perm.length_eq
  simpa using this
theorem Pm.some {n : Nat} {p : Array Nat} (P : Pm n p) {i : Nat} (h : i < n) : p[i]? = some (p.getD i 0) := by
  have hs : i < p.size := by rw [P.size]; exact h
  simp [Array.getD, hs]
theorem Pm.lt {n : Nat} {p : Array Nat} (P : Pm n p) {i : Nat} (h : i < n) : p.getD i 0 < n := by
  have hm : p.getD i 0 ∈ p.toList := by
    have := P.some h
    exact Array.mem_def.mp (Array.mem_of_getElem? this)
  exact List.mem_range.mp (P.perm.mem_iff.mp hm)
theorem Pm.inj {n : Nat} {p : Array Nat} (P : Pm n p) {i j : Nat} (hi : i < n) (hj : j < n) (e : p.getD i 0 = p.getD j 0) : i = j := by
  have nd : p.toList.Nodup := P.perm.nodup_iff.mpr List.nodup_range
  have a := P.some hi
  have b := P.some hj
  rw [e] at a
  have hi' : i < p.toList.length := by rw [Array.length_toList, P.size]; exact hi
  have hj' : j < p.toList.length := by rw [Array.length_toList, P.size]; exact hj
  have ea : p.toList[i]? = p.toList[j]? := by rw [Array.getElem?_toList, Array.getElem?_toList, a, b]
  exact (List.getElem?_inj hi' nd).mp ea
theorem Pm.of {n : Nat} {p q : Array Nat} (P : Pm n p) (h : q.Perm p) : Pm n q := ⟨(Array.perm_iff_toList_perm.mp h).trans P.perm⟩
section
variable {n : Nat} {L : Nat → Nat → Prop} [DecidableRel L] {cmp : Nat → Nat → (Bool → Shared → Prop) → Shared → Prop} {s : Shared}
def lR (L : Nat → Nat → Prop) (p : Array Nat) (i j : Nat) : Prop := L (p.getD i 0) (p.getD j 0)
instance lR_dec (p : Array Nat) (i j : Nat) : Decidable (lR L p i j) := inferInstanceAs (Decidable (L (p.getD i 0) (p.getD j 0)))
def Up (L : Nat → Nat → Prop) (p : Array Nat) (m : Nat) : Prop := ∀ i j, i < j → j < m → lR L p i j
def Dn (L : Nat → Nat → Prop) (p : Array Nat) (m : Nat) : Prop := ∀ i j, i < j → j < m → lR L p j i
structure Ord (n : Nat) (L : Nat → Nat → Prop) [DecidableRel L] (cmp : Nat → Nat → (Bool → Shared → Prop) → Shared → Prop) (s : Shared) : Prop where
  tr : ∀ {i j k}, L i j → L j k → L i k
  tot : ∀ i j, i < n → j < n → i ≠ j → ¬ L i j → L j i
  ask : ∀ i j C, i < n → j < n → C (decide (L i j)) s → cmp i j C s
theorem Ord.or (o : Ord n L cmp s) {p : Array Nat} (P : Pm n p) {i j : Nat} (hi : i < n) (hj : j < n) (h : i ≠ j) (z : ¬ lR L p i j) : lR L p j i := o.tot _ _ (P.lt hi) (P.lt hj) (fun e => h (P.inj hi hj e)) z
theorem Ord.two (o : Ord n L cmp s) {p : Array Nat} (P : Pm n p) {i j : Nat} (hi : i < n) (hj : j < n) {C : Bool → Shared → Prop} (h : C (decide (lR L p i j)) s) : cmp (p.getD i 0) (p.getD j 0) C s := o.ask _ _ _ (P.lt hi) (P.lt hj) h
theorem Ord.tr' (o : Ord n L cmp s) {p : Array Nat} {i j k : Nat} (a : lR L p i j) (b : lR L p j k) : lR L p i k := o.tr a b
theorem wp_asc (o : Ord n L cmp s) {p : Array Nat} (P : Pm n p) {Q : Nat → Shared → Prop} : ∀ (f m : Nat), 1 ≤ m → m + f ≤ n → Up L p m → (∀ m', m ≤ m' → m' ≤ m + f → Up L p m' → (m' = m + f ∨ lR L p m' (m' - 1)) → Q m' s) → (kas_asc p f m).kasWp cmp Q s
  | 0, m, h1, hn, u, q => q m (Nat.le_refl _) (Nat.le_refl _) u (.inl rfl)
  | f + 1, m, h1, hn, u, q => by
    show cmp (p.getD m 0) (p.getD (m - 1) 0) _ s
    refine o.two P (by omega) (by omega) ?_
    by_cases h : lR L p m (m - 1)
    · rw [decide_eq_true h]
      exact q m (Nat.le_refl _) (by omega) u (.inr h)
    · rw [decide_eq_false h]
      refine wp_asc o P f (m + 1) (by omega) (by omega) (fun i j hij hj => ?_) fun m' a b c d => q m' (by omega) (by omega) c (by rcases d with d | d; exact .inl (by omega); exact .inr d)
      by_cases ej : j = m
      · subst ej
        have h2 : lR L p (j - 1) j := o.or P (i := j) (j := j - 1) (by omega) (by omega) (by omega) h
        by_cases ei : i = j - 1
        · rw [ei]; exact h2
        · exact o.tr' (u i (j - 1) (by omega) (by omega)) h2
      · exact u i j hij (by omega)
theorem wp_desc (o : Ord n L cmp s) {p : Array Nat} (P : Pm n p) {Q : Array Nat × Nat × Nat → Shared → Prop} : ∀ (f m : Nat), 1 ≤ m → m + f ≤ n → Dn L p m → (∀ m', m ≤ m' → m' ≤ m + f → Dn L p m' → Q (p, m', 0) s) → (kas_desc f p m 0).kasWp cmp Q s
  | 0, m, h1, hn, u, q => q m (Nat.le_refl _) (Nat.le_refl _) u
  | f + 1, m, h1, hn, u, q => by
    show cmp (p.getD m 0) (p.getD (m - 1) 0) _ s
    refine o.two P (by omega) (by omega) ?_
    by_cases h : lR L p m (m - 1)
    · rw [decide_eq_true h]
      refine wp_desc o P f (m + 1) (by omega) (by omega) (fun i j hij hj => ?_) fun m' a b c => q m' (by omega) (by omega) c
      by_cases ej : j = m
      · subst ej
        by_cases ei : i = j - 1
        · rw [ei]; exact h
        · exact o.tr' h (u i (j - 1) (by omega) (by omega))
      · exact u i j hij (by omega)
    · rw [decide_eq_false h]
      show cmp (p.getD (m - 1) 0) (p.getD m 0) _ s
      refine o.two P (by omega) (by omega) ?_
      have h2 : lR L p (m - 1) m := o.or P (i := m) (j := m - 1) (by omega) (by omega) (by omega) h
      rw [decide_eq_true h2]
      exact q m (Nat.le_refl _) (by omega) u
theorem rev_at {p : Array Nat} {m k : Nat} (hm : m ≤ p.size) (hk : k < m) : (kas_rev p 0 m).getD k 0 = p.getD (m - 1 - k) 0 := by
  have h := getElem?_mirror_all (xs := p) (i := 0) hm k
  rw [if_pos ⟨Nat.zero_le _, hk⟩, Nat.zero_add] at h
  show (mirror p 0 m ((m - 0) / 2)).getD k 0 = _
  rw [Array.getD_eq_getD_getElem?, Array.getD_eq_getD_getElem?, h]
theorem rev_pm {p : Array Nat} (P : Pm n p) (m : Nat) : Pm n (kas_rev p 0 m) := P.of (mirror_perm _ _ _ _)
theorem rev_up {p : Array Nat} {m : Nat} (hm : m ≤ p.size) (d : Dn L p m) : Up L (kas_rev p 0 m) m := fun i j hij hj => by
  unfold lR
  rw [rev_at hm (by omega), rev_at hm hj]
  exact d (m - 1 - j) (m - 1 - i) (by omega) (by omega)
theorem wp_tail3 (o : Ord n L cmp s) {p : Array Nat} (P : Pm n p) {m : Nat} {Q : Nat × Array Nat → Shared → Prop} (h1 : 1 ≤ m) (hm : m ≤ n) (d : Dn L p m) (q : ∀ m' p', Pm n p' → 1 ≤ m' → m' ≤ n → Up L p' m' → Q (m', p') s) : (kas_tail3 m n p).kasWp cmp Q s := by
  unfold kas_tail3
  rw [KasT.kasWp_bind]
  refine wp_asc o (rev_pm P m) (n - m) m h1 (by omega) (rev_up (by rw [P.size]; exact hm) d) fun m' a b u _ => ?_
  exact q m' _ (rev_pm P m) (by omega) (by omega) u
theorem wp_descPart (o : Ord n L cmp s) {p : Array Nat} (P : Pm n p) {m : Nat} {Q : Nat × Array Nat → Shared → Prop} (h1 : 1 ≤ m) (hm : m + 1 ≤ n) (d : Dn L p (m + 1)) (q : ∀ m' p', Pm n p' → 1 ≤ m' → m' ≤ n → Up L p' m' → Q (m', p') s) : (kas_descPart m n p).kasWp cmp Q s := by
  unfold kas_descPart
  rw [KasT.kasWp_bind]
  refine wp_desc o P (n - (m + 1)) (m + 1) (by omega) (by omega) d fun m' a b d' => ?_
  show (if (0 : Nat) > 0 then _ else kas_tail3 m' n p).kasWp cmp Q s
  rw [if_neg (Nat.lt_irrefl 0)]
  exact wp_tail3 o P (by omega) (by omega) d' q
theorem wp_count (o : Ord n L cmp s) {p : Array Nat} (P : Pm n p) {Q : Nat × Array Nat → Shared → Prop} (hn : 1 ≤ n) (q : ∀ m' p', Pm n p' → 1 ≤ m' → m' ≤ n → Up L p' m' → Q (m', p') s) : (kas_count n p).kasWp cmp Q s := by
  unfold kas_count
  rw [KasT.kasWp_bind]
  refine wp_asc o P (n - 1) 1 (Nat.le_refl _) (by omega) (fun i j a b => by omega) fun m a b u e => ?_
  show (if (m == n) = true then KasT.ret (m, p) else if m > 1 then _ else kas_descPart m n p).kasWp cmp Q s
  by_cases h : m = n
  · rw [if_pos (by simp [h])]
    exact q m p P (by omega) (by omega) u
  · rw [if_neg (by simp [h])]
    by_cases h1 : m > 1
    · rw [if_pos h1]
      show cmp (p.getD 0 0) (p.getD (m - 1) 0) _ s
      refine o.two P (by omega) (by omega) ?_
      rw [decide_eq_true (u 0 (m - 1) (by omega) (by omega))]
      exact q m p P (by omega) (by omega) u
    · rw [if_neg h1]
      have e1 : m = 1 := by omega
      subst e1
      have e : lR L p 1 0 := by rcases e with e | e; exact absurd e (by omega); exact e
      refine wp_descPart o P (Nat.le_refl _) (by omega) (fun i j hij hj => ?_) q
      have : i = 0 := by omega
      have : j = 1 := by omega
      subst i j
      exact e
theorem wp_place (o : Ord n L cmp s) {p : Array Nat} (P : Pm n p) {k : Nat} (hk : k < n) (u : Up L p k) {Q : Nat → Shared → Prop} : ∀ (f l r : Nat), l ≤ r → r ≤ k → r - l ≤ f → (∀ i, i < l → lR L p i k) → (∀ i, r ≤ i → i < k → lR L p k i) →
    (∀ l', l' ≤ k → (∀ i, i < l' → lR L p i k) → (∀ i, l' ≤ i → i < k → lR L p k i) → Q l' s) → (kas_place p k f l r).kasWp cmp Q s
  | 0, l, r, h1, h2, h3, a, b, q => q l (by omega) a fun i x y => b i (by omega) y
  | f + 1, l, r, h1, h2, h3, a, b, q => by
    unfold kas_place
    by_cases h : l ≥ r
    · rw [if_pos h]
      exact q l (by omega) a fun i x y => b i (by omega) y
    · rw [if_neg h]
      show cmp (p.getD k 0) (p.getD ((l + r) / 2) 0) _ s
      refine o.two P hk (by omega) ?_
      by_cases hc : lR L p k ((l + r) / 2)
      · rw [decide_eq_true hc]
        refine wp_place o P hk u f l ((l + r) / 2) (by omega) (by omega) (by omega) a (fun i x y => ?_) q
        by_cases ei : i = (l + r) / 2
        · rw [ei]; exact hc
        · exact o.tr' hc (u _ i (by omega) y)
      · rw [decide_eq_false hc]
        refine wp_place o P hk u f ((l + r) / 2 + 1) r (by omega) (by omega) (by omega) (fun i x => ?_) b q
        have h2 : lR L p ((l + r) / 2) k := o.or P (i := k) (j := (l + r) / 2) hk (by omega) (by omega) hc
        by_cases ei : i = (l + r) / 2
        · rw [ei]; exact h2
        · exact o.tr' (u i _ (by omega) (by omega)) h2
theorem bub_at {p : Array Nat} {k l i : Nat} (hk : k < p.size) (hl : l ≤ k) : (bubble p k (k - l)).getD i 0 = if i = l then p.getD k 0 else if l < i ∧ i ≤ k then p.getD (i - 1) 0 else p.getD i 0 := by
  have h := getElem?_bubble hk (k - l) (by omega) i
  rw [show k - (k - l) = l from by omega] at h
  rw [Array.getD_eq_getD_getElem?, h]
  by_cases e1 : i = l
  · rw [if_pos e1, if_pos e1, ← Array.getD_eq_getD_getElem?]
  · rw [if_neg e1, if_neg e1]
    by_cases e2 : l < i ∧ i ≤ k
    · rw [if_pos e2, if_pos e2, ← Array.getD_eq_getD_getElem?]
    · rw [if_neg e2, if_neg e2, ← Array.getD_eq_getD_getElem?]
theorem wp_bin (o : Ord n L cmp s) {Q : Array Nat → Shared → Prop} : ∀ (f : Nat) (p : Array Nat) (k : Nat), 1 ≤ k → k + f = n → Pm n p → Up L p k → (∀ p', Pm n p' → Up L p' n → Q p' s) → (kas_bin f p k).kasWp cmp Q s
  | 0, p, k, h1, hn, P, u, q => q p P ((show k = n by omega) ▸ u)
  | f + 1, p, k, h1, hn, P, u, q => by
    unfold kas_bin
    rw [KasT.kasWp_bind]
    refine wp_place o P (by omega) u k 0 k (Nat.zero_le _) (Nat.le_refl _) (by omega) (fun i h => by omega) (fun i a b => by omega) fun l hl a b => ?_
    refine wp_bin o f _ (k + 1) (by omega) (by omega) (P.of (bubble_perm _ _ _)) (fun i j hij hj => ?_) q
    have hk : k < p.size := by rw [P.size]; omega
    unfold lR
    rw [bub_at hk hl, bub_at hk hl]
    have A : ∀ i, i < l → L (p.getD i 0) (p.getD k 0) := a
    have B : ∀ i, l ≤ i → i < k → L (p.getD k 0) (p.getD i 0) := b
    have U : ∀ i j, i < j → j < k → L (p.getD i 0) (p.getD j 0) := u
    obtain ⟨g, hg⟩ : ∃ g : Nat → Nat, ∀ i, p.getD i 0 = g i := ⟨fun i => p.getD i 0, fun _ => rfl⟩
    simp only [hg] at A B U ⊢
    clear hg
    repeat' split
    all_goals first | (exfalso; omega) | (apply A; omega) | (apply B <;> omega) | (apply U <;> omega)
theorem wp_sort (o : Ord n L cmp s) {Q : Array Nat → Shared → Prop} (hn : 1 ≤ n) (q : ∀ p', Pm n p' → Up L p' n → Q p' s) : (kas_sort n).kasWp cmp Q s := by
  unfold kas_sort
  rw [KasT.kasWp_bind]
  refine wp_count o ⟨by simp⟩ hn fun m p P h1 hm u => ?_
  show (if m < n then kas_bin (n - max m 1) p (max m 1) else .ret p).kasWp cmp Q s
  by_cases h : m < n
  · rw [if_pos h, Nat.max_eq_left h1]
    exact wp_bin o (n - m) p m h1 (by omega) P u q
  · rw [if_neg h]
    exact q p P ((show m = n by omega) ▸ u)
end
end L2

namespace L2
open PySem PySem.W PyProof.Rows PySem.Calls
def KeptBut (a : Addr) (h h' : Heap) : Prop := ∀ b o, b ≠ a → h.get? b = some o → h'.get? b = some o
section
variable {prog : Program} {w : World} {A : Around} {E : Value → Shared → Prop} {s : Shared} {a : Addr} {vs : List Value} {κ : SortKind} {L : Nat → Nat → Prop} [DecidableRel L]
theorem srt_list {n : Nat} {P : PySem.Fin → Shared → Prop} (ho : s.heap.get? a = some (seqObj "list" vs.toArray n)) (h2 : 2 ≤ vs.length) (h64 : vs.length < 64)
    (tr : ∀ {i j k}, L i j → L j k → L i k) (tot : ∀ i j, i < vs.length → j < vs.length → i ≠ j → ¬ L i j → L j i)
    (kind : ∀ (h' : Heap) (C : SortKind → Shared → Prop), KeptBut a s.heap h' → C κ { s with heap := h' } → wpAny (model prog w) A (keyKind' vs.toArray) C (fun _ _ => False) { s with heap := h' })
    (ask : ∀ (h' : Heap) (i j : Nat) (C : Bool → Shared → Prop), KeptBut a s.heap h' → i < vs.length → j < vs.length → C (decide (L i j)) { s with heap := h' } → wpAny (model prog w) A (keyLt' κ (vs.getD i Value.none) (vs.getD j Value.none)) C (fun _ _ => False) { s with heap := h' })
    (k : ∀ (p : Array Nat) (c : Nat) (h' : Heap), Pm vs.length p → Up L p vs.length → KeptBut a s.heap h' → h'.get? a = some (seqObj "list" (List.toArray (p.toList.map fun i => vs.getD i Value.none)) c) → P (.done (.ret .none)) { s with heap := h' }) :
    wpAny (model prog w) A (Builtin.«list.sort» ⟨[.ref a], []⟩) P E s := by
  have ha : a < s.heap.objs.size := Heap.lt_size ho
  have s1 := Heap.SameBut.update s.heap a (Obj.mapSeq fun _ => (#[] : Array Value))
  obtain ⟨e1, ho1⟩ : ∃ e1, (s.heap.update a (Obj.mapSeq fun _ => (#[] : Array Value))).get? a = some (seqObj "list" #[] e1) := ⟨_, get?_update_seq ho fun _ => #[]⟩
  have kb : KeptBut a s.heap (((s.heap.update a (Obj.mapSeq fun _ => (#[] : Array Value))).push (seqObj "tuple" vs.toArray 0)).push (seqObj "list" #[] 0)) := fun b o nb e =>
    Heap.get?_push_of_some _ (Heap.get?_push_of_some _ (by rw [Heap.get?_update_ne _ _ _ _ nb]; exact e))
  have na := Heap.get?_push_of_some (seqObj "list" #[] 0) (Heap.get?_push_of_some (seqObj "tuple" vs.toArray 0) ho1)
  generalize hh : ((s.heap.update a (Obj.mapSeq fun _ => (#[] : Array Value))).push (seqObj "tuple" vs.toArray 0)).push (seqObj "list" #[] 0) = g at kb na
  rw [list_sort_plain]
  refine wpAny_bind (listItems_at ho rfl ?_)
  refine wpAny_bind (listUpdate_at ho rfl ?_ (by rw [List.size_toArray, sizeLine_eq]; omega) (Nat.zero_le _))
  refine wpAny_bind (seqEpoch_at ho1 rfl ?_)
  refine wpAny_bind (wpAny_newTuple ?_ (by show vs.length ≤ _; rw [sizeLine_eq]; omega))
  refine wpAny_bind (wpAny_newList ?_ (Nat.zero_le _))
  refine wpAny_holding ?_
  show wpAny (model prog w) A _ P E { s with heap := ((s.heap.update a (Obj.mapSeq fun _ => (#[] : Array Value))).push (seqObj "tuple" vs.toArray 0)).push (seqObj "list" #[] 0) }
  rw [hh]
  dsimp only
  have hn2 : ¬ vs.toArray.size < 2 := by rw [List.size_toArray]; omega
  rw [if_neg hn2, if_neg hn2]
  refine wpAny_bind (wpAny_mono (kind g (fun κ' s0 => κ' = κ ∧ s0 = { s with heap := g }) kb ⟨rfl, rfl⟩) (fun κ' s0 hk => ?_) fun _ _ x => x.elim)
  obtain ⟨rfl, rfl⟩ := hk
  have o : Ord vs.length L (kas_ask prog w A κ' vs) { s with heap := g } := ⟨tr, tot, fun i j C hi hj hC => ask g i j C kb hi hj hC⟩
  refine wpAny_bind (wpAny_mono (kat_run (Q := fun st' s' => ∃ p : Array Nat, p.size = vs.length ∧ arrOf st' = p.map (kas_item (vs.toArray.zip vs.toArray)) ∧ failedOf st' = none ∧ Pm vs.length p ∧ Up L p vs.length ∧ s' = { s with heap := g })
    (G := fun p s' => Pm vs.length p ∧ Up L p vs.length ∧ s' = { s with heap := g }) rfl h2 h64 (fun p' st' s' a1 a2 a3 a4 => ⟨p', a1, a2, a3, a4⟩) (wp_sort o (by omega) fun p' P' U' => ⟨P', U', rfl⟩)) ?_ fun _ _ e => e)
  rintro ⟨⟨⟩, st'⟩ s' ⟨p, hp, har, hf, Pp, Up', rfl⟩
  dsimp only
  have hout := kat_snds rfl har
  have hsz : (List.toArray (p.toList.map fun i => vs.getD i Value.none)).size = vs.length := by rw [List.size_toArray, List.length_map, Array.length_toList, hp]
  rw [hout]
  obtain ⟨c2, hc2⟩ : ∃ c2, (g.update a (Obj.mapSeq fun _ => List.toArray (p.toList.map fun i => vs.getD i Value.none))).get? a = some (seqObj "list" (List.toArray (p.toList.map fun i => vs.getD i Value.none)) c2) := ⟨_, get?_update_seq na fun _ => List.toArray (p.toList.map fun i => vs.getD i Value.none)⟩
  refine wpAny_bind (seqEpoch_at na rfl ?_)
  refine wpAny_bind (listUpdate_at na rfl ?_ (Nat.zero_le _) (Nat.le_trans (Nat.le_of_eq hsz) (by rw [sizeLine_eq]; omega)))
  rw [hf]
  simp only [bne_self_eq_false, Bool.false_eq_true, if_false]
  refine wpAny_pure (k p c2 _ Pp Up' (fun b ob nb e => ?_) hc2)
  rw [Heap.get?_update_ne _ _ _ _ nb]
  exact kb b ob nb e
end
end L2

namespace L2
open PySem PySem.W PyProof.Rows PySem.SeqAt
def kLt : Key → Key → Prop
  | .inl a, .inl b => a < b
  | .inr x, .inr y => x.cps.toList < y.cps.toList
  | _, _ => False
instance kLt_dec : (a b : Key) → Decidable (kLt a b)
  | .inl a, .inl b => inferInstanceAs (Decidable (a < b))
  | .inr x, .inr y => inferInstanceAs (Decidable (x.cps.toList < y.cps.toList))
  | .inl _, .inr _ => isFalse id
  | .inr _, .inl _ => isFalse id
def kLex : List Key → List Key → Prop
  | k :: ks, k' :: ks' => if k = k' then kLex ks ks' else kLt k k'
  | _, _ => False
instance kLex_dec : (a b : List Key) → Decidable (kLex a b)
  | k :: ks, k' :: ks' => by
    unfold kLex
    by_cases h : k = k'
    · rw [if_pos h]; exact kLex_dec ks ks'
    · rw [if_neg h]; exact kLt_dec k k'
  | [], [] => isFalse id
  | [], _ :: _ => isFalse id
  | _ :: _, [] => isFalse id
theorem kLt_irrefl (a : Key) : ¬ kLt a a := by
  cases a with
  | inl a => exact Int.lt_irrefl a
  | inr x => exact List.lt_irrefl _
theorem kLt_trans {a b c : Key} (h : kLt a b) (h' : kLt b c) : kLt a c := by
  cases a <;> cases b <;> cases c <;> first | exact h.elim | exact h'.elim | exact Int.lt_trans h h' | exact List.lt_trans h h'
theorem str_ext {x y : Str} (h : x.cps.toList = y.cps.toList) : x = y := by
  cases x; cases y
  congr 1
  exact Array.toList_inj.mp h
theorem kLt_tot {a b : Key} (hs : a.isLeft = b.isLeft) (hn : a ≠ b) (h : ¬ kLt a b) : kLt b a := by
  cases a with
  | inl a =>
    cases b with
    | inl b =>
      have h1 : ¬ a < b := h
      have h2 : a ≠ b := fun z => hn (by rw [z])
      show b < a
      omega
    | inr y => cases hs
  | inr x =>
    cases b with
    | inl b => cases hs
    | inr y =>
      have h1 : ¬ x.cps.toList < y.cps.toList := h
      show y.cps.toList < x.cps.toList
      refine Classical.byContradiction fun z => hn ?_
      rw [str_ext (List.le_antisymm (List.not_lt.mp z) (List.not_lt.mp h1))]
theorem kLex_trans : ∀ {a b c : List Key}, kLex a b → kLex b c → kLex a c
  | x :: a, y :: b, z :: c, h, h' => by
    unfold kLex at h h' ⊢
    by_cases e : x = y
    · subst e
      rw [if_pos rfl] at h
      by_cases e2 : x = z
      · subst e2
        rw [if_pos rfl] at h' ⊢
        exact kLex_trans h h'
      · rw [if_neg e2] at h' ⊢
        exact h'
    · rw [if_neg e] at h
      by_cases e2 : y = z
      · subst e2
        rw [if_neg e]
        exact h
      · rw [if_neg e2] at h'
        have := kLt_trans h h'
        rw [if_neg (fun z => kLt_irrefl x (by rw [← z] at this; exact this))]
        exact this
  | [], _, _, h, _ => h.elim
  | _ :: _, [], _, h, _ => h.elim
  | _ :: _, _ :: _, [], _, h => h.elim
theorem kLex_tot : ∀ {a b : List Key}, a.map Sum.isLeft = b.map Sum.isLeft → a ≠ b → ¬ kLex a b → kLex b a
  | [], [], _, hn, _ => absurd rfl hn
  | x :: a, y :: b, hs, hn, h => by
    have hs : x.isLeft = y.isLeft ∧ a.map Sum.isLeft = b.map Sum.isLeft := by simpa using hs
    unfold kLex at h ⊢
    by_cases e : x = y
    · subst e
      rw [if_pos rfl] at h ⊢
      exact kLex_tot hs.2 (fun z => hn (by rw [z])) h
    · rw [if_neg e] at h
      rw [if_neg (fun z => e z.symm)]
      exact kLt_tot hs.1 e h
  | [], _ :: _, hs, _, _ => by simp at hs
  | _ :: _, [], hs, _, _ => by simp at hs
theorem kV_sca (k : Key) : Sca (kV k) := by
  cases k with
  | inl i => exact .inl ⟨i, rfl⟩
  | inr x => exact .inr ⟨x, rfl⟩
section
variable {prog : Program} {w : World} {A : Around} {E : Value → Shared → Prop} {s : Shared}
theorem one_lt {k k' : Key} {u v : Value} (c : Bool) {Q : Bool → Shared → Prop} (ru : RelV (kV k) u) (rv : RelV (kV k') v) (hs : k.isLeft = k'.isLeft) (q : Q (decide (kLt k k')) s) : wpAny (model prog w) A (oneLt' c u v) Q (fun _ _ => False) s := by
  cases k with
  | inl i =>
    cases k' with
    | inr y => cases hs
    | inl j =>
      obtain ⟨t, rfl⟩ := ru
      obtain ⟨t', rfl⟩ := rv
      cases c with
      | true => exact oneLt_int q
      | false => exact kat_one _ _ (lt_int q)
  | inr x =>
    cases k' with
    | inl y => cases hs
    | inr y =>
      obtain ⟨t, rfl⟩ := ru
      obtain ⟨t', rfl⟩ := rv
      cases c with
      | true => exact kas_lt_str (Q := Q) (E := fun _ _ => False) q
      | false => exact kat_one _ _ (lt_str q)
theorem lex_keys {b : Bool} {Q : Bool → Shared → Prop} : ∀ {ks ks' : List Key} {us vs : List Value} (i : Nat), Vals (ks.map kV) us → Vals (ks'.map kV) vs → ks.map Sum.isLeft = ks'.map Sum.isLeft → Q (decide (kLex ks ks')) s → KatLex prog w A b false Q (us.zip vs) i s
  | [], [], _, _, i, .nil, .nil, _, q => by
    refine kat_nil ?_
    rwa [show decide (kLex [] []) = false from rfl] at q
  | k :: ks, k' :: ks', _, _, i, .cons r rs, .cons r' rs', hs, q => by
    have hs : k.isLeft = k'.isLeft ∧ ks.map Sum.isLeft = ks'.map Sum.isLeft := by simpa using hs
    refine kat_cons (sca_at (kV_sca k) (kV_sca k') r r' prog w _ _ ?_)
    by_cases e : k = k'
    · subst e
      rw [decide_eq_true rfl]
      refine kat_yes (lex_keys (i + 1) rs rs' hs.2 ?_)
      rwa [show decide (kLex (k :: ks) (k :: ks')) = decide (kLex ks ks') from by simp [kLex]] at q
    · rw [decide_eq_false (fun z => e (kV_inj z))]
      refine kat_no (one_lt _ r r' hs.1 ?_)
      rwa [show decide (kLex (k :: ks) (k' :: ks')) = decide (kLt k k') from by simp [kLex, e]] at q
  | [], _ :: _, _, _, _, _, _, hs, _ => by simp at hs
  | _ :: _, [], _, _, _, _, _, hs, _ => by simp at hs
end
end L2

namespace L2
open PySem PySem.W PyProof.Rows
structure DAt (h : Heap) (d : Addr) (es : Array DictEntry) (ep : Nat) : Prop where
  ex : ∃ o, h.get? d = some o ∧ o.ExactDict ∧ o.data = .dict es ep
theorem DAt.at {h h' : Heap} {d : Addr} {es : Array DictEntry} {ep : Nat} (m : DAt h d es ep) (k : ∀ o, h.get? d = some o → h'.get? d = some o) : DAt h' d es ep := let ⟨o, e, r⟩ := m.ex; ⟨o, k o e, r⟩
theorem DAt.ty {s : Shared} {d : Addr} {es : Array DictEntry} {ep : Nat} (m : DAt s.heap d es ep) : s.TypeIs (.ref d) "dict" := let ⟨o, e, r, _⟩ := m.ex; ⟨o, e, r.1⟩
def kitO (d : Addr) (i n ep : Nat) : Obj := { cls := .type "dict_keyiterator", data := .fields #[.ref d, .int i 0, .int n 0, .int ep 0] }
section
variable {prog : Program} {w : World} {A : Around} {E : Value → Shared → Prop} {s : Shared} {d it : Addr} {es : Array DictEntry} {ep i : Nat}
theorem di_iter {Q : Value → Shared → Prop} (hd : (d == sysModules) = false) (m : DAt s.heap d es ep) (q : Q (.ref s.heap.objs.size) { s with heap := s.heap.push (kitO d 0 es.size ep) }) : wpAny (model prog w) A (pyIter (.ref d)) Q E s := by
  obtain ⟨o, ho, hc, hdat⟩ := m.ex
  refine wpAny_pyIter_slot m.ty F.slot_dict_iter (wpAny_call_entry F.slot_dict_iter m.ty F.entry_dict_iter ?_ (F.args_dict_iter_1 _))
  unfold Builtin.«dict.__iter__» Builtin.Dict.dictSlotNone Builtin.Dict.showsAll
  refine wpAny_bind (wpAny_bind (wpAny_notOrdered_dict m.ty (wpAny_pure ?_)))
  refine wpAny_bind (m := Builtin.Dict.addrOf (.ref d)) (wpAny_pure ?_)
  rw [if_neg (by rw [hd]; simp)]
  refine wpAny_bind (wpAny_pure (wpAny_bind (wpAny_dictEntries ho hdat (wpAny_bind (wpAny_dictEpoch ho hdat ?_)))))
  exact wpAny_bind (wpAny_newObj_type (wpAny_pure ⟨_, rfl, "dict_keyiterator", _, ⟨_, Heap.get?_push_size _ rfl, rfl⟩, F.slot_dict_keyiterator_next.lookup, by simpa [rawInt, kitO] using q⟩))
theorem kit_ty (hit : s.heap.get? it = some (kitO d i es.size ep)) : s.TypeIs (.ref it) "dict_keyiterator" := ⟨_, hit, rfl⟩
theorem di_next {Q : Option Value → Shared → Prop} (hit : s.heap.get? it = some (kitO d i es.size ep)) (m : DAt s.heap d es ep) (hi : i < es.size)
    (q : ∀ h', h'.get? it = some (kitO d (i + 1) es.size ep) → Heap.SameBut it s.heap h' → Q (some (es[i]).key) { s with heap := h' }) : wpAny (model prog w) A (pyNext (.ref it)) Q E s := by
  obtain ⟨od, hod, hcd, hdd⟩ := m.ex
  have T := kit_ty hit
  unfold pyNext
  refine wpAny_bind (wpAny_attempt (wpAny_callSpecial?_slot (name := Str.ofString "__next__") T F.slot_dict_keyiterator_next (wpAny_call_entry F.slot_dict_keyiterator_next T F.entry_dict_keyiterator_next ?_ (F.args_dict_keyiterator_next_1 _))))
  refine wpAny_bind (wpAny_pure (wpAny_bind (wpAny_bind ?_)))
  refine wpAny_bind (wpAny_typeNameOfWhole_keyiter T (wpAny_pure (wpAny_bind (wpAny_fieldsOf hit rfl ?_))))
  simp only [show Builtin.Dict_items.ownsTuple "dict_keyiterator" = false from by decide, Bool.false_eq_true, if_false]
  show wpAny _ _ (if (Value.ref d == Value.none) = true then _ else _) _ _ s
  rw [if_neg (by intro z; cases z)]
  refine wpAny_bind (wpAny_pure (wpAny_bind (wpAny_dictEntries hod hdd ?_)))
  rw [if_neg (by simp)]
  refine wpAny_bind (wpAny_pure (wpAny_bind (wpAny_dictEpoch hod hdd ?_)))
  rw [if_neg (by simp)]
  refine wpAny_pure ?_
  simp only [show ¬ ((i : Int) < 0) from by omega, if_false, Int.toNat_natCast, Array.getElem?_eq_getElem hi]
  refine wpAny_bind (wpAny_bind (wpAny_typeNameOfWhole_keyiter T (wpAny_pure (wpAny_bind (wpAny_isOneOf_keyiter T ?_)))))
  show wpAny _ _ (setField (.ref it) 1 (rawInt ((i : Int) + 1)) >>= _) _ _ s
  refine wpAny_bind (wpAny_setField hit rfl (by simp) ?_)
  have g2 : (s.heap.update it (Obj.mapFields (·.setIfInBounds 1 (rawInt ((i : Int) + 1))))).get? it = some (kitO d (i + 1) es.size ep) := by
    rw [Heap.get?_update_self _ hit (Obj.isFreed_of_fields (Obj.data_mapFields rfl _))]
    rfl
  refine wpAny_bind (wpAny_holding (wpAny_bind (wpAny_isOneOf_keyiter (s := { s with heap := s.heap.update it (Obj.mapFields (·.setIfInBounds 1 (rawInt ((i : Int) + 1)))) }) (kit_ty g2) ?_)))
  exact wpAny_pure (wpAny_pure ⟨_, rfl, wpAny_pure (q _ g2 (Heap.SameBut.update ..))⟩)
theorem di_end {Q : Option Value → Shared → Prop} (hh : A.handled = none) (hit : s.heap.get? it = some (kitO d es.size es.size ep)) (m : DAt s.heap d es ep)
    (q : ∀ h', Heap.ExtBut it s.heap h' → Q none { s with heap := h' }) : wpAny (model prog w) A (pyNext (.ref it)) Q E s := by
  obtain ⟨od, hod, hcd, hdd⟩ := m.ex
  have T := kit_ty hit
  unfold pyNext
  refine wpAny_bind (wpAny_attempt (wpAny_callSpecial?_slot (name := Str.ofString "__next__") T F.slot_dict_keyiterator_next (wpAny_call_entry F.slot_dict_keyiterator_next T F.entry_dict_keyiterator_next ?_ (F.args_dict_keyiterator_next_1 _))))
  refine wpAny_bind (wpAny_pure (wpAny_bind (wpAny_bind ?_)))
  refine wpAny_bind (wpAny_typeNameOfWhole_keyiter T (wpAny_pure (wpAny_bind (wpAny_fieldsOf hit rfl ?_))))
  simp only [show Builtin.Dict_items.ownsTuple "dict_keyiterator" = false from by decide, Bool.false_eq_true, if_false]
  show wpAny _ _ (if (Value.ref d == Value.none) = true then _ else _) _ _ s
  rw [if_neg (by intro z; cases z)]
  refine wpAny_bind (wpAny_pure (wpAny_bind (wpAny_dictEntries hod hdd ?_)))
  rw [if_neg (by simp)]
  refine wpAny_bind (wpAny_pure (wpAny_bind (wpAny_dictEpoch hod hdd ?_)))
  rw [if_neg (by simp)]
  refine wpAny_pure ?_
  simp only [show ¬ ((es.size : Int) < 0) from by omega, if_false, Int.toNat_natCast, Array.getElem?_eq_none (Nat.le_refl es.size)]
  refine wpAny_bind (wpAny_bind (wpAny_typeNameOfWhole_keyiter T (wpAny_pure ?_)))
  show wpAny _ _ (setField (.ref it) 0 .none >>= _) _ _ s
  refine wpAny_bind (wpAny_setField hit rfl (by simp) ?_)
  show wpAny _ _ (newExc (.type "StopIteration") [] >>= _) _ _ _
  simp only [newExc, newTuple]
  refine wpAny_bind (wpAny_bind (wpAny_newObj_type ?_ (by size_fits)))
  refine wpAny_bind (m := firstArgMember _ _) (wpAny_of_eq (a := Value.none) (by first | rfl | (simp only [firstArgMember]; rfl)) (wpAny_newObj_type ?_ (by size_fits)))
  simp only [raiseNew]
  refine wpAny_bind (wpAny_handled ?_)
  rw [show A.in1.handled = none from hh]
  refine wpAny_bind (wpAny_pure (wpAny_throw ?_))
  refine wpAny_bind (wpAny_isInstance (T := "StopIteration") (b := true) ⟨_, Heap.get?_push_size _ rfl, rfl⟩ isSubtype_stop ?_)
  exact wpAny_pure (q _ (((Heap.SameBut.update ..).extBut.push _).push _))
end
section
variable {prog : Program} {w : World} {A : Around} {R : Result → Shared → Prop} {d it S : Addr} {es : Array DictEntry} {ep : Nat}
theorem ext_dict (hh : A.handled = none) (n1 : S ≠ it) (n2 : S ≠ d) (n3 : it ≠ d) (hsz : es.size ≤ sizeLine) (res : Value) (g : Heap) : ∀ (k i : Nat) (s : Shared) (c : Nat), es.size - i = k → i ≤ es.size →
    s.heap.get? it = some (kitO d i es.size ep) → DAt s.heap d es ep → s.heap.get? S = some { cls := .type "list", data := .seq ((es.toList.take i).map (·.key)).toArray c } →
    (∀ b o, b ≠ it → b ≠ S → g.get? b = some o → s.heap.get? b = some o) →
    (∀ (h' : Heap) (c' : Nat), h'.get? S = some { cls := .type "list", data := .seq (es.toList.map (·.key)).toArray c' } → (∀ b o, b ≠ it → b ≠ S → g.get? b = some o → h'.get? b = some o) → R (.ok (.ret res)) { s with heap := h' }) →
    codeAny (model prog w) A (.builtin "list.extend.loop" ⟨[.ref S, .ref it, res], []⟩) R s := by
  intro k
  induction k with
  | zero =>
    intro i s c hk hi hit m hS hg hR
    have e : i = es.size := by omega
    subst e
    refine codeAny_builtin F.entry_extend_loop ?_
    rw [Around.under_plainId F.plain_extend_loop _]
    show wpAny _ A.in1 (pyNext (.ref it) >>= _) _ _ s
    refine wpAny_bind (di_end (by exact hh) hit m fun h' x => wpAny_pure (hR h' c ?_ fun b o b1 b2 e => x b o b1 (hg b o b1 b2 e)))
    rw [x S _ n1 hS, List.take_of_length_le (by simp)]
  | succ k ih =>
    intro i s c hk hi hit m hS hg hR
    have hlt : i < es.size := by omega
    refine codeAny_builtin F.entry_extend_loop ?_
    rw [Around.under_plainId F.plain_extend_loop _]
    show wpAny _ A.in1 (pyNext (.ref it) >>= _) _ _ s
    refine wpAny_bind (di_next hit m hlt fun h' a b => ?_)
    have hS' : h'.get? S = some { cls := .type "list", data := .seq ((es.toList.take i).map (·.key)).toArray c } := (b.2 S n1).trans hS
    refine wpAny_bind (wpAny_updateSeq hS' rfl (wpAny_pure ⟨plainId_quiet F.plain_extend_loop _, ?_⟩) (by simp; omega) (by simp; omega))
    have oth : ∀ b o, b ≠ S → h'.get? b = some o → (h'.update S (Obj.mapSeq (·.push es[i].key))).get? b = some o := fun b o hb e => (Heap.get?_update_other _ _ (Ne.symm hb)).trans e
    have hS2 := Heap.get?_update_self (Obj.mapSeq (·.push es[i].key)) hS' rfl
    have ea : ((es.toList.take (i + 1)).map (·.key)).toArray = ((es.toList.take i).map (·.key)).toArray.push es[i].key := by
      rw [List.take_add_one, show es.toList[i]? = some es[i] from by simp [hlt]]
      simp
    refine ih (i + 1) _ _ (by omega) hlt (oth _ _ (Ne.symm n1) a) (m.at fun o e => oth _ o (Ne.symm n2) ((b.2 d (Ne.symm n3)).trans e)) (by rw [ea]; exact hS2) (fun x o x1 x2 e => oth x o x2 ((b.2 x x1).trans (hg x o x1 x2 e))) hR
end
end L2

namespace L2
open PySem PySem.W PyProof.Rows
section
variable {prog : Program} {w : World} {A : Around} {E : Value → Shared → Prop} {s : Shared} {d : Addr} {es : Array DictEntry} {ep : Nat}
theorem col_dict {Q : List Value → Shared → Prop} (hh : A.handled = none) (hd : (d == sysModules) = false) (m : DAt s.heap d es ep) (hsz : es.size ≤ sizeLine)
    (q : ∀ h', (∀ b o, s.heap.get? b = some o → h'.get? b = some o) → s.heap.objs.size < h'.objs.size → Q (es.toList.map (·.key)) { s with heap := h' }) : wpAny (model prog w) A (collect (.ref d)) Q E s := by
  have dlt : d < s.heap.objs.size := let ⟨o, e, _⟩ := m.ex; Heap.lt_size e
  have nSd : s.heap.objs.size ≠ d := Nat.ne_of_gt dlt
  have nSI : s.heap.objs.size ≠ s.heap.objs.size + 1 := Nat.ne_of_lt (Nat.lt_succ_self _)
  have nId : s.heap.objs.size + 1 ≠ d := Nat.ne_of_gt (Nat.lt_succ_of_lt dlt)
  unfold collect
  refine wpAny_bind (wpAny_runValue (codeAny_builtin entry_proto_collect' ?_))
  show wpAny _ _ (do again (.builtin "list.__iadd__" ⟨[← newList [], .ref d], []⟩)) _ _ s
  refine wpAny_bind (wpAny_newList (wpAny_pure ⟨Code.quiet_builtin _ (by decide +kernel), codeAny_builtin entry_list_iadd' ?_⟩))
  show wpAny _ _ (Builtin.List.listExtendWith (.ref s.heap.objs.size) (.ref d) (.ref s.heap.objs.size)) _ _ { s with heap := s.heap.push (seqObj "list" #[] 0) }
  unfold Builtin.List.listExtendWith
  have k1 : ∀ b o, s.heap.get? b = some o → (s.heap.push (seqObj "list" #[] 0)).get? b = some o := fun b o e => Heap.get?_push_of_some _ e
  have S1 : (s.heap.push (seqObj "list" #[] 0)).get? s.heap.objs.size = some (seqObj "list" #[] 0) := Heap.get?_push_size _ rfl
  have z1 : (s.heap.push (seqObj "list" #[] 0)).objs.size = s.heap.objs.size + 1 := size_push' _ _
  generalize hg1 : s.heap.push (seqObj "list" #[] 0) = g1 at k1 S1 z1 ⊢
  have m1 : DAt g1 d es ep := m.at fun o e => k1 d o e
  refine wpAny_bind (wpAny_typeOf (T := "dict") (DAt.ty (s := { s with heap := g1 }) m1) ?_)
  have e1 : Builtin.List.listSameRef (.ref s.heap.objs.size) (.ref d) = false := by simp [Builtin.List.listSameRef, nSd]
  have e2 : (Value.type "dict" == Value.type "list") = false := by decide
  have e3 : (Value.type "dict" == Value.type "tuple") = false := by decide
  simp only [e1, e2, e3, Bool.or_false, Bool.false_eq_true, if_false]
  refine wpAny_bind (di_iter (s := { s with heap := g1 }) hd m1 ?_)
  have k2 : ∀ b o, g1.get? b = some o → (g1.push (kitO d 0 es.size ep)).get? b = some o := fun b o e => Heap.get?_push_of_some _ e
  have I2 : (g1.push (kitO d 0 es.size ep)).get? g1.objs.size = some (kitO d 0 es.size ep) := Heap.get?_push_size _ rfl
  show wpAny _ _ (holding [Value.ref g1.objs.size] _ >>= _) _ _ { s with heap := g1.push (kitO d 0 es.size ep) }
  rw [z1] at I2 ⊢
  generalize g1.push (kitO d 0 es.size ep) = g2 at k2 I2 ⊢
  have m2 : DAt g2 d es ep := m1.at fun o e => k2 d o e
  refine wpAny_bind (wpAny_holding (kdl_hint_dict (DAt.ty (s := { s with heap := g2 }) m2) ?_))
  show wpAny _ _ (rule "list.extend.makes-room" >>= fun _ => Builtin.List.listTouch (.ref s.heap.objs.size) >>= fun _ => again (.builtin "list.extend.loop" ⟨[.ref s.heap.objs.size, .ref (s.heap.objs.size + 1), .ref s.heap.objs.size], []⟩)) _ _ _
  refine wpAny_bind (wpAny_rule (wpAny_bind ?_))
  have S2 := k2 _ _ S1
  refine wpAny_bind (listUpdate_at S2 rfl ?_ (Nat.zero_le _) (by simp [sizeLine_eq]))
  obtain ⟨c3, S3⟩ : ∃ c3, (g2.update s.heap.objs.size (Obj.mapSeq (·.push Value.none))).get? s.heap.objs.size = some (seqObj "list" #[Value.none] c3) := ⟨_, get?_update_seq S2 (·.push Value.none)⟩
  refine listUpdate_at S3 rfl ?_ (by simp [sizeLine_eq]) (by simp [sizeLine_eq])
  obtain ⟨c4, S4⟩ : ∃ c4, ((g2.update s.heap.objs.size (Obj.mapSeq (·.push Value.none))).update s.heap.objs.size (Obj.mapSeq (·.pop))).get? s.heap.objs.size = some (seqObj "list" #[] c4) := ⟨_, get?_update_seq S3 (·.pop)⟩
  have k4 : ∀ b o, b ≠ s.heap.objs.size → g2.get? b = some o → ((g2.update s.heap.objs.size (Obj.mapSeq (·.push Value.none))).update s.heap.objs.size (Obj.mapSeq (·.pop))).get? b = some o :=
    fun b o nb e => (Heap.get?_update_other _ _ (Ne.symm nb)).trans ((Heap.get?_update_other _ _ (Ne.symm nb)).trans e)
  generalize (g2.update s.heap.objs.size (Obj.mapSeq (·.push Value.none))).update s.heap.objs.size (Obj.mapSeq (·.pop)) = g4 at S4 k4 ⊢
  refine wpAny_pure ⟨plainId_quiet F.plain_extend_loop _, ?_⟩
  refine ext_dict (S := s.heap.objs.size) (it := s.heap.objs.size + 1) (d := d) (es := es) (ep := ep) (by exact hh) nSI nSd nId hsz _ s.heap es.size 0 _ c4 rfl (Nat.zero_le _) (k4 _ _ (Ne.symm nSI) I2) (m2.at fun o e => k4 d o (Ne.symm nSd) e) S4
    (fun b o b1 b2 e => k4 b o b2 (k2 b o (k1 b o e))) fun h' c' hS hk => ?_
  refine wpAny_bind (wpAny_load hS ?_)
  exact wpAny_pure (q h' (fun b o e => hk b o (Nat.ne_of_lt (Nat.lt_succ_of_lt (Heap.lt_size e))) (Nat.ne_of_lt (Heap.lt_size e)) e) (Heap.lt_size hS))
end
end L2

namespace L2
open PySem PySem.W PyProof.Rows
def TKey (h : Heap) (k : List Key) (v : Value) : Prop := ∃ (p : Addr) (us : List Value), v = .ref p ∧ h.IsTuple p us.toArray ∧ Vals (k.map kV) us
abbrev TKs (h : Heap) : List (List Key) → List Value → Prop := Paired (TKey h)
theorem TKs.get {h : Heap} : ∀ {ks : List (List Key)} {vs : List Value} {i : Nat} {k : List Key}, TKs h ks vs → ks[i]? = some k → ∃ v, vs[i]? = some v ∧ TKey h k v
  | _, _, _, _, .nil, e => by simp at e
  | _, _, 0, _, .cons r _, e => by simp at e; subst e; exact ⟨_, rfl, r⟩
  | _, _, i + 1, _, .cons _ t, e => by
    obtain ⟨v, a, b⟩ := TKs.get t (i := i) (by simpa using e)
    exact ⟨v, by simpa using a, b⟩
theorem paired_get {Φ : List Key → Value → Prop} : ∀ {ks : List (List Key)} {vs : List Value} {i : Nat} {k : List Key}, Paired Φ ks vs → ks[i]? = some k → ∃ v, vs[i]? = some v ∧ Φ k v
  | _, _, _, _, .nil, e => by simp at e
  | _, _, 0, _, .cons r _, e => by simp at e; subst e; exact ⟨_, rfl, r⟩
  | _, _, i + 1, _, .cons _ t, e => by
    obtain ⟨v, a, b⟩ := paired_get t (i := i) (by simpa using e)
    exact ⟨v, by simpa using a, b⟩
theorem tks_len {h : Heap} {ks : List (List Key)} {vs : List Value} (r : TKs h ks vs) : ks.length = vs.length := Paired.length r
theorem kats {g h : Heap} {b0 : Bool} {t0 : List Bool} (kp : ∀ b o, g.get? b = some o → h.get? b = some o) : ∀ {ks : List (List Key)} {vs : List Value}, TKs g ks vs → (∀ k ∈ ks, k.map Sum.isLeft = b0 :: t0) →
    ∃ fs, fs.length = vs.length ∧ KatTups h vs fs ∧ ∀ f ∈ fs, ∃ k0 : Key, k0.isLeft = b0 ∧ RelV (kV k0) f
  | _, _, .nil, _ => ⟨[], rfl, .nil, by simp⟩
  | k :: ks, v :: vs, .cons r t, hs => by
    obtain ⟨fs, e1, e2, e3⟩ := kats kp t fun x hx => hs x (by simp [hx])
    obtain ⟨p, us, rfl, ⟨o, ho, hc, n, hd⟩, rv⟩ := r
    have hk := hs k (by simp)
    cases k with
    | nil => cases hk
    | cons k0 kr =>
      have hk0 : k0.isLeft = b0 := by have := hk; simp at this; exact this.1
      cases rv with
      | @cons x f xs fr r0 rr =>
        exact ⟨f :: fs, by simp [e1], .cons (kp p o ho) hc hd (by simp) e2, fun y hy => by
          rcases List.mem_cons.mp hy with rfl | hy
          · exact ⟨k0, hk0, r0⟩
          · exact e3 y hy⟩
section
variable {prog : Program} {w : World} {A : Around} {E : Value → Shared → Prop} {s : Shared} {a : Addr} {vs : List Value} {ks : List (List Key)} {g : Heap}
theorem key_kind {h : Heap} {b0 : Bool} {t0 : List Bool} {C : SortKind → Shared → Prop} (kp : ∀ b o, g.get? b = some o → h.get? b = some o) (r : TKs g ks vs) (hs : ∀ k ∈ ks, k.map Sum.isLeft = b0 :: t0) (hn : 0 < vs.length) (q : C (tuples' true) { s with heap := h }) :
    wpAny (model prog w) A (keyKind' vs.toArray) C (fun _ _ => False) { s with heap := h } := by
  obtain ⟨fs, e1, e2, e3⟩ := kats kp r hs
  cases b0 with
  | true =>
    refine kat_kind (s := { s with heap := h }) (T := .type "int") e2 (by omega) (fun f hf => ?_) (by decide) q
    obtain ⟨k0, hk, rk⟩ := e3 f hf
    cases k0 with
    | inl i => obtain ⟨t, rfl⟩ := rk; exact Looks.of_pure rfl
    | inr x => cases hk
  | false =>
    refine kat_kind (s := { s with heap := h }) (T := .type "str") e2 (by omega) (fun f hf => ?_) (by decide) q
    obtain ⟨k0, hk, rk⟩ := e3 f hf
    cases k0 with
    | inl i => cases hk
    | inr x => obtain ⟨t, rfl⟩ := rk; exact Looks.of_pure rfl
theorem key_ask {h : Heap} {t : List Bool} {C : Bool → Shared → Prop} (kp : ∀ b o, g.get? b = some o → h.get? b = some o) (r : TKs g ks vs) (hs : ∀ k ∈ ks, k.map Sum.isLeft = t) {i j : Nat} (hi : i < vs.length) (hj : j < vs.length) (q : C (decide (kLex (ks.getD i []) (ks.getD j []))) { s with heap := h }) :
    wpAny (model prog w) A (keyLt' (tuples' true) (vs.getD i Value.none) (vs.getD j Value.none)) C (fun _ _ => False) { s with heap := h } := by
  have hl := tks_len r
  have gi : ks[i]? = some (ks.getD i []) := by simp [hl, hi]
  have gj : ks[j]? = some (ks.getD j []) := by simp [hl, hj]
  obtain ⟨v, ev, p, us, rfl, ⟨o, ho, hc, n, hd⟩, rv⟩ := TKs.get r gi
  obtain ⟨v2, ev2, p2, us2, rfl, ⟨o2, ho2, hc2, n2, hd2⟩, rv2⟩ := TKs.get r gj
  have sh : (ks.getD i []).map Sum.isLeft = (ks.getD j []).map Sum.isLeft := (hs _ (List.mem_of_getElem? gi)).trans (hs _ (List.mem_of_getElem? gj)).symm
  have ll : us.length = us2.length := by
    have a := rv.length
    have b := rv2.length
    have c := congrArg List.length sh
    simp at a b c
    omega
  rw [show vs.getD i Value.none = .ref p from by simp [List.getD, ev], show vs.getD j Value.none = .ref p2 from by simp [List.getD, ev2]]
  refine kat_lt (s := { s with heap := h }) (kp p o ho) hd (kp p2 o2 ho2) hd2 ?_
  rw [show decide (us.toArray.size < us2.toArray.size) = false from by simp [ll]]
  exact lex_keys 0 rv rv2 sh q
theorem srt_keys {n : Nat} {b0 : Bool} {t0 : List Bool} {P : PySem.Fin → Shared → Prop} (ho : s.heap.get? a = some (seqObj "list" vs.toArray n)) (h2 : 2 ≤ vs.length) (h64 : vs.length < 64) (kg : ∀ b o, g.get? b = some o → b ≠ a ∧ s.heap.get? b = some o)
    (r : TKs g ks vs) {Φ : List Key → Value → Prop} (rp : Paired Φ ks vs) (hs : ∀ k ∈ ks, k.map Sum.isLeft = b0 :: t0) (nd : ks.Nodup)
    (k : ∀ (ks' : List (List Key)) (vs' : List Value) (c : Nat) (h' : Heap), ks'.Perm ks → ks'.Pairwise kLex → Paired Φ ks' vs' → KeptBut a s.heap h' → h'.get? a = some (seqObj "list" vs'.toArray c) → P (.done (.ret .none)) { s with heap := h' }) :
    wpAny (model prog w) A (Builtin.«list.sort» ⟨[.ref a], []⟩) P E s := by
  have hl := tks_len r
  have kp : ∀ (h' : Heap), KeptBut a s.heap h' → ∀ b o, g.get? b = some o → h'.get? b = some o := fun h' x b o e => x b o (kg b o e).1 (kg b o e).2
  refine srt_list (κ := tuples' true) (L := fun i j => kLex (ks.getD i []) (ks.getD j [])) ho h2 h64 (fun a b => kLex_trans a b) (fun i j hi hj hij z => ?_) (fun h' C x q => key_kind (kp h' x) r hs (by omega) q) (fun h' i j C x hi hj q => key_ask (kp h' x) r hs hi hj q) fun p c h' Pp U x e => ?_
  · have gi : ks[i]? = some (ks.getD i []) := by simp [hl, hi]
    have gj : ks[j]? = some (ks.getD j []) := by simp [hl, hj]
    refine kLex_tot ((hs _ (List.mem_of_getElem? gi)).trans (hs _ (List.mem_of_getElem? gj)).symm) (fun y => hij ?_) z
    rw [y] at gi
    exact (List.getElem?_inj (by omega) nd).mp (gi.trans gj.symm)
  · refine k (p.toList.map fun i => ks.getD i []) (p.toList.map fun i => vs.getD i Value.none) c h' ?_ ?_ ?_ x e
    · have e1 : ((List.range vs.length).map fun i => ks.getD i []) = ks := by
        apply List.ext_getElem
        · simp [hl]
        · intro i h1 h2
          simp
          have : i < ks.length := h2
          simp [this]
      have pm := Pp.perm.map fun i => ks.getD i []
      rw [e1] at pm
      exact pm
    · rw [List.pairwise_map, List.pairwise_iff_getElem]
      intro i j hi hj hij
      have sz := Pp.size
      have hi' : i < p.size := by simpa using hi
      have hj' : j < p.size := by simpa using hj
      have u := U i j hij (by omega)
      have ei : p.getD i 0 = p.toList[i] := by simp [Array.getD, hi']
      have ej : p.getD j 0 = p.toList[j] := by simp [Array.getD, hj']
      show kLex (ks.getD p.toList[i] []) (ks.getD p.toList[j] [])
      rw [← ei, ← ej]
      exact u
    · have all : ∀ i ∈ p.toList, Φ (ks.getD i []) (vs.getD i Value.none) := fun i hi => by
        have hlt : i < vs.length := List.mem_range.mp (Pp.perm.mem_iff.mp hi)
        obtain ⟨v, ev, tk⟩ := paired_get rp (show ks[i]? = some (ks.getD i []) from by simp [hl, hlt])
        rw [show vs.getD i Value.none = v from by simp [List.getD, ev]]
        exact tk
      clear e U x
      have go : ∀ l : List Nat, (∀ i ∈ l, Φ (ks.getD i []) (vs.getD i Value.none)) → Paired Φ (l.map fun i => ks.getD i []) (l.map fun i => vs.getD i Value.none) := by
        intro l
        induction l with
        | nil => intro _; exact .nil
        | cons i l ih => intro h; exact .cons (h i (by simp)) (ih fun j hj => h j (by simp [hj]))
      exact go _ all
end
end L2

namespace L2
open PySem PySem.W PyProof.Rows PySem.Calls
section
variable {prog : Program} {w : World} {A : Around} {E : Value → Shared → Prop} {s : Shared} {a : Addr} {vs : List Value}
theorem srt_small {n : Nat} {P : PySem.Fin → Shared → Prop} (hO : s.heap.get? a = some (seqObj "list" vs.toArray n)) (hS : vs.length < 2)
    (k : ∀ (c : Nat) (h' : Heap), KeptBut a s.heap h' → h'.get? a = some (seqObj "list" vs.toArray c) → P (.done (.ret .none)) { s with heap := h' }) : wpAny (model prog w) A (Builtin.«list.sort» ⟨[.ref a], []⟩) P E s := by
  obtain ⟨e1, hO1⟩ : ∃ e1, (s.heap.update a (Obj.mapSeq fun _ => (#[] : Array Value))).get? a = some (seqObj "list" #[] e1) := ⟨_, get?_update_seq hO fun _ => #[]⟩
  have kb : KeptBut a s.heap (((s.heap.update a (Obj.mapSeq fun _ => (#[] : Array Value))).push (seqObj "tuple" vs.toArray 0)).push (seqObj "list" #[] 0)) := fun b o nb e =>
    Heap.get?_push_of_some _ (Heap.get?_push_of_some _ (by rw [Heap.get?_update_ne _ _ _ _ nb]; exact e))
  have na := Heap.get?_push_of_some (seqObj "list" #[] 0) (Heap.get?_push_of_some (seqObj "tuple" vs.toArray 0) hO1)
  generalize hh : ((s.heap.update a (Obj.mapSeq fun _ => (#[] : Array Value))).push (seqObj "tuple" vs.toArray 0)).push (seqObj "list" #[] 0) = g at kb na
  rw [list_sort_plain]
  refine wpAny_bind (listItems_at hO rfl (wpAny_bind (listUpdate_at hO rfl (wpAny_bind (seqEpoch_at hO1 rfl (wpAny_bind (wpAny_newTuple (wpAny_bind (wpAny_newList (wpAny_holding ?_) (Nat.zero_le _))) (by show vs.length ≤ _; rw [sizeLine_eq]; omega))))) (by rw [List.size_toArray, sizeLine_eq]; omega) (Nat.zero_le _))))
  show wpAny (model prog w) A _ P E { s with heap := ((s.heap.update a (Obj.mapSeq fun _ => (#[] : Array Value))).push (seqObj "tuple" vs.toArray 0)).push (seqObj "list" #[] 0) }
  rw [hh]
  dsimp only
  have hn2 : vs.toArray.size < 2 := by rw [List.size_toArray]; exact hS
  rw [if_pos hn2, if_pos hn2]
  refine wpAny_bind (wpAny_pure ?_)
  rw [StateT.run_pure]
  refine wpAny_bind (wpAny_pure ?_)
  dsimp only
  have ez : (arrOf (SortSt.mk' general' (vs.toArray.zip vs.toArray) #[] 7 none)).map (·.2) = vs.toArray := by
    show (vs.toArray.zip vs.toArray).map (·.2) = _
    apply Array.ext
    · simp
    · intro i h1 h2
      simp
  obtain ⟨c2, hc2⟩ : ∃ c2, (g.update a (Obj.mapSeq fun _ => vs.toArray)).get? a = some (seqObj "list" vs.toArray c2) := ⟨_, get?_update_seq na fun _ => vs.toArray⟩
  refine wpAny_bind (seqEpoch_at na rfl (wpAny_bind (listUpdate_at na rfl ?_ (Nat.zero_le _) (by rw [ez, List.size_toArray, sizeLine_eq]; omega))))
  rw [ez]
  simp only [bne_self_eq_false, Bool.false_eq_true, if_false]
  refine wpAny_pure (k c2 _ (fun b ob nb e => ?_) hc2)
  rw [Heap.get?_update_ne _ _ _ _ nb]
  exact kb b ob nb e
end
theorem kt_tks {P : Program} {w : World} {H : Hp} {h : Heap} (ok : HOk P w H h) : ∀ {kvs : List (List Key × V)} {xs : List (List Key × Addr × Value)}, KT H kvs xs →
    TKs h (kvs.map (·.1)) (xs.map fun q => Value.ref q.2.1) ∧ Paired (fun k v => ∃ p, v = Value.ref p ∧ H p = some (.tup (k.map kV))) (kvs.map (·.1)) (xs.map fun q => Value.ref q.2.1) ∧ kvs.map (·.1) = xs.map (·.1)
  | _, _, .nil => ⟨.nil, .nil, rfl⟩
  | _, _, .cons r t => by
    obtain ⟨a, b, c⟩ := kt_tks ok t
    obtain ⟨e, hp, _⟩ := r
    obtain ⟨_, its, rv, tt⟩ := (show ObjOk _ _ _ _ _ (.tup _) from ok _ _ hp)
    exact ⟨.cons ⟨_, its, rfl, tt, rv⟩ a, .cons ⟨_, rfl, hp⟩ b, by simp [e, c]⟩
section
variable {X : Cx}
def rSrtT : List V → Hp → VK → Prop := fun xs H Q => ∃ (a : Addr) (kvs : List (List Key × V)) (b0 : Bool) (t0 : List Bool), xs = [.ref a] ∧ H a = some (.dT kvs) ∧ kvs.length < 64 ∧ (∀ p ∈ kvs, p.1.map Sum.isLeft = b0 :: t0) ∧
  ∀ (D : Addr) (ks : List (List Key)) (ps : List Addr), H D = none → ks.Perm (kvs.map (·.1)) → ks.Pairwise kLex → Paired (fun k p => H p = some (.tup (k.map kV))) ks ps → Q (.ref D) (upd H D (.lst (ps.map V.ref)))
theorem paired_refs {H : Hp} : ∀ {ks : List (List Key)} {vs : List Value}, Paired (fun k v => ∃ p, v = Value.ref p ∧ H p = some (.tup (k.map kV))) ks vs → ∃ ps : List Addr, vs = ps.map Value.ref ∧ Vals (ps.map V.ref) vs ∧ Paired (fun k p => H p = some (.tup (k.map kV))) ks ps
  | _, _, .nil => ⟨[], rfl, .nil, .nil⟩
  | _, _, .cons ⟨p, e, hp⟩ t => by
    obtain ⟨ps, e1, e2, e3⟩ := paired_refs t
    subst e
    exact ⟨p :: ps, by simp [e1], .cons rfl e2, .cons hp e3⟩
theorem call_sortedT (hc : X.calm = true) : CallR X (.builtin "sorted") rSrtT := by
  intro pins s σ H xs us Q I r h
  obtain ⟨a, kvs, b0, t0, rfl, ha, h64, hs, q⟩ := h
  obtain ⟨u, rfl, ru⟩ := vals1 r
  cases ru
  obtain ⟨hz, hsys, ys, kt, o, es, ep, h1, h2, h3, h4, h5, h6⟩ := dt_of I.hok ha
  obtain ⟨tk, tp, ek⟩ := kt_tks I.hok kt
  have m : DAt s.heap a es ep := ⟨o, h1, h2, h3⟩
  have lk : kvs.length = ys.length := by have := congrArg List.length ek; simpa using this
  have le : es.size = ys.length := by have := congrArg List.length h4; simpa using this
  have ev : es.toList.map (·.key) = ys.map fun q => Value.ref q.2.1 := by rw [h4, List.map_map]; rfl
  have hh : X.A.handled = none := I.ok.hd hc
  refine call_function_entry kind_sorted plain_sorted entry_sorted (args_sorted1 _) ?_
  unfold Builtin.«sorted»
  refine wpAny_bind (m := checkCount "sorted" 1 1 _) (wpAny_pure (wpAny_bind (col_dict (by exact hh) hsys m (by omega) fun h' kp lt => ?_)))
  rw [ev]
  generalize hvs : (ys.map fun q => Value.ref q.2.1) = vs at tk tp
  have lv : vs.length = kvs.length := by rw [← hvs, List.length_map]; omega
  refine wpAny_bind (wpAny_newList ?_ (by rw [sizeLine_eq]; omega))
  have hD : (h'.push (seqObj "list" vs.toArray 0)).get? h'.objs.size = some (seqObj "list" vs.toArray 0) := Heap.get?_push_size _ rfl
  have kD : ∀ b o, s.heap.get? b = some o → b ≠ h'.objs.size ∧ (h'.push (seqObj "list" vs.toArray 0)).get? b = some o := fun b o e => ⟨Nat.ne_of_lt (Heap.lt_size (kp b o e)), Heap.get?_push_of_some _ (kp b o e)⟩
  have szD : s.heap.objs.size ≤ h'.objs.size := Nat.le_of_lt lt
  refine wpAny_bind (wpAny_holding (wpAny_call_entry slot_list_sort ⟨_, hD, rfl⟩ entry_list_sort ?_ (args_list_sort _)))
  have fin : ∀ (ks : List (List Key)) (vs' : List Value) (c : Nat) (h3 : Heap), ks.Perm (kvs.map (·.1)) → ks.Pairwise kLex → Paired (fun k v => ∃ p, v = Value.ref p ∧ H p = some (.tup (k.map kV))) ks vs' → KeptBut h'.objs.size (h'.push (seqObj "list" vs.toArray 0)) h3 →
      h3.get? h'.objs.size = some (seqObj "list" vs'.toArray c) → EP X pins σ Q (.ref h'.objs.size) { s with heap := h3 } := fun ks vs' c h3 pm pw pr kb e => by
    obtain ⟨ps, e1, e2, e3⟩ := paired_refs pr
    have lp : ps.length ≤ sizeLine := by
      have a1 := pm.length_eq
      have a2 := Paired.length e3
      simp at a1
      rw [sizeLine_eq]
      omega
    exact ⟨.ref h'.objs.size, _, I.laid (t' := s.toks) (fun b o e' => kb b o (kD b o e').1 (kD b o e').2) szD (show ObjOk X.prog X.w _ h3 _ (.lst (ps.map V.ref)) from ⟨by simpa using lp, vs', c, e2, e⟩), rfl, q _ ks ps (I.hok.fresh szD) pm pw e3⟩
  by_cases h2' : vs.length < 2
  · refine srt_small hD h2' fun c h3 kb e => ⟨_, rfl, wpAny_pure ⟨_, rfl, fin (kvs.map (·.1)) vs c h3 (List.Perm.refl _) ?_ tp kb e⟩⟩
    match kvs, lv, h2' with
    | [], _, _ => exact .nil
    | [x], _, _ => exact List.pairwise_singleton _ _
    | _ :: _ :: _, lv, h2' => simp at lv; omega
  · exact srt_keys hD (by omega) (by omega) kD tk tp (fun k hk => by obtain ⟨x, hx, rfl⟩ := List.mem_map.mp hk; exact hs x hx) (ek ▸ h6) fun ks vs' c h3 pm pw pr kb e => ⟨_, rfl, wpAny_pure ⟨_, rfl, fin ks vs' c h3 pm pw pr kb e⟩⟩
end
end L2

namespace L2
open PySem PySem.W PyProof.Rows
section
variable {prog : Program} {w : World} {K : Type} [DecidableEq K] {knd : HeapKind prog w K} {A : Around} {E : Value → Shared → Prop} {s : Shared}
theorem sd_heap {d a : Addr} {xs : List (K × Addr × Value)} {k : K} {v : Value} {Q : Value → Shared → Prop} (hu : knd.room A) (hkey : knd.is s.heap k a) (hm : s.heap.DictOfH knd d xs) (hsz : xs.length ≤ sizeLine)
    (h1 : ∀ p, atKey xs k = some p → Q p.2 { s with toks := s.toks + knd.draws k })
    (h2 : atKey xs k = none → ∀ h', h'.DictOfH knd d (storedH xs k a v) → Heap.SameBut d s.heap h' → Q v { s with heap := h', toks := s.toks + knd.draws k }) : wpAny (model prog w) A (dictSetDefault d (.ref a) v) Q E s := by
  obtain ⟨o, es, ep, hO, hX, hD, hE, hI, hN⟩ := hm
  unfold dictSetDefault
  (try with_reducible refine wpAny_holding ?_)
  refine wpAny_bind (knd.pyHash hu hkey (wpAny_bind (wpAny_dictFind_heap (s := { s with toks := s.toks + knd.draws k }) hu hkey hO hD hE hI hN (fun hno => ?_) (fun j p hj => ?_))))
  · have no := atKey_none_of_get hno
    have nk : k ∉ xs.map (·.1) := not_mem_keys_of_get hno
    refine wpAny_bind (wpAny_rule (wpAny_bind (wpAny_updateDictKeys (hz := by have e := size_of_entries hE; omega) (s := { s with toks := s.toks + knd.draws k }) hO hD (wpAny_pure (h2 no _ ⟨_, _, ep + 1, Heap.get?_update_self _ hO (Obj.isFreed_of_dict (Obj.data_mapDictKeys hD _)), hX.mapDictKeys _, Obj.data_mapDictKeys hD _, ?_, ?_, ?_⟩ (Heap.SameBut.update ..))))))
    · rw [storedH_new no]; simp [hE, entryOfKey]
    · rw [storedH_new no]
      intro x hx
      rcases List.mem_append.mp hx with hx | hx
      · exact knd.keeps (hI x hx) hO hD (Heap.SameBut.update ..)
      · rw [List.mem_singleton.mp hx]
        exact knd.keeps hkey hO hD (Heap.SameBut.update ..)
    · rw [storedH_new no, List.map_append, List.nodup_append]
      exact ⟨hN, by simp, fun x hx y hy e => nk (by
        have : y = k := by simpa using hy
        rw [← this, ← e]; exact hx)⟩
  · refine wpAny_bind (wpAny_dictEntries (s := { s with toks := s.toks + knd.draws k }) hO hD ?_)
    rw [entry_at hE j, hj]
    exact wpAny_bind (wpAny_rule (wpAny_pure (h1 _ (atKey_of_get hN hj))))
theorem sd_call {d a : Addr} {xs : List (K × Addr × Value)} {k : K} {v : Value} {Q : Value → Shared → Prop} (hu : knd.room A.in1) (hsys : (d == sysModules) = false) (hkey : knd.is s.heap k a) (hm : s.heap.DictOfH knd d xs) (hsz : xs.length ≤ sizeLine)
    (h1 : ∀ p, atKey xs k = some p → Q p.2 { s with toks := s.toks + knd.draws k })
    (h2 : atKey xs k = none → ∀ h', h'.DictOfH knd d (storedH xs k a v) → Heap.SameBut d s.heap h' → Q v { s with heap := h', toks := s.toks + knd.draws k }) :
    wpAny (model prog w) A (call (.builtin "dict.setdefault") [.ref d, .ref a, v]) Q E s := by
  refine wpAny_call_entry PySem.F.slot_dict_setdefault hm.typeIs PySem.F.entry_dict_setdefault ?_ (PySem.F.args_dict_setdefault_3 _ _ _)
  unfold Builtin.«dict.setdefault» Builtin.Dict.keyAndDefault
  refine wpAny_bind (wpAny_bind (wpAny_notOrdered_dict hm.typeIs ?_))
  show wpAny _ _ (pure (d, Value.ref a, some v)) _ _ s
  refine wpAny_pure ?_
  show wpAny _ _ (if (d == sysModules) = true then _ else (dictSetDefault d (.ref a) v >>= _)) _ _ s
  rw [if_neg (by rw [hsys]; simp)]
  exact wpAny_bind (sd_heap hu hkey hm hsz (fun p e => wpAny_pure ⟨_, rfl, h1 p e⟩) fun e h' a b => wpAny_pure ⟨_, rfl, h2 e h' a b⟩)
end
section
variable {X : Cx} {pins : List (Addr × Obj)} {σ : St} {H : Hp} {s : Shared} {A : Around} {E : Value → Shared → Prop}
theorem d_setdef {a b : Addr} {kvs : List (List Key × V)} {k : List Key} {v : V} {r : Value} {Q : Value → Shared → Prop} (hu : A.units + 1 < cLine) (I : Inv X pins σ H s) (e : H a = some (.dT kvs)) (eb : H b = some (.tup (k.map kV))) (l : kvs.length < sizeLine) (rv : RelV v r)
    (h1 : ∀ x w' s', valV kvs k = some x → Inv X pins σ H s' → RelV x w' → Q w' s') (h2 : ∀ s', valV kvs k = none → Inv X pins σ (upd H a (.dT (putK kvs k v))) s' → Q r s') :
    wpAny (model X.prog X.w) A (call (.builtin "dict.setdefault") [.ref a, .ref b, r]) Q E s := by
  obtain ⟨z, hd, xs, rel, dd⟩ := dt_of I.hok e
  have hz : xs.length ≤ sizeLine := by rw [← Paired.length rel]; exact z
  have hl : (putK kvs k v).length ≤ sizeLine := by have := length_putK kvs k v; omega
  have rk := rel.val k
  refine sd_call (knd := tupleKind (mixKind X.prog X.w)) (tupleKind_room_in1 hu) hd (key_of I.hok eb) dd hz (fun p ep => ?_) fun en h' dd' hs => ?_
  · rw [ep] at rk
    cases ev : valV kvs k with
    | none => rw [ev] at rk; exact rk.elim
    | some x =>
      rw [ev] at rk
      exact h1 x _ _ ev (I.tok _) rk
  · have ev : valV kvs k = none := by
      cases ev : valV kvs k with
      | none => rfl
      | some x => rw [ev, en] at rk; exact rk.elim
    obtain ⟨q, es, ep, hq, g2, g3, g4, _, g5⟩ := dd'
    refine h2 _ ev (d_write I (by rw [e]; exact True.intro) hs ⟨q, hq⟩ ⟨hl, hd, _, (rel.put k eb rv).keeps fun c ys ec => ?_, q, es, ep, hq, g2, g3, g4, g5⟩)
    rw [upd_ne (ne_of ec e (fun z => nomatch z))]
    exact ec
end
def tDSetD (td ty tx : TE) : TE := fun σ H Q => td σ H fun x H1 => ∃ a, x = .ref a ∧ IsD H1 a ∧ ty σ H1 fun y H2 => tx σ H2 fun z H3 => ∃ b kvs k, H3 a = some (.dT kvs) ∧ y = .ref b ∧ H3 b = some (.tup (k.map kV)) ∧ kvs.length < sizeLine ∧
  (∀ v, valV kvs k = some v → Q v H3) ∧ (valV kvs k = none → Q z (upd H3 a (.dT (putK kvs k z))))
section
variable {X : Cx} {o e f : Expr} {apos cpos : Pos} {td ty tx : TE}
theorem pe_dsetd (hu : X.A.units + 1 < cLine) (ho : PE X o td) (he : PE X e ty) (hf : PE X f tx) (m : M2 X o "setdefault" apos e f cpos) : PE X (.Call (.Attribute o "setdefault" apos) [e, f] [] cpos) (tDSetD td ty tx) := by
  intro pins s σ H Q I h
  refine wpAny_Call_method m.base m.few m.line PySem.F.plainAttrs_dict PySem.F.slot_dict_setdefault PySem.F.type_dict_setdefault (thn (ho pins s σ H _ I h) fun u s1 ⟨x, H1, I1, rx, a, ex, d, q1⟩ => ?_)
  subst ex
  obtain rfl : u = Value.ref a := rx
  obtain ⟨t1, t2, _⟩ := isD_at I1 d
  refine ⟨t1, t2, ?_⟩
  rw [m.trees]
  refine Calls.callWith_builtin rfl (Calls.evalArgs_plain (Calls.spliced_cons (thn (he pins s1 σ H1 _ I1 q1) fun iv s2 ⟨y, H2, I2, ry, q2⟩ =>
    Calls.spliced_cons (thn (hf pins s2 σ H2 _ I2 q2) fun fv s3 ⟨z, H3, I3, rz, b, kvs, k, ea, ey, eb, hl, qa, qb⟩ => Calls.spliced_nil ?_))))
  subst ey
  obtain rfl : iv = Value.ref b := ry
  exact d_setdef hu I3 ea eb hl rz (fun v w' s4 ev I4 rw' => ⟨_, H3, I4, rw', qa v ev⟩) fun s4 en I4 => ⟨_, _, I4, rz, qb en⟩
theorem qpe_dsetd (hu : X.A.units + 1 < cLine) (ho : Pr (PE X o td)) (he : Pr (PE X e ty)) (hf : Pr (PE X f tx)) (m : M2 X o "setdefault" apos e f cpos) : Pr (PE X (.Call (.Attribute o "setdefault" apos) [e, f] [] cpos) (tDSetD td ty tx)) := ⟨pe_dsetd hu ho.h he.h hf.h m⟩
theorem qpe_dnewT {pos : Pos} : Pr (PE X (.Dict [] [] pos) tDNewT) := ⟨pe_dnewT⟩
theorem qpe_dgetT {i : Expr} {pos : Pos} (hu : X.A.units + 1 < cLine) (ho : Pr (PE X o td)) (hi : Pr (PE X i ty)) (hs : NoSl i) : Pr (PE X (.Subscript o i pos) (tDGet td ty)) := ⟨pe_dget hu ho.h hi.h hs⟩
theorem qps_dput {i value : Expr} {tv : TE} {pos pos' : Pos} (hu : X.A.units + 1 < cLine) (ho : Pr (PE X o td)) (hi : Pr (PE X i ty)) (hv : Pr (PE X value tv)) (hs : swapsWith value (some (.Subscript o i pos')) pos.line X.env = pure false) :
    Pr (PS X (.Assign [.Subscript o i pos'] value pos) (sDPut td ty tv)) := ⟨ps_dput hu ho.h hi.h hv.h hs⟩
theorem qpe_pop (ho : Pr (PE X o td)) (hbase : attributeBase o "pop" X.env (eval o X.env) = eval o X.env := by rfl) (hline : (apos.endLine == cpos.line) = true := by rfl) : Pr (PE X (.Call (.Attribute o "pop" apos) [] [] cpos) (tBM0 X.K "list" rPop td)) :=
  ⟨pe_bm0 PySem.F.plainAttrs_list PySem.F.slot_list_pop PySem.F.type_list_pop mt_pop ho.h hbase hline⟩
end
end L2

namespace L2
open PySem PySem.W PyProof.Rows
def sqO (k : SK) (xs : List V) : HO := match k with
  | .list => .lst xs
  | .tuple => .tup xs
def ItK (K : PySem.W.Frag) (k : SK) (a : Addr) : It := match k with
  | .list => Itl K a
  | .tuple => Itt K a
def iSq (K : PySem.W.Frag) (k : SK) (tl : TE) : TI := fun σ H R => tl σ H fun x H1 => ∃ a, x = .ref a ∧ (∃ xs, Sq k K H1 a xs) ∧ R (ItK K k a) H1
section
variable {X : Cx} {tg l : Expr}
end
theorem while_at {c : TT} {tb : TS} {D : Ends} {σ : St} {H : Hp} (W : Nat → St → Hp → Prop) (h0 : ∃ m, W m σ H)
    (hs : ∀ m σ H, W m σ H → c σ H fun b H1 => if b = true then tb { D with nx := fun σ' H' => ∃ m', m' < m ∧ W m' σ' H', ct := fun σ' H' => ∃ m', m' < m ∧ W m' σ' H', bk := D.nx } σ H1 else D.nx σ H1)
    (mono : ∀ σ H Q Q', (∀ b H1, Q b H1 → Q' b H1) → c σ H Q → c σ H Q') : tWhile c tb D σ H := by
  refine ⟨W, h0, fun m σ H p => mono σ H _ _ (fun b H1 q => ?_) (hs m σ H p)⟩
  cases b with
  | true => exact ⟨_, fun σ' H' z => z, q⟩
  | false => exact q
theorem dget_some {H : Hp} {a b : Addr} {kvs : List (List Key × V)} {k : List Key} {v : V} (e : H a = some (.dT kvs)) (eb : H b = some (.tup (k.map kV))) (h : valV kvs k = some v) : DGet H a (.ref b) (some v) := h ▸ DGet.t e eb
theorem isD_t {H : Hp} {a : Addr} {kvs : List (List Key × V)} (e : H a = some (.dT kvs)) : IsD H a := .inr ⟨kvs, .inl e⟩
theorem callK_tuple_of {X : Cx} (K : PySem.W.Frag) (hK : X.K = K) : CallR X (.type "tuple") (fun xs H Q => ∃ p ys, xs = [V.ref p] ∧ ((SqL K H p ys ∧ ∀ (l : Addr), H l = none → Q (V.ref l) (upd H l (HO.tup ys))) ∨ SqT K H p ys ∧ Q (V.ref p) H)) := by subst hK; exact call_tuple_of
end L2

namespace L2
open PySem PySem.Spec PyProof.Rows PySem.SeqAt
section
variable {prog : Program} {w : World} {A : Around} {E : Value → Shared → Prop} {s : Shared} {I : Addr} {fp wr : List Addr} {G : Array GenState → Array GenState → Prop} {n : Nat} {P : Nat → Value → Prop} {St : Nat → Shared → Prop}
end
section
variable {X : Cx}
def tTR (K : PySem.W.Frag) (ta : TA) : TE := fun σ H Q => ta σ H fun vs H1 => ∃ a xs, vs = [.ref a] ∧ SqL K H1 a xs ∧ ∀ D, H1 D = none → Q (.ref D) (upd H1 D (.tup xs.reverse))
theorem all_true (n : Nat) : (List.range n).all (fun _ => true) = true := by simp
def SameL (H : Hp) (u v : Addr) : Prop := u ≠ v ∧ ∃ ps : List Addr, H u = some (.lst (ps.map V.ref)) ∧ H v = some (.lst (ps.map V.ref))
def rNeW : R2 := fun x y H Q => ∃ (a b : Addr) (us vs : List Addr), x = .ref a ∧ y = .ref b ∧ H a = some (.tup (us.map V.ref)) ∧ H b = some (.tup (vs.map V.ref)) ∧ Paired (SameL H) us vs ∧ Q (.bl false) H
theorem paired_at {α β : Type} {R : α → β → Prop} : ∀ {xs : List α} {ys : List β}, Paired R xs ys → ∀ (j : Nat) (h1 : j < xs.length) (h2 : j < ys.length), R xs[j] ys[j]
  | _, _, .nil, j, h1, _ => absurd h1 (Nat.not_lt_zero _)
  | _, _, .cons a t, 0, _, _ => a
  | _, _, .cons a t, j + 1, h1, h2 => by
    have := paired_at t j (by simpa using h1) (by simpa using h2)
    simpa using this
end
end L2

namespace L2
abbrev Wr := List Key
theorem kLex_irrefl : ∀ (a : List Key), ¬ kLex a a
  | [] => id
  | k :: ks => by
    unfold kLex
    rw [if_pos rfl]
    exact kLex_irrefl ks
theorem sort_unique : ∀ {l m : List Wr}, l.Pairwise kLex → m.Pairwise kLex → (∀ x, x ∈ l ↔ x ∈ m) → l = m
  | [], [], _, _, _ => rfl
  | [], y :: m, _, _, h => absurd ((h y).mpr (by simp)) (by simp)
  | x :: l, [], _, _, h => absurd ((h x).mp (by simp)) (by simp)
  | x :: l, y :: m, hl, hm, h => by
    obtain ⟨a1, a2⟩ := List.pairwise_cons.mp hl
    obtain ⟨b1, b2⟩ := List.pairwise_cons.mp hm
    have e : x = y := by
      rcases List.mem_cons.mp ((h x).mp (by simp)) with e | e
      · exact e
      · rcases List.mem_cons.mp ((h y).mpr (by simp)) with e' | e'
        · exact e'.symm
        · exact absurd (kLex_trans (b1 x e) (a1 y e')) (kLex_irrefl y)
    subst e
    rw [sort_unique a2 b2 fun z => ?_]
    constructor
    · intro hz
      rcases List.mem_cons.mp ((h z).mp (by simp [hz])) with e | e
      · subst e; exact absurd (a1 z hz) (kLex_irrefl z)
      · exact e
    · intro hz
      rcases List.mem_cons.mp ((h z).mpr (by simp [hz])) with e | e
      · subst e; exact absurd (b1 z hz) (kLex_irrefl z)
      · exact e
def Bes (E : List (Wr × Wr)) (x y : Wr) : Prop := (x, y) ∈ E ∨ (y, x) ∈ E
inductive Rch (E : List (Wr × Wr)) (D : List Wr) : Wr → Prop
  | base {x : Wr} : x ∈ D → Rch E D x
  | step {x y : Wr} : Rch E D x → Bes E x y → Rch E D y
def nbr (nb : List (Wr × List Wr)) (k : Wr) : List Wr := ((nb.find? fun p => decide (p.1 = k)).map (·.2)).getD []
def addN (nb : List (Wr × List Wr)) (k x : Wr) : List (Wr × List Wr) :=
  if (nb.any fun p => decide (p.1 = k)) = true then nb.map (fun p => if p.1 = k then (p.1, p.2 ++ [x]) else p) else nb ++ [(k, [x])]
theorem nbr_cons {p : Wr × List Wr} {nb : List (Wr × List Wr)} {k : Wr} : nbr (p :: nb) k = if p.1 = k then p.2 else nbr nb k := by
  unfold nbr
  rw [List.find?_cons]
  by_cases h : p.1 = k <;> simp [h]
theorem nbr_miss {nb : List (Wr × List Wr)} {k : Wr} (h : (nb.any fun p => decide (p.1 = k)) = false) : nbr nb k = [] := by
  induction nb with
  | nil => rfl
  | cons p nb ih =>
    rw [List.any_cons, Bool.or_eq_false_iff] at h
    rw [nbr_cons, if_neg (by simpa using h.1)]
    exact ih h.2
theorem nbr_map {nb : List (Wr × List Wr)} {k x j : Wr} : nbr (nb.map fun p => if p.1 = k then (p.1, p.2 ++ [x]) else p) j = if j = k ∧ (nb.any fun p => decide (p.1 = k)) = true then nbr nb j ++ [x] else nbr nb j := by
  induction nb with
  | nil => simp [nbr]
  | cons p nb ih =>
    rw [List.map_cons, nbr_cons, nbr_cons, ih, List.any_cons]
    by_cases h1 : p.1 = k
    · subst h1
      by_cases h2 : p.1 = j
      · subst h2; simp
      · have : ¬ j = p.1 := fun z => h2 z.symm
        simp [h2, this]
    · rw [decide_eq_false h1, Bool.false_or]
      by_cases h2 : p.1 = j
      · subst h2; simp [h1]
      · simp [h1, h2]
theorem nbr_app {nb : List (Wr × List Wr)} {k x j : Wr} (h : (nb.any fun p => decide (p.1 = k)) = false) : nbr (nb ++ [(k, [x])]) j = if j = k then [x] else nbr nb j := by
  induction nb with
  | nil =>
    rw [List.nil_append, nbr_cons]
    by_cases e : k = j
    · subst e; simp
    · simp [e, Ne.symm e]
  | cons p nb ih =>
    rw [List.any_cons, Bool.or_eq_false_iff] at h
    rw [List.cons_append, nbr_cons, nbr_cons, ih h.2]
    have hp : ¬ p.1 = k := by simpa using h.1
    by_cases e : p.1 = j
    · subst e; simp [hp]
    · simp [e]
def add2 (nb : List (Wr × List Wr)) (e : Wr × Wr) : List (Wr × List Wr) := addN (addN nb e.1 e.2) e.2 e.1
end L2
namespace L2
def ends (E : List (Wr × Wr)) (D : List Wr) : List Wr := D ++ (E.map (·.1) ++ E.map (·.2))
structure Seek (E : List (Wr × Wr)) (D found wait : List Wr) : Prop where
  nd : found.Nodup
  fr : ∀ x ∈ found, Rch E D x
  wr : ∀ x ∈ wait, Rch E D x
  dr : ∀ x ∈ D, x ∈ found ∨ x ∈ wait
  cl : ∀ x ∈ found, ∀ y, Bes E x y → y ∈ found ∨ y ∈ wait
end L2

namespace L2
open PySem PySem.Spec PyProof.Rows PySem.SeqAt
section
variable {X : Cx}
theorem qpe_clear {o : Expr} {td : TE} {apos cpos : Pos} (ho : Pr (PE X o td)) (hbase : attributeBase o "clear" X.env (eval o X.env) = eval o X.env := by rfl) (hline : (apos.endLine == cpos.line) = true := by rfl) : Pr (PE X (.Call (.Attribute o "clear" apos) [] [] cpos) (tBM0 X.K "list" rClear td)) :=
  ⟨pe_bm0 PySem.F.plainAttrs_list PySem.F.slot_list_clear PySem.F.type_list_clear mt_clear ho.h hbase hline⟩
def Pl (x : V) : Prop := (∃ i, x = .int i) ∨ ∃ p, x = .ref p
def EqD (H : Hp) (x y : V) : Prop := (x = y ∧ Pl x) ∨ ∃ u v zs, x = .ref u ∧ y = .ref v ∧ H u = some (.tup zs) ∧ H v = some (.tup zs) ∧ ∀ z ∈ zs, Pl z
theorem eqat_pl {A : Around} {s : Shared} {x : V} {v u : Value} (h : Pl x) (r1 : RelV x v) (r2 : RelV x u) : EqAt A s v u true := by
  rcases h with ⟨i, rfl⟩ | ⟨p, rfl⟩
  · obtain ⟨t, rfl⟩ := r1
    obtain ⟨t', rfl⟩ := r2
    have := EqAt.int_int (A := A) (s := s) i t i t'
    rwa [beq_self_eq_true] at this
  · cases r1
    cases r2
    exact EqAt.same _
def rNeD : R2 := fun x y H Q => ∃ (a b : Addr) (xs ys : List V), x = .ref a ∧ y = .ref b ∧ H a = some (.tup xs) ∧ H b = some (.tup ys) ∧ Paired (EqD H) xs ys ∧ Q (.bl false) H
theorem vals_at {xs : List V} {us : List Value} (r : Vals xs us) (j : Nat) (h1 : j < xs.length) (h2 : j < us.length) : RelV xs[j] us[j] := paired_at r j h1 h2
theorem op_neD (hu : X.A.units + 64 < cLine) : OpR X (compareOp .NotEq) rNeD := by
  intro pins s σ H x y v u Q I rx ry h
  obtain ⟨a, b, xs, ys, rfl, rfl, ha, hb, pr, q⟩ := h
  cases rx
  cases ry
  obtain ⟨z, its, rv, t1⟩ := I.hok a _ ha
  obtain ⟨z2, its2, rv2, t2⟩ := I.hok b _ hb
  have l1 := rv.length
  have l2 := rv2.length
  have el := Paired.length pr
  have key := RcNeAt.tuples (A := X.A) (s := s) (e := fun _ => true) t1 t2 (by omega) (fun j h1 h2 => by
    have j1 : j < its.length := by simpa using h1
    have j2 : j < its2.length := by simpa using h2
    have r1 := vals_at rv j (by omega) j1
    have r2 := vals_at rv2 j (by omega) j2
    simp only [List.getElem_toArray]
    rcases paired_at pr j (by omega) (by omega) with ⟨e, pl⟩ | ⟨u, v, zs, e1, e2, g1, g2, pl⟩
    · rw [← e] at r2
      exact eqat_pl pl r1 r2
    · rw [e1] at r1
      rw [e2] at r2
      have q1 : its[j] = .ref u := r1
      have q2 : its2[j] = .ref v := r2
      rw [q1, q2]
      by_cases ne : u = v
      · rw [ne]; exact EqAt.same _
      · obtain ⟨_, as, ra, ta⟩ := I.hok _ _ g1
        obtain ⟨_, bs, rb, tb⟩ := I.hok _ _ g2
        have m1 := ra.length
        have m2 := rb.length
        have k := RcAt.tuples (A := X.A.in1) (s := s) (e := fun _ => true) ta tb (show X.A.units + 1 < cLine by omega) (fun i h1 h2 => by
          have i1 : i < as.length := by simpa using h1
          have i2 : i < bs.length := by simpa using h2
          simp only [List.getElem_toArray]
          exact eqat_pl (pl _ (List.getElem_mem (by omega))) (vals_at ra i (by omega) i1) (vals_at rb i (by omega) i2))
        have e : ((List.range (min as.toArray.size bs.toArray.size)).all (fun _ => true) && as.toArray.size == bs.toArray.size) = true := by
          rw [all_true]
          simp only [List.size_toArray, Bool.true_and, beq_iff_eq]
          omega
        rw [e] at k
        exact EqAt.of_refs ne k)
  have e : (!((List.range (min its.toArray.size its2.toArray.size)).all (fun _ => true) && its.toArray.size == its2.toArray.size)) = false := by
    rw [all_true]
    simp only [List.size_toArray, Bool.true_and, Bool.not_eq_false', beq_iff_eq]
    omega
  rw [e] at key
  exact key X.prog X.w X.xe _ ⟨.bl _, H, I, rfl, q⟩
theorem qpe_din {i o : Expr} {ty td : TE} {pos : Pos} (hu : X.A.units + 1 < cLine) (hi : Pr (PE X i ty)) (ho : Pr (PE X o td)) (h1 : behindInMarks .In o = false := by rfl) : Pr (PE X (.Compare i [.In] [o] pos) (tDIn ty td)) := ⟨pe_cmp (pc_din hu hi.h ho.h) h1⟩
end
theorem dgetS_some {H : Hp} {a : Addr} {kvs : List (Key × V)} {x : Str} {v : V} (e : H a = some (.dK kvs)) (h : valV kvs (.inr x) = some v) : DGet H a (.str x) (some v) := h ▸ DGet.k (k := .inr x) e
theorem dgetI_some {H : Hp} {a : Addr} {kvs : List (Key × V)} {i : Int} {v : V} (e : H a = some (.dK kvs)) (h : valV kvs (.inl i) = some v) : DGet H a (.int i) (some v) := h ▸ DGet.k (k := .inl i) e
theorem dputI {H : Hp} {a : Addr} {kvs : List (Key × V)} {i : Int} {v : V} (e : H a = some (.dK kvs)) (hl : kvs.length < sizeLine) : DPut H a (.int i) v (upd H a (.dK (putK kvs (.inl i) v))) := DPut.k (k := .inl i) e hl
end L2

namespace L2
theorem nodup_sub {α : Type} : ∀ {l m : List α}, l.Nodup → (∀ x ∈ l, x ∈ m) → l.length ≤ m.length
  | [], _, _, _ => Nat.zero_le _
  | x :: l, m, nd, h => by
    obtain ⟨n1, n2⟩ := List.nodup_cons.mp nd
    obtain ⟨a, b, rfl⟩ := List.append_of_mem (h x (by simp))
    have := nodup_sub (l := l) (m := a ++ b) n2 fun y hy => by
      have ne : y ≠ x := fun z => n1 (by rw [← z]; exact hy)
      rcases List.mem_append.mp (h y (by simp [hy])) with z | z
      · exact List.mem_append_left _ z
      · rcases List.mem_cons.mp z with z | z
        · exact absurd z ne
        · exact List.mem_append_right _ z
    simp at this ⊢
    omega
def wt (ls : Nat → List Nat) (order : List Nat) (o : Nat) : Nat := ((ls o).filter fun s => decide (s ∉ order)).length
theorem cnt_snoc {order : List Nat} {x : Nat} (hx : x ∉ order) : ∀ l : List Nat, (l.filter fun s => decide (s ∉ order ++ [x])).length + l.count x = (l.filter fun s => decide (s ∉ order)).length
  | [] => rfl
  | s :: l => by
    have ih := cnt_snoc hx l
    rw [List.filter_cons, List.filter_cons, List.count_cons]
    by_cases e : s = x
    · subst e
      simp [hx] at ih ⊢
      omega
    · by_cases h : s ∈ order
      · simp [h, e] at ih ⊢
        exact ih
      · simp [h, e] at ih ⊢
        omega
theorem wt_snoc {ls : Nat → List Nat} {order : List Nat} {x : Nat} (hx : x ∉ order) (o : Nat) : wt ls (order ++ [x]) o + (ls o).count x = wt ls order o := cnt_snoc hx (ls o)
theorem wt_pos {ls : Nat → List Nat} {order : List Nat} {x o : Nat} (hx : x ∉ order) (h : x ∈ ls o) : 0 < wt ls order o := by
  have := wt_snoc (ls := ls) hx o
  have c : 0 < (ls o).count x := List.count_pos_iff.mpr h
  omega
structure Kahn (loose : List Nat) (ls : Nat → List Nat) (order ready : List Nat) : Prop where
  no : order.Nodup
  nr : ready.Nodup
  ol : ∀ o ∈ order, o ∈ loose
  rl : ∀ o ∈ ready, o ∈ loose ∧ o ∉ order
  oz : ∀ o ∈ order, wt ls order o = 0
  rz : ∀ o ∈ loose, o ∉ order → (o ∈ ready ↔ wt ls order o = 0)
structure Mid (loose : List Nat) (ls : Nat → List Nat) (order : List Nat) (x : Nat) (done ready : List Nat) : Prop where
  nr : ready.Nodup
  rl : ∀ o ∈ ready, o ∈ loose ∧ o ∉ order ∧ o ≠ x
  rz : ∀ o ∈ loose, o ∉ order → o ≠ x → (o ∈ ready ↔ wt ls order o = done.count o)
theorem Kahn.pop {loose : List Nat} {ls : Nat → List Nat} {order ready : List Nat} {x : Nat} (k : Kahn loose ls order (ready ++ [x])) : x ∈ loose ∧ x ∉ order ∧ wt ls order x = 0 ∧ Mid loose ls order x [] ready := by
  obtain ⟨a, b⟩ := k.rl x (by simp)
  obtain ⟨n1, n2, n3⟩ := List.nodup_append.mp k.nr
  refine ⟨a, b, (k.rz x a b).mp (by simp), n1, fun o ho => ⟨(k.rl o (by simp [ho])).1, (k.rl o (by simp [ho])).2, fun e => n3 o ho x (by simp) e⟩, fun o h1 h2 h3 => ?_⟩
  rw [List.count_nil, ← k.rz o h1 h2, List.mem_append, List.mem_singleton]
  exact ⟨.inl, fun z => z.resolve_right h3⟩
structure FedBy (loose : List Nat) (ls : Nat → List Nat) (x : Nat) (fed : List Nat) : Prop where
  m : ∀ o ∈ fed, o ∈ loose ∧ x ∈ ls o
  c : ∀ o ∈ loose, fed.count o = (ls o).count x
theorem count_take_le {l : List Nat} (j o : Nat) : (l.take j).count o ≤ l.count o := by
  have := congrArg (List.count o) (List.take_append_drop j l)
  rw [List.count_append] at this
  omega
theorem Mid.step {loose : List Nat} {ls : Nat → List Nat} {order ready fed : List Nat} {x o j : Nat} (k : ∀ y ∈ order, wt ls order y = 0) (hx : x ∉ order) (hz : wt ls order x = 0) (f : FedBy loose ls x fed) (m : Mid loose ls order x (fed.take j) ready) (ho : fed[j]? = some o) :
    o ∈ loose ∧ (fed.take (j + 1)).count o = (fed.take j).count o + 1 ∧ (fed.take (j + 1)).count o ≤ wt ls order o ∧ (∀ o', o' ≠ o → (fed.take (j + 1)).count o' = (fed.take j).count o') ∧
    (wt ls order o = (fed.take (j + 1)).count o → Mid loose ls order x (fed.take (j + 1)) (ready ++ [o])) ∧ (wt ls order o ≠ (fed.take (j + 1)).count o → Mid loose ls order x (fed.take (j + 1)) ready) := by
  have et : fed.take (j + 1) = fed.take j ++ [o] := by rw [List.take_add_one, ho]; rfl
  obtain ⟨h1, h2⟩ := f.m o (List.mem_of_getElem? ho)
  have p := wt_pos hx h2
  have n1 : o ∉ order := fun z => by have := k o z; omega
  have n2 : o ≠ x := fun z => by rw [z] at p; omega
  have c1 : (fed.take (j + 1)).count o = (fed.take j).count o + 1 := by rw [et, List.count_append]; simp
  have c3 : ∀ o', o' ≠ o → (fed.take (j + 1)).count o' = (fed.take j).count o' := fun o' ne => by
    rw [et, List.count_append, List.count_singleton]
    have : (o == o') = false := by simpa using fun z => ne z.symm
    rw [this]; rfl
  have c2 : (fed.take (j + 1)).count o ≤ wt ls order o := by
    have a := count_take_le (l := fed) (j + 1) o
    have b := f.c o h1
    have c := wt_snoc (ls := ls) hx o
    omega
  have nr : o ∉ ready := fun z => by have := (m.rz o h1 n1 n2).mp z; omega
  refine ⟨h1, c1, c2, c3, fun e => ⟨?_, ?_, ?_⟩, fun e => ⟨m.nr, m.rl, fun o' a b c => ?_⟩⟩
  · rw [List.nodup_append]
    exact ⟨m.nr, by simp, fun a ha b hb z => nr (by rw [← List.mem_singleton.mp hb, ← z]; exact ha)⟩
  · intro y hy
    rcases List.mem_append.mp hy with z | z
    · exact m.rl y z
    · rw [List.mem_singleton.mp z]; exact ⟨h1, n1, n2⟩
  · intro o' a b c
    rw [List.mem_append, List.mem_singleton]
    by_cases eo : o' = o
    · subst eo
      exact ⟨fun _ => e, fun _ => .inr rfl⟩
    · rw [c3 o' eo, ← m.rz o' a b c]
      exact ⟨fun z => z.resolve_right eo, .inl⟩
  · by_cases eo : o' = o
    · subst eo
      exact ⟨fun z => absurd z nr, fun z => absurd z e⟩
    · rw [c3 o' eo]
      exact m.rz o' a b c
theorem Mid.done {loose : List Nat} {ls : Nat → List Nat} {order ready fed : List Nat} {x : Nat} (no : order.Nodup) (ol : ∀ o ∈ order, o ∈ loose) (k : ∀ y ∈ order, wt ls order y = 0) (hl : x ∈ loose) (hx : x ∉ order) (hz : wt ls order x = 0) (f : FedBy loose ls x fed) (m : Mid loose ls order x fed ready) :
    Kahn loose ls (order ++ [x]) ready := by
  refine ⟨?_, m.nr, ?_, ?_, ?_, ?_⟩
  · rw [List.nodup_append]
    exact ⟨no, by simp, fun a ha b hb z => hx (by rw [← List.mem_singleton.mp hb, ← z]; exact ha)⟩
  · intro o ho
    rcases List.mem_append.mp ho with z | z
    · exact ol o z
    · rw [List.mem_singleton.mp z]; exact hl
  · intro o ho
    obtain ⟨a, b, c⟩ := m.rl o ho
    exact ⟨a, by simp [b, c]⟩
  · intro o ho
    have := wt_snoc (ls := ls) hx o
    rcases List.mem_append.mp ho with z | z
    · have := k o z; omega
    · rw [List.mem_singleton.mp z] at this ⊢; omega
  · intro o a b
    rw [List.mem_append, List.mem_singleton, not_or] at b
    have h1 := wt_snoc (ls := ls) hx o
    have h2 := f.c o a
    rw [m.rz o a b.1 b.2]
    omega
theorem Kahn.all {loose : List Nat} {ls : Nat → List Nat} {order : List Nat} (k : Kahn loose ls order []) (ac : ∀ n ∈ loose, ∀ s ∈ ls n, s ∈ loose ∧ s < n) : ∀ n, n ∈ loose → n ∈ order := by
  intro n
  induction n using Nat.strongRecOn with
  | ind n ih =>
    intro hn
    refine Classical.byContradiction fun h => ?_
    have nz : wt ls order n ≠ 0 := fun z => by have := (k.rz n hn h).mpr z; simp at this
    refine nz ?_
    unfold wt
    rw [List.length_eq_zero_iff, List.filter_eq_nil_iff]
    intro s hs
    obtain ⟨a, b⟩ := ac n hn s hs
    simpa using ih s b a
theorem Kahn.len {loose : List Nat} {ls : Nat → List Nat} {order : List Nat} (k : Kahn loose ls order []) (nl : loose.Nodup) (ac : ∀ n ∈ loose, ∀ s ∈ ls n, s ∈ loose ∧ s < n) : order.length = loose.length :=
  Nat.le_antisymm (nodup_sub k.no k.ol) (nodup_sub nl (k.all ac))
theorem Kahn.le {loose : List Nat} {ls : Nat → List Nat} {order ready : List Nat} (k : Kahn loose ls order ready) : order.length ≤ loose.length := nodup_sub k.no k.ol
theorem Mid.le {loose : List Nat} {ls : Nat → List Nat} {order done ready : List Nat} {x : Nat} (m : Mid loose ls order x done ready) : ready.length ≤ loose.length := nodup_sub m.nr fun o ho => (m.rl o ho).1
def prs (ls : Nat → List Nat) (l : List Nat) : List (Nat × Nat) := l.flatMap fun n => (ls n).map fun s => (s, n)
def fedOf (pr : List (Nat × Nat)) (s : Nat) : List Nat := (pr.filter fun p => p.1 == s).map (·.2)
theorem fed_snoc (pr : List (Nat × Nat)) (s n s' : Nat) : fedOf (pr ++ [(s, n)]) s' = if s = s' then fedOf pr s' ++ [n] else fedOf pr s' := by
  unfold fedOf
  rw [List.filter_append, List.map_append]
  by_cases e : s = s'
  · simp [e]
  · simp [e]
theorem fed_app (a b : List (Nat × Nat)) (s : Nat) : fedOf (a ++ b) s = fedOf a s ++ fedOf b s := by unfold fedOf; rw [List.filter_append, List.map_append]
theorem fed_one (n s o : Nat) : ∀ l : List Nat, (fedOf (l.map fun s => (s, n)) s).count o = if o = n then l.count s else 0
  | [] => by simp [fedOf]
  | a :: l => by
    have ih := fed_one n s o l
    rw [List.map_cons, show ((a, n) :: l.map fun s => (s, n)) = [(a, n)] ++ l.map fun s => (s, n) from rfl, fed_app, List.count_append, ih]
    by_cases e1 : a = s <;> by_cases e2 : o = n <;> simp [fedOf, e1, e2, List.count_cons, Ne.symm] <;> omega
theorem fed_count (ls : Nat → List Nat) (s o : Nat) : ∀ l : List Nat, l.Nodup → (fedOf (prs ls l) s).count o = if o ∈ l then (ls o).count s else 0
  | [], _ => by simp [fedOf, prs]
  | n :: l, nd => by
    obtain ⟨n1, n2⟩ := List.nodup_cons.mp nd
    have ih := fed_count ls s o l n2
    unfold prs at ih ⊢
    rw [List.flatMap_cons, fed_app, List.count_append, ih, fed_one]
    by_cases e : o = n
    · subst e; simp [n1]
    · simp [e]
theorem fed_by (ls : Nat → List Nat) {l : List Nat} (nd : l.Nodup) (x : Nat) : FedBy l ls x (fedOf (prs ls l) x) := by
  refine ⟨fun o ho => ?_, fun o ho => by rw [fed_count ls x o l nd, if_pos ho]⟩
  unfold fedOf at ho
  obtain ⟨p, hp, rfl⟩ := List.mem_map.mp ho
  obtain ⟨h1, h2⟩ := List.mem_filter.mp hp
  obtain ⟨n, hn, h3⟩ := List.mem_flatMap.mp h1
  obtain ⟨s, hs, rfl⟩ := List.mem_map.mp h3
  have : s = x := by simpa using h2
  subst this
  exact ⟨hn, hs⟩
end L2

set_option maxHeartbeats 4000000
namespace B17
open PySem L2
abbrev Vs (sc : Scope) (x : Str) : Prop := sc.names.lookup x = some NameKind.local ∨ sc.names.lookup x = some NameKind.cell ∨ sc.names.lookup x = some NameKind.free
abbrev Lc (sc : Scope) (x : Str) : Prop := sc.names.lookup x = some NameKind.local ∨ sc.names.lookup x = some NameKind.cell
abbrev Gi (sc : Scope) (x : Str) : Prop := sc.names.lookup x = some NameKind.globalImplicit
abbrev Nd (x : Str) : Prop := (x == ("__debug__" : Str)) = false
abbrev Nc (x : Str) : Prop := (x == ("__classdict__" : Str)) = false
local macro_rules | `(tactic| walk_at "few") => `(tactic| (with_reducible show (List.length (α := Str × V) _) < 1000); first | exact (by decide : 0 < 1000) | exact (by decide : 1 < 1000) | exact (by decide : 2 < 1000) | exact (by decide : 3 < 1000) | exact (by decide : 4 < 1000) | exact (by decide : 5 < 1000) | exact (by decide : 6 < 1000))
local macro_rules | `(tactic| walk_at "get") => `(tactic| first
  | with_reducible assumption
  | exact upd_same
  | (apply g_new; (focus with_reducible assumption); (focus walk_at "get"))
  | (apply g_put; (focus walk_at "ne"); (focus walk_at "get"))
  | (apply Ch.get; (focus with_reducible assumption); (focus walk_at "get"); (focus walk_at "notin")))
local macro_rules | `(tactic| walk_at "ne") => `(tactic| first | with_reducible assumption | (apply Ne.symm; with_reducible assumption) | (apply ne_of; (focus with_reducible assumption); (focus with_reducible assumption); (focus (intro z; cases z))))
local macro_rules | `(tactic| walk_at "notin") => `(tactic| first | exact List.not_mem_nil | (simp only [List.mem_cons, List.not_mem_nil, or_false, not_or, not_false_eq_true]; first | walk_at "ne" | trivial))
local macro_rules | `(tactic| walk_at "scr") => `(tactic| first
  | with_reducible assumption
  | (apply Scr.ch; (focus with_reducible assumption); (focus with_reducible assumption); (focus walk_at "ch"))
  | (apply Scr.same; (focus with_reducible assumption); (focus walk_at "ch")))
local macro_rules | `(tactic| walk_at "ch") => `(tactic| first
  | with_reducible assumption
  | exact Ch.refl _ _
  | exact Ch.put
  | (apply Ch.new; with_reducible assumption)
  | (apply Ch.wk; with_reducible assumption)
  | (apply Ch.own; (focus with_reducible assumption); (focus walk_at "ch"))
  | (apply Ch.trans; (rotate_left; focus with_reducible assumption); (focus walk_at "ch"))
  | (apply Ch.trans; (rotate_left; focus (apply Ch.wk; with_reducible assumption)); (focus walk_at "ch"))
  | (apply Ch.trans; (rotate_left; focus exact Ch.put); (focus walk_at "ch"))
  | (apply Ch.trans; (rotate_left; focus (apply Ch.new; with_reducible assumption)); (focus walk_at "ch")))
local macro_rules | `(tactic| walk_at "sq") => `(tactic| first
  | (apply Scr.sq; walk_at "scr")
  | (apply Exists.intro; walk_at "sq")
  | (refine (‹∀ H : Hp, SqT _ H _ _›) _)
  | (apply SqL.of; walk_at "get")
  | (apply SqT.of; walk_at "get")
  | (apply Or.inl; apply Scr.sq; walk_at "scr")
  | (apply Or.inl; apply SqL.of; walk_at "get")
  | (apply Or.inr; apply SqT.of; walk_at "get"))
local macro_rules | `(tactic| walk_at "arith") => `(tactic| first
  | omega
  | (simp only [List.length_map, List.length_cons, List.length_nil, List.length_append, List.length_singleton, List.length_replicate]; done)
  | ((try dsimp only); (try simp only [List.length_map, List.length_cons, List.length_nil, List.length_append, List.length_singleton, List.length_replicate, sizeLine_eq]); omega)
  | ((try dsimp only); (try simp only [List.length_map, List.length_cons, List.length_nil, List.length_append, List.length_singleton, List.length_replicate, sizeLine_eq] at *); omega))
local macro_rules | `(tactic| walk_at "cond") => `(tactic| first
  | (refine Or.inl (And.intro ?_ ?_) <;> walk_at "arith")
  | (refine Or.inr (And.intro ?_ ?_) <;> walk_at "arith")
  | (refine And.intro ?_ (And.intro ?_ ?_) <;> walk_at "arith")
  | (refine And.intro ?_ ?_ <;> walk_at "arith"))
local macro_rules | `(tactic| walk_at "len") => `(tactic| first
  | with_reducible assumption
  | exact len_one
  | (apply len_slice; walk_at "len")
  | (apply len_app; (focus walk_at "len"); (focus walk_at "len"))
  | exact Nat.le_refl _)
local macro_rules | `(tactic| walk_at "lens") => `(tactic| first
  | (apply len_sum; (focus walk_at "len"); (focus walk_at "len"); (focus first | decide +kernel | walk_at "arith"))
  | (apply len_top; (focus walk_at "len"); (focus first | decide +kernel | walk_at "arith")))
local macro_rules | `(tactic| walk_at "side") => `(tactic| first
  | with_reducible rfl | with_reducible assumption | walk_at "sq" | walk_at "get" | walk_at "scr" | walk_at "ch" | walk_at "ty" | exact TyOf.int _ | exact TyOf.str _ | (apply TyOf.tup; walk_at "get") | (apply TyOf.lst; walk_at "get") | exact TyOf.bl _ | exact TyOf.non | walk_at "few" | decide | omega | walk_at "arith" | walk_at "cond" | ((try simp only [List.length_map]); with_reducible assumption) | walk_at "lens" | (apply Or.inr; with_reducible assumption) | walk_at "user" | exact rfl | assumption)
local macro_rules | `(tactic| walk_at "ty") => `(tactic| (refine Or.inl (And.intro rfl ?_); apply Exists.intro; walk_at "sq"))
local macro_rules | `(tactic| walk_at "user") => `(tactic| fail)
local macro_rules | `(tactic| walk_at "rd1") => `(tactic| first
  | apply Exists.intro
  | (refine And.intro rfl ?_)
  | (refine And.intro (show V.str _ = L2.kV (Sum.inr _) from rfl) ?_)
  | (refine And.intro (show V.int _ = L2.kV (Sum.inl _) from rfl) ?_)
  | (refine And.intro (L2.cut1_not _ _) ?_)
  | (apply And.intro; (focus (walk_at "side"; done)))
  | apply Atx.head
  | (apply Atx.of; (focus first | exact rfl | with_reducible assumption | ((try simp only [List.length_map]); with_reducible assumption)))
  | (apply Or.inl; apply Exists.intro; (refine And.intro rfl ?_))
  | (apply Or.inr; apply Exists.intro; (refine And.intro rfl ?_))
  | (apply Or.inl; apply And.intro; (focus walk_at "sq"))
  | (apply Or.inr; apply And.intro; (focus walk_at "sq"))
  | (intro _)
  | walk_at "fin")
local macro_rules | `(tactic| walk_at "fin") => `(tactic| first | exact rfl | (walk_at "get"; done))
local macro_rules | `(tactic| walk_at "rd") => `(tactic| repeat walk_at "rd1")
section
local macro_rules | `(tactic| walk_at "user") => `(tactic| first
  | (apply dgetS_some; (focus walk_at "get"); (focus with_reducible assumption))
  | (apply dgetI_some; (focus walk_at "get"); (focus with_reducible assumption)))
def top (i : Nat) : Stmt := PySem.Challenge.pw_bitfloor_k48_signals.main.body.getD i (.Pass ⟨0, 0, 0, 0⟩)
def SqX (k : SK) (H : Hp) (a : Addr) (xs : List V) : Prop := match k with
  | .list => H a = some (.lst xs)
  | .tuple => H a = some (.tup xs)
def bi : Bool → Int
  | true => 1
  | false => 0
def bV (b : Bool) : V := .int (bi b)
theorem freeN {H : Hp} {p r : Addr} {o : HO} (hp : H p = none) (hr : upd H p o r = none) : H r = none := by
  by_cases e : r = p
  · rw [e]; exact hp
  · rw [upd_ne e] at hr; exact hr
def nV (a : Nat) : V := .int (a : Int)
theorem chFree {H H' : Hp} (c : Ch [] H H') {r : Addr} (h : H' r = none) : H r = none := by
  cases e : H r with
  | none => rfl
  | some o => rw [c r o e (by simp)] at h; cases h
inductive Th (H : Hp) : V → Prop
  | int (i : Int) : Th H (.int i)
  | non : Th H .non
  | bl (b : Bool) : Th H (.bl b)
  | str (x : Str) : Th H (.str x)
  | lst (a : Addr) (xs : List V) (h : H a = some (.lst xs)) : Th H (.ref a)
def isI : V → Bool
  | .int _ => true
  | _ => false
def belB (v : V) (b : Int) : Bool := match v with
  | .int i => decide (0 ≤ i) && decide (i < b)
  | _ => false
def okB (v : V) : Prop := belB v 2 = true
abbrev Src := Bool × Nat
def srcK (s : Src) : Wr := [.inr (if s.1 then "block" else "in"), .inl (s.2 : Int)]
def cntK (ins many : Nat) : List (Key × V) := [(.inr "in", .int (ins : Int)), (.inr "block", .int (many : Int))]
def lim (ins many : Nat) (s : Src) : Nat := if s.1 then many else ins
theorem cnt_val (ins many : Nat) (s : Src) : valV (cntK ins many) (.inr (if s.1 then "block" else "in")) = some (.int (lim ins many s : Int)) := by
  obtain ⟨b, n⟩ := s
  cases b <;> rfl
abbrev WsAt (H : Hp) : List Wr → List Addr → Prop := Paired (fun k p => H p = some (.tup (k.map kV)))
theorem WsAt.imp {H H' : Hp} (h : ∀ p xs, H p = some (.tup xs) → H' p = some (.tup xs)) : ∀ {ks : List Wr} {ps : List Addr}, WsAt H ks ps → WsAt H' ks ps
  | _, _, .nil => .nil
  | _, _, .cons a t => .cons (h _ _ a) (WsAt.imp h t)
theorem WsAt.snoc {H : Hp} {k : Wr} {p : Addr} (hp : H p = some (.tup (k.map kV))) : ∀ {ks : List Wr} {ps : List Addr}, WsAt H ks ps → WsAt H (ks ++ [k]) (ps ++ [p])
  | _, _, .nil => .cons hp .nil
  | _, _, .cons a t => .cons a (WsAt.snoc hp t)
theorem WsAt.ch {H H' : Hp} {ks : List Wr} {ps : List Addr} (s : WsAt H ks ps) (c : Ch [] H H') : WsAt H' ks ps := s.imp fun p xs h => c.get h (by simp)
theorem ws_get {H : Hp} : ∀ {ws : List Wr} {ps : List Addr}, WsAt H ws ps → ∀ (i : Nat) (x : V), (ps.map V.ref)[i]? = some x → ∃ p k, x = .ref p ∧ ws[i]? = some k ∧ H p = some (.tup (k.map kV))
  | _, _, .nil, i, x, h => by simp at h
  | k :: ws, p :: ps, .cons a t, 0, x, h => ⟨p, k, by simpa using h.symm, rfl, a⟩
  | k :: ws, p :: ps, .cons a t, i + 1, x, h => by
    obtain ⟨p', k', e1, e2, e3⟩ := ws_get t i x (by simpa using h)
    exact ⟨p', k', e1, by simpa using e2, e3⟩
structure Bk where
  ss : List Src
  bits : Int
  kept : Int
  first : Int
  sp : Addr
def room (n : Nat) : Int := [2, 4, 16, 256, 65536].getD n 2
structure Bk.ok (ins many : Nat) (b : Bk) : Prop where
  s4 : b.ss.length ≤ 4
  so : ∀ s ∈ b.ss, s.2 < lim ins many s
  b0 : 0 ≤ b.bits
  b1 : b.bits < room b.ss.length
  k : b.kept = 0 ∨ b.kept = 1
  f0 : 0 ≤ b.first
  f1 : b.first < b.kept + 1
structure BkAt (H : Hp) (b : Bk) (p : Addr) : Prop where
  at_ : H p = some (.tup [.ref b.sp, .int b.bits, .int b.kept, .int b.first])
  ss : ∃ sps, H b.sp = some (.tup (sps.map V.ref)) ∧ WsAt H (b.ss.map srcK) sps
theorem BkAt.imp {H H' : Hp} (h : ∀ p xs, H p = some (.tup xs) → H' p = some (.tup xs)) {b : Bk} {p : Addr} (s : BkAt H b p) : BkAt H' b p := ⟨h _ _ s.at_, let ⟨sps, a, w⟩ := s.ss; ⟨sps, h _ _ a, w.imp h⟩⟩
section
variable {P : Program} {w : World} {K : PySem.W.Frag} {mg : Str → Option Value} {base : Heap} {f : Addr} {fd : FuncData} {k : Nat}
theorem bo_isinstance : bootBuiltins "isinstance" = some (.builtin "isinstance") := by decide +kernel
theorem bo_bool : bootBuiltins "bool" = some (.type "bool") := by decide +kernel
theorem nn_bool : ("bool" : Str) ≠ "__name__" := by decide +kernel
theorem gd_bool : Nd "bool" := by decide +kernel
theorem nn_isinstance : ("isinstance" : Str) ≠ "__name__" := by decide +kernel
theorem gd_isinstance : Nd "isinstance" := by decide +kernel
theorem bo_int : bootBuiltins "int" = some (.type "int") := by decide +kernel
theorem nn_int : ("int" : Str) ≠ "__name__" := by decide +kernel
theorem gd_int : Nd "int" := by decide +kernel
theorem gd_is_whole : Nd "is_whole" := by decide +kernel
theorem bo_tuple : bootBuiltins "tuple" = some (.type "tuple") := by decide +kernel
theorem nn_tuple : ("tuple" : Str) ≠ "__name__" := by decide +kernel
theorem gd_tuple : Nd "tuple" := by decide +kernel
theorem bo_list : bootBuiltins "list" = some (.type "list") := by decide +kernel
theorem nn_list : ("list" : Str) ≠ "__name__" := by decide +kernel
theorem gd_list : Nd "list" := by decide +kernel
theorem bo_str : bootBuiltins "str" = some (.type "str") := by decide +kernel
theorem nn_str : ("str" : Str) ≠ "__name__" := by decide +kernel
theorem gd_str : Nd "str" := by decide +kernel
theorem nn_len : ("len" : Str) ≠ "__name__" := by decide +kernel
theorem gd_len : Nd "len" := by decide +kernel
theorem gd_is_below : Nd "is_below" := by decide +kernel
theorem gd_is_listed : Nd "is_listed" := by decide +kernel
theorem bo_all : bootBuiltins "all" = some (.builtin "all") := by decide +kernel
theorem gd_is_place : Nd "is_place" := by decide +kernel
theorem nn_all : ("all" : Str) ≠ "__name__" := by decide +kernel
theorem gd_all : Nd "all" := by decide +kernel
theorem gd_is_table : Nd "is_table" := by decide +kernel
theorem g4_isinstance : Gi (defScope (top 4)) "isinstance" := by decide +kernel
theorem v4_0 : Vs (defScope (top 4)) "thing" := by decide +kernel
theorem d4_0 : Nd "thing" := by decide +kernel
theorem c4_0 : Nc "thing" := by decide +kernel
theorem g4_bool : Gi (defScope (top 4)) "bool" := by decide +kernel
theorem g4_int : Gi (defScope (top 4)) "int" := by decide +kernel
def spWhole : Sp := fun vs H Q _ => ∃ i : Int, vs = [.int i] ∧ Q (.bl true) H
theorem scWhole : FnScope ["thing"] ["thing"] (defScope (top 4)) := ⟨rfl, rfl, rfl, by decide +kernel, rfl, by decide +kernel, by decide +kernel⟩
theorem ok_whole (F : Fun K "is_whole" "is_whole" (top 4) f fd) (z_isinstance : mg "isinstance" = none) (z_int : mg "int" = none) (z_bool : mg "bool" = none) : FnOk P w K mg base CX0 (k + 1) f fd ["thing"] spWhole := by
  have nd := scWhole.nd
  refine F.ok scWhole (fun vs H Q E h => by obtain ⟨i, rfl, _⟩ := h; rfl) (fun cdv A outer s H vs Q E hr h => ?_)
  obtain ⟨i, rfl, q⟩ := h
  refine ⟨_, (Pr.h (qpss_one (qps_ret (qpe_and (qpe_callB call_isT g4_isinstance z_isinstance bo_isinstance (qpa_cons (qpe_var (i := 0) rfl v4_0 d4_0 c4_0) (qpa_cons (qpe_bltn (v := .ty "int") g4_int z_int bo_int rfl nn_int gd_int) qpa_nil)) nn_isinstance gd_isinstance) (qpe_one (qpe_not (qpe_callB call_isT g4_isinstance z_isinstance bo_isinstance (qpa_cons (qpe_var (i := 0) rfl v4_0 d4_0 c4_0) (qpa_cons (qpe_bltn (v := .ty "bool") g4_bool z_bool bo_bool rfl nn_bool gd_bool) qpa_nil)) nn_isinstance gd_isinstance))))))), ?_⟩
  (try dsimp only [cxOf])
  walk_at "rd"
  exact q
theorem v5_0 : Vs (defScope (top 5)) "thing" := by decide +kernel
theorem d5_0 : Nd "thing" := by decide +kernel
theorem c5_0 : Nc "thing" := by decide +kernel
theorem v5_1 : Vs (defScope (top 5)) "bound" := by decide +kernel
theorem d5_1 : Nd "bound" := by decide +kernel
theorem c5_1 : Nc "bound" := by decide +kernel
theorem g5_is_whole : Gi (defScope (top 5)) "is_whole" := by decide +kernel
def spBelow : Sp := fun vs H Q _ => ∃ i b : Int, vs = [.int i, .int b] ∧ 0 ≤ i ∧ i < b ∧ Q (.bl true) H
theorem scBelow : FnScope ["thing", "bound"] ["thing", "bound"] (defScope (top 5)) := ⟨rfl, rfl, rfl, by decide +kernel, rfl, by decide +kernel, by decide +kernel⟩
theorem ok_below (F : Fun K "is_below" "is_below" (top 5) f fd) (Dis_whole : DefOk P w K mg base CX0 k "is_whole" ["thing"] spWhole) : FnOk P w K mg base CX0 (k + 1) f fd ["thing", "bound"] spBelow := by
  have nd := scBelow.nd
  refine F.ok scBelow (fun vs H Q E h => by obtain ⟨i, b, rfl, _⟩ := h; rfl) (fun cdv A outer s H vs Q E hr h => ?_)
  obtain ⟨i, b, rfl, h0, h1, q⟩ := h
  refine ⟨_, (Pr.h (qpss_one (qps_ret (qpe_and (qpe_callD Dis_whole hr g5_is_whole pass0 (qpa_cons (qpe_var (i := 0) rfl v5_0 d5_0 c5_0) qpa_nil se_Name) gd_is_whole) (qpe_one (qpe_chain op_le op_lt qpe_int (qpe_var (i := 0) rfl v5_0 d5_0 c5_0) (qpe_var (i := 1) rfl v5_1 d5_1 c5_1))))))), ?_⟩
  (try dsimp only [cxOf])
  walk_at "rd"
  refine iteD h0 ?_
  walk_at "rd"
  show Q (.bl (decide (i < b))) H
  rw [decide_eq_true h1]
  exact q
theorem g6_tuple : Gi (defScope (top 6)) "tuple" := by decide +kernel
theorem g6_list : Gi (defScope (top 6)) "list" := by decide +kernel
theorem g6_isinstance : Gi (defScope (top 6)) "isinstance" := by decide +kernel
theorem v6_0 : Vs (defScope (top 6)) "thing" := by decide +kernel
theorem d6_0 : Nd "thing" := by decide +kernel
theorem c6_0 : Nc "thing" := by decide +kernel
def spListed : Sp := fun vs H Q _ => ∃ (kd : SK) (a : Addr) (xs : List V), vs = [.ref a] ∧ SqX kd H a xs ∧ ∀ H', Ch [] H H' → Q (.bl true) H'
theorem scListed : FnScope ["thing"] ["thing"] (defScope (top 6)) := ⟨rfl, rfl, rfl, by decide +kernel, rfl, by decide +kernel, by decide +kernel⟩
theorem ok_listed (F : Fun K "is_listed" "is_listed" (top 6) f fd) (z_isinstance : mg "isinstance" = none) (z_list : mg "list" = none) (z_tuple : mg "tuple" = none) : FnOk P w K mg base CX0 (k + 1) f fd ["thing"] spListed := by
  have nd := scListed.nd
  refine F.ok scListed (fun vs H Q E h => by obtain ⟨kd, a, xs, rfl, _⟩ := h; rfl) (fun cdv A outer s H vs Q E hr h => ?_)
  obtain ⟨kd, a, xs, rfl, hx, q⟩ := h
  refine ⟨_, (Pr.h (qpss_one (qps_ret (qpe_callB call_isT2 g6_isinstance z_isinstance bo_isinstance (qpa_cons (qpe_var (i := 0) rfl v6_0 d6_0 c6_0) (qpa_cons (qpe_tup (qpa_cons (qpe_bltn (v := .ty "list") g6_list z_list bo_list rfl nn_list gd_list) (qpa_cons (qpe_bltn (v := .ty "tuple") g6_tuple z_tuple bo_tuple rfl nn_tuple gd_tuple) qpa_nil se_Name) se_Name)) qpa_nil)) nn_isinstance gd_isinstance)))), ?_⟩
  (try dsimp only [cxOf])
  cases kd with
  | list =>
    have hx : H a = some (.lst xs) := hx
    walk_at "rd"
    exact q _ (Ch.new (by assumption) _)
  | tuple =>
    have hx : H a = some (.tup xs) := hx
    walk_at "rd"
    exact q _ (Ch.new (by assumption) _)
theorem g7_isinstance : Gi (defScope (top 7)) "isinstance" := by decide +kernel
theorem v7_0 : Vs (defScope (top 7)) "thing" := by decide +kernel
theorem d7_0 : Nd "thing" := by decide +kernel
theorem c7_0 : Nc "thing" := by decide +kernel
theorem g7_str : Gi (defScope (top 7)) "str" := by decide +kernel
theorem g7_len : Gi (defScope (top 7)) "len" := by decide +kernel
theorem g7_tuple : Gi (defScope (top 7)) "tuple" := by decide +kernel
theorem g7_is_below : Gi (defScope (top 7)) "is_below" := by decide +kernel
theorem v7_1 : Vs (defScope (top 7)) "counts" := by decide +kernel
theorem d7_1 : Nd "counts" := by decide +kernel
theorem c7_1 : Nc "counts" := by decide +kernel
def spPlace : Sp := fun vs H Q _ => ∃ (p cd : Addr) (ins many : Nat) (s : Src), vs = [.ref p, .ref cd] ∧ H p = some (.tup ((srcK s).map kV)) ∧ H cd = some (.dK (cntK ins many)) ∧ s.2 < lim ins many s ∧ Q (.bl true) H
theorem scPlace : FnScope ["thing", "counts"] ["thing", "counts"] (defScope (top 7)) := ⟨rfl, rfl, rfl, by decide +kernel, rfl, by decide +kernel, by decide +kernel⟩
theorem ok_place (F : Fun K "is_place" "is_place" (top 7) f fd) (Dis_below : DefOk P w K mg base CX0 k "is_below" ["thing", "bound"] spBelow) (z_isinstance : mg "isinstance" = none) (z_tuple : mg "tuple" = none) (z_str : mg "str" = none) (z_len : mg "len" = none) : FnOk P w K mg base CX0 (k + 1) f fd ["thing", "counts"] spPlace := by
  have nd := scPlace.nd
  refine F.ok scPlace (fun vs H Q E h => by obtain ⟨p, cd, ins, many, s, rfl, _⟩ := h; rfl) (fun cdv A outer s H vs Q E hr h => ?_)
  obtain ⟨p, cd, ins, many, sr, rfl, hp, hc, hl, q⟩ := h
  have hu := hu_of hr
  refine ⟨_, (Pr.h (qpss_cons (qps_if (qPW_pt (qpw_or (qpt_not (qpt_val (qpe_callB call_isT g7_isinstance z_isinstance bo_isinstance (qpa_cons (qpe_var (i := 0) rfl v7_0 d7_0 c7_0) (qpa_cons (qpe_bltn (v := .ty "tuple") g7_tuple z_tuple bo_tuple rfl nn_tuple gd_tuple) qpa_nil)) nn_isinstance gd_isinstance))) (qpw_or (qpt_cmpR op_ne (qpe_callB call_len_seq g7_len z_len PySem.boot_len (qpa_cons (qpe_var (i := 0) rfl v7_0 d7_0 c7_0) qpa_nil se_Name) nn_len gd_len) qpe_int (nomark _)) (qpw_or1 (qpt_not (qpt_val (qpe_callB call_isT g7_isinstance z_isinstance bo_isinstance (qpa_cons (qpe_ix ixa_tup (qpe_var (i := 0) rfl v7_0 d7_0 c7_0) qpe_int (fun _ _ => rfl)) (qpa_cons (qpe_bltn (v := .ty "str") g7_str z_str bo_str rfl nn_str gd_str) qpa_nil)) nn_isinstance gd_isinstance)))))))
  (qpss_one (qps_ret qpe_bl))
  qpss_nil)
 (qpss_one (qps_ret (qpe_and (qpe_din hu (qpe_ix ixa_tup (qpe_var (i := 0) rfl v7_0 d7_0 c7_0) qpe_int (fun _ _ => rfl)) (qpe_var (i := 1) rfl v7_1 d7_1 c7_1)) (qpe_one (qpe_callD Dis_below hr g7_is_below pass0 (qpa_cons (qpe_ix ixa_tup (qpe_var (i := 0) rfl v7_0 d7_0 c7_0) qpe_int (fun _ _ => rfl)) (qpa_cons (qpe_dgetT hu (qpe_var (i := 1) rfl v7_1 d7_1 c7_1) (qpe_ix ixa_tup (qpe_var (i := 0) rfl v7_0 d7_0 c7_0) qpe_int (fun _ _ => rfl)) (fun _ _ => rfl)) qpa_nil se_Subscript) se_Subscript) gd_is_below))))))), ?_⟩
  (try dsimp only [cxOf])
  have hp : H p = some (.tup [.str (if sr.1 then "block" else "in"), .int (sr.2 : Int)]) := hp
  have cv := cnt_val ins many sr
  have hl' : (sr.2 : Int) < (lim ins many sr : Int) := by omega
  walk_at "rd"
theorem g11_len : Gi (defScope (top 11)) "len" := by decide +kernel
theorem v11_0 : Vs (defScope (top 11)) "thing" := by decide +kernel
theorem d11_0 : Nd "thing" := by decide +kernel
theorem c11_0 : Nc "thing" := by decide +kernel
theorem g11_is_listed : Gi (defScope (top 11)) "is_listed" := by decide +kernel
theorem g11_isinstance : Gi (defScope (top 11)) "isinstance" := by decide +kernel
theorem g11_tuple : Gi (defScope (top 11)) "tuple" := by decide +kernel
theorem g11_all : Gi (defScope (top 11)) "all" := by decide +kernel
def csc11_0 : Scope := { kind := PySem.ScopeKind.function, names := [ (PySem.Str.ofString ".0", PySem.NameKind.local), (PySem.Str.ofString "leaf", PySem.NameKind.local), (PySem.Str.ofString "is_place", PySem.NameKind.globalImplicit), (PySem.Str.ofString "counts", PySem.NameKind.free)], isGenerator := false, isCoroutine := false, more := [] : PySem.Scope }
theorem cok11_0 : CompOk csc11_0 (defScope (top 11)) (["leaf"] : List Str) (["thing", "counts"] : List Str) [1] (["leaf", "counts"] : List Str) := compOk rfl (by decide +kernel) (by decide +kernel) (by decide +kernel) (by decide +kernel) rfl (by decide +kernel)
theorem kq11_0_0 : (relab csc11_0 (defScope (top 11))).names.lookup (Str.ofString "leaf") = some NameKind.local := by decide +kernel
theorem gq11_0_is_place : Gi (relab csc11_0 (defScope (top 11))) "is_place" := by decide +kernel
theorem vq11_0_1 : Vs (relab csc11_0 (defScope (top 11))) "counts" := by decide +kernel
theorem dq11_0_1 : Nd "counts" := by decide +kernel
theorem cq11_0_1 : Nc "counts" := by decide +kernel
theorem vq11_0_0 : Vs (relab csc11_0 (defScope (top 11))) "leaf" := by decide +kernel
theorem dq11_0_0 : Nd "leaf" := by decide +kernel
theorem cq11_0_0 : Nc "leaf" := by decide +kernel
theorem g11_is_below : Gi (defScope (top 11)) "is_below" := by decide +kernel
def spTable : Sp := fun vs H Q _ => ∃ (p cd : Addr) (ins many : Nat) (b : Bk) (sps : List Addr), vs = [.ref p, .ref cd] ∧ H p = some (.tup [.ref b.sp, .int b.bits]) ∧ H cd = some (.dK (cntK ins many)) ∧ H b.sp = some (.tup (sps.map V.ref)) ∧ WsAt H (b.ss.map srcK) sps ∧ b.ok ins many ∧ ∀ H', Ch [] H H' → Q (.bl true) H'
theorem scTable : FnScope ["thing", "counts"] ["thing", "counts"] (defScope (top 11)) := ⟨rfl, rfl, rfl, by decide +kernel, rfl, by decide +kernel, by decide +kernel⟩
theorem ok_table (F : Fun K "is_table" "is_table" (top 11) f fd) (Dis_below : DefOk P w K mg base CX0 k "is_below" ["thing", "bound"] spBelow) (Dis_listed : DefOk P w K mg base CX0 k "is_listed" ["thing"] spListed) (Dis_place : DefOk P w K mg base CX0 k "is_place" ["thing", "counts"] spPlace) (z_isinstance : mg "isinstance" = none) (z_tuple : mg "tuple" = none) (z_all : mg "all" = none) (z_len : mg "len" = none) : FnOk P w K mg base CX0 (k + 1) f fd ["thing", "counts"] spTable := by
  have nd := scTable.nd
  refine F.ok scTable (fun vs H Q E h => by obtain ⟨p, cd, ins, many, b, sps, rfl, _⟩ := h; rfl) (fun cdv A outer s H vs Q E hr h => ?_)
  obtain ⟨p, cd, ins, many, b, sps, rfl, hp, hc, hs, ws, ok, q⟩ := h
  have hu := hu_of hr
  have ls := Paired.length ws
  rw [List.length_map] at ls
  have s4 := ok.s4
  have sx : SqX .tuple H b.sp (sps.map V.ref) := hs
  have b0 := ok.b0
  have b1 : b.bits < 1 * 2 ^ (1 * 2 ^ ((sps.map V.ref).length : Int).toNat : Int).toNat := by
    have := ok.b1
    rw [List.length_map, ← ls, Int.toNat_natCast]
    have e5 : b.ss.length = 0 ∨ b.ss.length = 1 ∨ b.ss.length = 2 ∨ b.ss.length = 3 ∨ b.ss.length = 4 := by omega
    rcases e5 with e | e | e | e | e <;> rw [e] at this ⊢ <;> exact this
  have l4 : (sps.map V.ref).length ≤ 4 := by rw [List.length_map]; omega
  refine ⟨_, (Pr.h (qpss_cons (qps_if (qPW_pt (qpw_or (qpt_not (qpt_val (qpe_callB call_isT g11_isinstance z_isinstance bo_isinstance (qpa_cons (qpe_var (i := 0) rfl v11_0 d11_0 c11_0) (qpa_cons (qpe_bltn (v := .ty "tuple") g11_tuple z_tuple bo_tuple rfl nn_tuple gd_tuple) qpa_nil)) nn_isinstance gd_isinstance))) (qpw_or (qpt_cmpR op_ne (qpe_callB call_len_seq g11_len z_len PySem.boot_len (qpa_cons (qpe_var (i := 0) rfl v11_0 d11_0 c11_0) qpa_nil se_Name) nn_len gd_len) qpe_int (nomark _)) (qpw_or (qpt_not (qpt_val (qpe_callD Dis_listed hr g11_is_listed pass0 (qpa_cons (qpe_ix ixa_tup (qpe_var (i := 0) rfl v11_0 d11_0 c11_0) qpe_int (fun _ _ => rfl)) qpa_nil se_Subscript) gd_is_listed))) (qpw_or1 (qpt_cmpR op_gt (qpe_callB call_len_seq g11_len z_len PySem.boot_len (qpa_cons (qpe_ix ixa_tup (qpe_var (i := 0) rfl v11_0 d11_0 c11_0) qpe_int (fun _ _ => rfl)) qpa_nil se_Subscript) nn_len gd_len) qpe_int (nomark _)))))))
  (qpss_one (qps_ret qpe_bl))
  qpss_nil)
 (qpss_one (qps_ret (qpe_and (qpe_callD Dis_below hr g11_is_below pass0 (qpa_cons (qpe_ix ixa_tup (qpe_var (i := 0) rfl v11_0 d11_0 c11_0) qpe_int (fun _ _ => rfl)) (qpa_cons (qpe_op op_shl qpe_int (qpe_op op_shl qpe_int (qpe_callB call_len_seq g11_len z_len PySem.boot_len (qpa_cons (qpe_ix ixa_tup (qpe_var (i := 0) rfl v11_0 d11_0 c11_0) qpe_int (fun _ _ => rfl)) qpa_nil se_Subscript) nn_len gd_len))) qpa_nil se_BinOp) se_Subscript) gd_is_below) (qpe_one (qpe_callB (call_all rfl) g11_all z_all bo_all (qpa_cons (qpe_comp rfl cok11_0 (qpi_tup (qpe_ix ixa_tup (qpe_var (i := 0) rfl v11_0 d11_0 c11_0) qpe_int (fun _ _ => rfl))) (fun _ _ _ _ _ => (qpg_name (i := 0) cok11_0.nd rfl (Or.inl kq11_0_0) (Or.inr kq11_0_0))) (fun _ _ _ _ _ => qpif_nil) (fun _ _ _ _ _ => (qpe_callD Dis_place hr gq11_0_is_place pass0 (qpa_cons (qpe_var (i := 0) rfl vq11_0_0 dq11_0_0 cq11_0_0) (qpa_cons (qpe_var (i := 1) rfl vq11_0_1 dq11_0_1 cq11_0_1) qpa_nil se_Name) se_Name) gd_is_place))) qpa_nil se_ListComp) nn_all gd_all))))))), ?_⟩
  (try dsimp only [cxOf])
  walk_at "rd"
  rename_i H1 c1
  refine ite2 (fun hc => absurd (of_decide_eq_true hc) (by omega)) (fun _ => ?_)
  have hp1 : H1 p = some (.tup [.ref b.sp, .int b.bits]) := c1.get hp (by simp)
  have hs1 : H1 b.sp = some (.tup (sps.map V.ref)) := c1.get hs (by simp)
  have p0 : (0 : Int) ≤ 1 * 2 ^ ((sps.map V.ref).length : Int).toNat := by rw [Int.one_mul]; exact Int.le_of_lt (Int.pow_pos (by decide))
  have p1 : (1 : Int) * 2 ^ ((sps.map V.ref).length : Int).toNat ≤ 16 := by
    rw [Int.toNat_natCast]
    have e5 : (sps.map V.ref).length = 0 ∨ (sps.map V.ref).length = 1 ∨ (sps.map V.ref).length = 2 ∨ (sps.map V.ref).length = 3 ∨ (sps.map V.ref).length = 4 := by omega
    rcases e5 with e | e | e | e | e <;> rw [e] <;> decide
  clear hp hs sx
  walk_at "rd"
  refine comp_tup (sps.map V.ref) (fun i ys σ H' => H' = H1 ∧ ys = List.replicate i (V.bl true) ∧ ∃ u, σ = [u, some (.ref cd)]) (by rw [sizeLine_eq]; omega) ⟨rfl, rfl, _, rfl⟩ ?_ ?_ ?_
  · rintro i ys σ H' hi ⟨rfl, rfl, _⟩
    exact ⟨by simp, SqT.of hs1⟩
  · rintro i ys σ H' z hz ⟨rfl, rfl, u, rfl⟩
    obtain ⟨pl, x, rfl, e1, e2⟩ := ws_get (ws.ch c1) i z hz
    rw [List.getElem?_map] at e1
    obtain ⟨sr, es, rfl⟩ := Option.map_eq_some_iff.mp e1
    have so := ok.so sr (List.mem_of_getElem? es)
    have hc1 : H' cd = some (.dK (cntK ins many)) := c1.get hc (by simp)
    walk_at "rd"
    exact ⟨by rw [← List.replicate_succ'], _, rfl⟩
  · rintro ys σ H' ⟨rfl, rfl, _⟩
    intro D hD
    refine ⟨D, List.replicate (sps.map V.ref).length true, rfl, by rw [upd_same, List.map_replicate], ?_⟩
    rw [show (List.replicate (sps.map V.ref).length true).all id = true from by simp [List.all_replicate]]
    exact q _ (c1.trans (Ch.new hD _))
theorem g13_is_table : Gi (defScope (top 13)) "is_table" := by decide +kernel
theorem v13_1 : Vs (defScope (top 13)) "counts" := by decide +kernel
theorem d13_1 : Nd "counts" := by decide +kernel
theorem c13_1 : Nc "counts" := by decide +kernel
theorem v13_0 : Vs (defScope (top 13)) "thing" := by decide +kernel
theorem d13_0 : Nd "thing" := by decide +kernel
theorem c13_0 : Nc "thing" := by decide +kernel
theorem g13_len : Gi (defScope (top 13)) "len" := by decide +kernel
theorem g13_isinstance : Gi (defScope (top 13)) "isinstance" := by decide +kernel
theorem g13_tuple : Gi (defScope (top 13)) "tuple" := by decide +kernel
theorem g13_is_below : Gi (defScope (top 13)) "is_below" := by decide +kernel
def spBlock : Sp := fun vs H Q _ => ∃ (p cd : Addr) (ins many : Nat) (b : Bk), vs = [.ref p, .ref cd] ∧ BkAt H b p ∧ H cd = some (.dK (cntK ins many)) ∧ b.ok ins many ∧ ∀ H', Ch [] H H' → Q (.bl true) H'
theorem scBlock : FnScope ["thing", "counts"] ["thing", "counts"] (defScope (top 13)) := ⟨rfl, rfl, rfl, by decide +kernel, rfl, by decide +kernel, by decide +kernel⟩
theorem ok_block (F : Fun K "is_block" "is_block" (top 13) f fd) (Dis_below : DefOk P w K mg base CX0 k "is_below" ["thing", "bound"] spBelow) (Dis_table : DefOk P w K mg base CX0 k "is_table" ["thing", "counts"] spTable) (z_isinstance : mg "isinstance" = none) (z_tuple : mg "tuple" = none) (z_len : mg "len" = none) : FnOk P w K mg base CX0 (k + 1) f fd ["thing", "counts"] spBlock := by
  have nd := scBlock.nd
  refine F.ok scBlock (fun vs H Q E h => by obtain ⟨p, cd, ins, many, b, rfl, _⟩ := h; rfl) (fun cdv A outer s H vs Q E hr h => ?_)
  obtain ⟨p, cd, ins, many, b, rfl, ⟨hp, sps, hs, ws⟩, hc, ok, q⟩ := h
  have hu := hu_of hr
  obtain ⟨s4, so, b0, b1, kk, f0, f1⟩ := id ok
  refine ⟨_, (Pr.h (qpss_cons (qps_if (qPW_pt (qpw_or (qpt_not (qpt_val (qpe_callB call_isT g13_isinstance z_isinstance bo_isinstance (qpa_cons (qpe_var (i := 0) rfl v13_0 d13_0 c13_0) (qpa_cons (qpe_bltn (v := .ty "tuple") g13_tuple z_tuple bo_tuple rfl nn_tuple gd_tuple) qpa_nil)) nn_isinstance gd_isinstance))) (qpw_or (qpt_cmpR op_ne (qpe_callB call_len_seq g13_len z_len PySem.boot_len (qpa_cons (qpe_var (i := 0) rfl v13_0 d13_0 c13_0) qpa_nil se_Name) nn_len gd_len) qpe_int (nomark _)) (qpw_or1 (qpt_not (qpt_val (qpe_callD Dis_table hr g13_is_table pass0 (qpa_cons (qpe_slice sl_tup (qpe_var (i := 0) rfl v13_0 d13_0 c13_0) qpo_none (qpo_some qpe_int)) (qpa_cons (qpe_var (i := 1) rfl v13_1 d13_1 c13_1) qpa_nil se_Name) se_Subscript) gd_is_table)))))))
  (qpss_one (qps_ret qpe_bl))
  qpss_nil)
 (qpss_one (qps_ret (qpe_and (qpe_callD Dis_below hr g13_is_below pass0 (qpa_cons (qpe_ix ixa_tup (qpe_var (i := 0) rfl v13_0 d13_0 c13_0) qpe_int (fun _ _ => rfl)) (qpa_cons qpe_int qpa_nil se_Constant) se_Subscript) gd_is_below) (qpe_one (qpe_callD Dis_below hr g13_is_below pass0 (qpa_cons (qpe_ix ixa_tup (qpe_var (i := 0) rfl v13_0 d13_0 c13_0) qpe_int (fun _ _ => rfl)) (qpa_cons (qpe_op op_add (qpe_ix ixa_tup (qpe_var (i := 0) rfl v13_0 d13_0 c13_0) qpe_int (fun _ _ => rfl)) qpe_int) qpa_nil se_BinOp) se_Subscript) gd_is_below))))))), ?_⟩
  (try dsimp only [cxOf])
  walk_at "rd"
  refine ⟨fun z => absurd z.2 (by show ¬ (2 = 4); decide), fun t2 ht2 => ?_⟩
  refine ⟨_, rfl, t2, cd, ins, many, b, sps, rfl, upd_same, g_new ht2 hc, g_new ht2 hs, ws.ch (Ch.new ht2 _), ok, fun H1 c1 => ?_⟩
  have cc := (Ch.new (o := .tup [.ref b.sp, .int b.bits]) ht2).trans c1
  have hp1 : H1 p = some (.tup [.ref b.sp, .int b.bits, .int b.kept, .int b.first]) := cc.get hp (by simp)
  walk_at "rd"
  exact q _ cc
end
end

section
abbrev BsAt (H : Hp) : List Bk → List Addr → Prop := Paired (BkAt H)
theorem bs_imp {H H' : Hp} (h : ∀ p xs, H p = some (.tup xs) → H' p = some (.tup xs)) : ∀ {bs : List Bk} {ps : List Addr}, BsAt H bs ps → BsAt H' bs ps
  | _, _, .nil => .nil
  | _, _, .cons a t => .cons (a.imp h) (bs_imp h t)
theorem bs_ch {H H' : Hp} (c : Ch [] H H') {bs : List Bk} {ps : List Addr} (s : BsAt H bs ps) : BsAt H' bs ps := bs_imp (fun p xs h => c.get h (by simp)) s
theorem bs_get {H : Hp} : ∀ {bs : List Bk} {ps : List Addr}, BsAt H bs ps → ∀ (i : Nat), i < bs.length → ∃ p b, (ps.map V.ref)[i]? = some (.ref p) ∧ bs[i]? = some b ∧ BkAt H b p
  | _, _, .nil, i, h => by simp at h
  | b :: bs, p :: ps, .cons a t, 0, _ => ⟨p, b, rfl, rfl, a⟩
  | b :: bs, p :: ps, .cons a t, i + 1, h => by
    obtain ⟨p', b', e1, e2, e3⟩ := bs_get t i (by simpa using h)
    exact ⟨p', b', by simpa using e1, by simpa using e2, e3⟩
theorem bs_at {H : Hp} {bs : List Bk} {ps : List Addr} (s : BsAt H bs ps) (i : Nat) (h : i < bs.length) : ∃ p b, atI (ps.map V.ref) (i : Int) = some (.ref p) ∧ bs[i]? = some b ∧ BkAt H b p := by
  obtain ⟨p, b, e1, e2, e3⟩ := bs_get s i h
  exact ⟨p, b, atI_nat e1, e2, e3⟩
def loB (bs : List Bk) (n : Nat) : Bool := match bs[n]? with
  | some b => decide (b.kept = 0)
  | none => false
def lsOf (bs : List Bk) (n : Nat) : List Nat := match bs[n]? with
  | some b => (b.ss.filter fun s => s.1 && loB bs s.2).map (·.2)
  | none => []
def looseOf (bs : List Bk) : List Nat := (List.range bs.length).filter (loB bs)
theorem loB_of {bs : List Bk} {n : Nat} {b : Bk} (h : bs[n]? = some b) : loB bs n = decide (b.kept = 0) := by unfold loB; rw [h]
theorem lsOf_of {bs : List Bk} {n : Nat} {b : Bk} (h : bs[n]? = some b) : lsOf bs n = (b.ss.filter fun s => s.1 && loB bs s.2).map (·.2) := by unfold lsOf; rw [h]
section
variable {P : Program} {w : World} {K : PySem.W.Frag} {mg : Str → Option Value} {base : Heap} {f : Addr} {fd : FuncData} {k : Nat}
theorem v14_0 : Vs (defScope (top 14)) "blocks" := by decide +kernel
theorem d14_0 : Nd "blocks" := by decide +kernel
theorem c14_0 : Nc "blocks" := by decide +kernel
theorem v14_1 : Vs (defScope (top 14)) "number" := by decide +kernel
theorem d14_1 : Nd "number" := by decide +kernel
theorem c14_1 : Nc "number" := by decide +kernel
def csc14_0 : Scope := { kind := PySem.ScopeKind.function, names := [ (PySem.Str.ofString ".0", PySem.NameKind.local), (PySem.Str.ofString "word", PySem.NameKind.local), (PySem.Str.ofString "other", PySem.NameKind.local), (PySem.Str.ofString "blocks", PySem.NameKind.free)], isGenerator := false, isCoroutine := false, more := [] : PySem.Scope }
theorem cok14_0 : CompOk csc14_0 (defScope (top 14)) (["word", "other"] : List Str) (["blocks", "number"] : List Str) [0] (["word", "other", "blocks"] : List Str) := compOk rfl (by decide +kernel) (by decide +kernel) (by decide +kernel) (by decide +kernel) rfl (by decide +kernel)
theorem kq14_0_1 : (relab csc14_0 (defScope (top 14))).names.lookup (Str.ofString "other") = some NameKind.local := by decide +kernel
theorem kq14_0_0 : (relab csc14_0 (defScope (top 14))).names.lookup (Str.ofString "word") = some NameKind.local := by decide +kernel
theorem vq14_0_2 : Vs (relab csc14_0 (defScope (top 14))) "blocks" := by decide +kernel
theorem dq14_0_2 : Nd "blocks" := by decide +kernel
theorem cq14_0_2 : Nc "blocks" := by decide +kernel
theorem vq14_0_1 : Vs (relab csc14_0 (defScope (top 14))) "other" := by decide +kernel
theorem dq14_0_1 : Nd "other" := by decide +kernel
theorem cq14_0_1 : Nc "other" := by decide +kernel
theorem vq14_0_0 : Vs (relab csc14_0 (defScope (top 14))) "word" := by decide +kernel
theorem dq14_0_0 : Nd "word" := by decide +kernel
theorem cq14_0_0 : Nc "word" := by decide +kernel
def spLS : Sp := fun vs H Q _ => ∃ (bl : Addr) (n ins : Nat) (bs : List Bk) (ps : List Addr), vs = [.ref bl, .int (n : Int)] ∧ H bl = some (.lst (ps.map V.ref)) ∧ BsAt H bs ps ∧ (∀ b ∈ bs, b.ok ins bs.length) ∧ n < bs.length ∧
  ∀ p H', Ch [] H H' → H p = none → H' p = some (.lst ((lsOf bs n).map nV)) → Q (.ref p) H'
theorem scLS : FnScope ["blocks", "number"] ["blocks", "number"] (defScope (top 14)) := ⟨rfl, rfl, rfl, by decide +kernel, rfl, by decide +kernel, by decide +kernel⟩
theorem ok_ls (F : Fun K "loose_sources" "loose_sources" (top 14) f fd) : FnOk P w K mg base CX0 (k + 1) f fd ["blocks", "number"] spLS := by
  have nd := scLS.nd
  refine F.ok scLS (fun vs H Q E h => by obtain ⟨bl, n, ins, bs, ps, rfl, _⟩ := h; rfl) (fun cdv A outer s H vs Q E hr h => ?_)
  obtain ⟨bl, n, ins, bs, ps, rfl, hb, bt, ok, hn, q⟩ := h
  obtain ⟨p, b, e1, e2, ⟨hp, sps, hs, ws⟩⟩ := bs_at bt n hn
  have okb := ok b (List.mem_of_getElem? e2)
  have ls := Paired.length ws
  rw [List.length_map] at ls
  have s4 := okb.s4
  refine ⟨_, (Pr.h (qpss_one (qps_ret (qpe_comp rfl cok14_0 (qpi_tup (qpe_ix ixa_tup (qpe_ix ixa_list (qpe_var (i := 0) rfl v14_0 d14_0 c14_0) (qpe_var (i := 1) rfl v14_1 d14_1 c14_1) (fun _ _ => rfl)) qpe_int (fun _ _ => rfl))) (fun _ _ _ _ _ => (qpg_tupK K 2 rfl rfl (qpgs_cons (qpg_name (i := 0) cok14_0.nd rfl (Or.inl kq14_0_0) (Or.inr kq14_0_0)) (qpgs_cons (qpg_name (i := 1) cok14_0.nd rfl (Or.inl kq14_0_1) (Or.inr kq14_0_1)) qpgs_nil)))) (fun _ _ _ _ _ => (qpif_one (qPW_pt (qpw_and (qpt_cmpR op_eq (qpe_var (i := 0) rfl vq14_0_0 dq14_0_0 cq14_0_0) qpe_str (nomark _)) (qpw_and1 (qpt_cmpR op_eq (qpe_ix (ixaK_tup K rfl) (qpe_ix (ixaK_list K rfl) (qpe_var (i := 2) rfl vq14_0_2 dq14_0_2 cq14_0_2) (qpe_var (i := 1) rfl vq14_0_1 dq14_0_1 cq14_0_1) (fun _ _ => rfl)) qpe_int (fun _ _ => rfl)) qpe_int (nomark _))))))) (fun _ _ _ _ _ => (qpe_var (i := 1) rfl vq14_0_1 dq14_0_1 cq14_0_1)))))), ?_⟩
  (try dsimp only [cxOf])
  walk_at "rd"
  refine comp_tup (sps.map V.ref) (fun i ys σ H' => H' = H ∧ ys = (((b.ss.take i).filter fun s => s.1 && loB bs s.2).map (·.2)).map nV ∧ ∃ u v, σ = [u, v, some (.ref bl)]) (by rw [sizeLine_eq, List.length_map]; omega) ⟨rfl, rfl, _, _, rfl⟩ ?_ ?_ ?_
  · rintro i ys σ H' hi ⟨rfl, rfl, _⟩
    refine ⟨?_, SqT.of hs⟩
    rw [List.length_map, List.length_map]
    exact Nat.le_trans (List.length_filter_le _ _) (by rw [List.length_take]; omega)
  · rintro i ys σ H' z hz ⟨rfl, rfl, u, v, rfl⟩
    obtain ⟨pl, x, rfl, g1, g2⟩ := ws_get ws i z hz
    rw [List.getElem?_map] at g1
    obtain ⟨sr, es, rfl⟩ := Option.map_eq_some_iff.mp g1
    have so := okb.so sr (List.mem_of_getElem? es)
    have et : b.ss.take (i + 1) = b.ss.take i ++ [sr] := by rw [List.take_add_one, es]; rfl
    rw [et, List.filter_append, List.map_append, List.map_append]
    obtain ⟨sb, sn⟩ := sr
    cases sb with
    | false =>
      have g2 : H' pl = some (.tup [.str "in", .int (sn : Int)]) := g2
      walk_at "rd"
      exact ⟨by simp, _, _, rfl⟩
    | true =>
      have g2 : H' pl = some (.tup [.str "block", .int (sn : Int)]) := g2
      have so : sn < bs.length := so
      obtain ⟨p2, b2, k1, k2, ⟨k3, _⟩⟩ := bs_at bt sn so
      have lo := loB_of k2
      walk_at "rd"
      refine ite2 (fun hc => ?_) (fun hc => ?_)
      · have hk : b2.kept = 0 := by simpa using hc
        rw [hk] at lo
        exact ⟨_, rfl, rfl, by simp [lo]; rfl, _, _, rfl⟩
      · have hk : b2.kept ≠ 0 := by simpa using hc
        exact ⟨rfl, by simp [lo, hk], _, _, rfl⟩
  · rintro ys σ H' ⟨rfl, rfl, _⟩
    intro D hD
    refine q D _ (Ch.new hD _) hD ?_
    rw [upd_same, List.length_map, ← ls, List.take_length, lsOf_of e2]
end
end

section
local macro_rules | `(tactic| walk_at "user") => `(tactic| first
  | (apply dgetI_some; (focus walk_at "get"); (focus with_reducible assumption))
  | (apply dputI; (focus walk_at "get"); (focus with_reducible assumption)))
def wD (l : List Nat) (g : Nat → V) : List (Key × V) := l.map fun (n : Nat) => ((Sum.inl (n : Int) : Key), g n)
theorem wD_val {l : List Nat} {g : Nat → V} {n : Nat} (h : n ∈ l) : valV (wD l g) (.inl (n : Int)) = some (g n) := by
  induction l with
  | nil => simp at h
  | cons m l ih =>
    by_cases e : m = n
    · subst e; exact valV_pos (κ := Key) rfl
    · show valV (((Sum.inl (m : Int) : Key), g m) :: wD l g) _ = _
      have e' : ¬ ((Sum.inl (m : Int) : Key) = Sum.inl (n : Int)) := fun z => e (by injection z with z; omega)
      rw [valV_neg e']
      exact ih (by simpa [Ne.symm e] using h)
theorem wD_put {l : List Nat} {g : Nat → V} {n : Nat} (v : V) (h : n ∈ l) : putK (wD l g) (.inl (n : Int)) v = wD l (fun m => if m = n then v else g m) := by
  unfold putK
  rw [valV_any, wD_val h, if_pos (show (some (g n)).isSome = true from rfl)]
  unfold wD
  rw [List.map_map]
  refine List.map_congr_left fun m _ => ?_
  by_cases e : m = n
  · subst e; simp
  · have e' : ¬ ((Sum.inl (m : Int) : Key) = Sum.inl (n : Int)) := fun z => e (by injection z with z; omega)
    simp only [Function.comp, if_neg e', if_neg e]
theorem wD_congr {l : List Nat} {g g' : Nat → V} (h : ∀ n ∈ l, g n = g' n) : wD l g = wD l g' := List.map_congr_left fun n hn => by rw [h n hn]
theorem wD_keys {l : List Nat} {g : Nat → V} (h : l.Nodup) : ((wD l g).map (·.1)).Nodup := by
  unfold wD
  rw [List.map_map]
  induction l with
  | nil => simp
  | cons n l ih =>
    obtain ⟨a, b⟩ := List.nodup_cons.mp h
    rw [List.map_cons, List.nodup_cons]
    refine ⟨fun z => ?_, ih b⟩
    obtain ⟨m, hm, e⟩ := List.mem_map.mp z
    have e : (Sum.inl (m : Int) : Key) = Sum.inl (n : Int) := e
    have : m = n := by injection e with e; omega
    exact a (this ▸ hm)
def laD (la : List (Nat × Addr)) : List (Key × V) := la.map fun p => ((Sum.inl (p.1 : Int) : Key), V.ref p.2)
structure Fed (H0 H : Hp) (fd : Addr) (la : List (Nat × Addr)) (F : Nat → List Nat) : Prop where
  at_ : H fd = some (.dK (laD la))
  ls : ∀ p ∈ la, H p.2 = some (.lst ((F p.1).map nV)) ∧ H0 p.2 = none
  n1 : (la.map (·.1)).Nodup
  n2 : (la.map (·.2)).Nodup
theorem Fed.ch {H0 H H' : Hp} {fd : Addr} {la : List (Nat × Addr)} {F : Nat → List Nat} (s : Fed H0 H fd la F) (c : Ch [] H H') : Fed H0 H' fd la F := ⟨c.get s.at_ (by simp), fun p hp => ⟨c.get (s.ls p hp).1 (by simp), (s.ls p hp).2⟩, s.n1, s.n2⟩
theorem Fed.put {H0 H : Hp} {fd q : Addr} {o : HO} {la : List (Nat × Addr)} {F : Nat → List Nat} (s : Fed H0 H fd la F) (h1 : fd ≠ q) (h2 : ∀ p ∈ la, p.2 ≠ q) : Fed H0 (upd H q o) fd la F := ⟨g_put h1 s.at_, fun p hp => ⟨g_put (h2 p hp) (s.ls p hp).1, (s.ls p hp).2⟩, s.n1, s.n2⟩
theorem nodup_fst {la : List (Nat × Addr)} (n1 : (la.map (·.1)).Nodup) {p q : Nat × Addr} (hp : p ∈ la) (hq : q ∈ la) (e : p.1 = q.1) : p = q := by
  induction la with
  | nil => simp at hp
  | cons a la ih =>
    rw [List.map_cons, List.nodup_cons] at n1
    rcases List.mem_cons.mp hp with e1 | hp' <;> rcases List.mem_cons.mp hq with e2 | hq'
    · rw [e1, e2]
    · exact absurd (List.mem_map.mpr ⟨q, hq', by rw [← e, e1]⟩) n1.1
    · exact absurd (List.mem_map.mpr ⟨p, hp', by rw [e, e2]⟩) n1.1
    · exact ih n1.2 hp' hq'
theorem nodup_snd {la : List (Nat × Addr)} (n2 : (la.map (·.2)).Nodup) {p q : Nat × Addr} (hp : p ∈ la) (hq : q ∈ la) (e : p.2 = q.2) : p = q := by
  induction la with
  | nil => simp at hp
  | cons a la ih =>
    rw [List.map_cons, List.nodup_cons] at n2
    rcases List.mem_cons.mp hp with e1 | hp' <;> rcases List.mem_cons.mp hq with e2 | hq'
    · rw [e1, e2]
    · exact absurd (List.mem_map.mpr ⟨q, hq', by rw [← e, e1]⟩) n2.1
    · exact absurd (List.mem_map.mpr ⟨p, hp', by rw [e, e2]⟩) n2.1
    · exact ih n2.2 hp' hq'
theorem Fed.add {H0 H : Hp} {fd : Addr} {la : List (Nat × Addr)} {F : Nat → List Nat} {p : Nat × Addr} {x : Nat} (s : Fed H0 H fd la F) (hp : p ∈ la) : Fed H0 (upd H p.2 (.lst ((F p.1).map nV ++ [nV x]))) fd la (fun m => if m = p.1 then F m ++ [x] else F m) := by
  refine ⟨g_put (ne_of s.at_ (s.ls p hp).1 (by intro z; cases z)) s.at_, fun r hr => ⟨?_, (s.ls r hr).2⟩, s.n1, s.n2⟩
  by_cases e : r.1 = p.1
  · have : r = p := nodup_fst s.n1 hr hp e
    subst this
    rw [upd_same, if_pos rfl, List.map_append]
    rfl
  · have ne : r.2 ≠ p.2 := fun z => e (by rw [nodup_snd s.n2 hr hp z])
    rw [upd_ne ne, if_neg e]
    exact (s.ls r hr).1
theorem laD_val {la : List (Nat × Addr)} (n1 : (la.map (·.1)).Nodup) {p : Nat × Addr} (hp : p ∈ la) : valV (laD la) (.inl (p.1 : Int)) = some (.ref p.2) := by
  induction la with
  | nil => simp at hp
  | cons q la ih =>
    rw [List.map_cons, List.nodup_cons] at n1
    rcases List.mem_cons.mp hp with rfl | hp
    · exact valV_pos (κ := Key) rfl
    · have ne : q.1 ≠ p.1 := fun e => n1.1 (e ▸ List.mem_map.mpr ⟨p, hp, rfl⟩)
      show valV (((Sum.inl (q.1 : Int) : Key), V.ref q.2) :: laD la) _ = _
      have e' : ¬ ((Sum.inl (q.1 : Int) : Key) = Sum.inl (p.1 : Int)) := fun z => ne (by injection z with z; omega)
      rw [valV_neg e']
      exact ih n1.2 hp
theorem Fed.of {H0 H : Hp} {fd : Addr} {la : List (Nat × Addr)} {F : Nat → List Nat} (s : Fed H0 H fd la F) {n : Nat} (hn : n ∈ la.map (·.1)) : ∃ a, valV (laD la) (.inl (n : Int)) = some (.ref a) ∧ (n, a) ∈ la ∧ H a = some (.lst ((F n).map nV)) := by
  obtain ⟨⟨m, a⟩, hp, rfl⟩ := List.mem_map.mp hn
  exact ⟨a, laD_val s.n1 hp, hp, (s.ls _ hp).1⟩
abbrev TsAt (H : Hp) : List Addr → List (Key × V) → Prop := Paired (fun t kv => H t = some (.tup [kV kv.1, kv.2]))
theorem ts_ch {H H' : Hp} (c : Ch [] H H') : ∀ {ts : List Addr} {kvs : List (Key × V)}, TsAt H ts kvs → TsAt H' ts kvs
  | _, _, .nil => .nil
  | _, _, .cons a t => .cons (c.get a (by simp)) (ts_ch c t)
theorem ts_snoc {H : Hp} {t : Addr} {kv : Key × V} (h : H t = some (.tup [kV kv.1, kv.2])) : ∀ {ts : List Addr} {kvs : List (Key × V)}, TsAt H ts kvs → TsAt H (ts ++ [t]) (kvs ++ [kv])
  | _, _, .nil => .cons h .nil
  | _, _, .cons a t => .cons a (ts_snoc h t)
theorem ts_at {H : Hp} : ∀ {ts : List Addr} {kvs : List (Key × V)}, TsAt H ts kvs → ∀ (i : Nat) (t : Addr) (kv : Key × V), ts[i]? = some t → kvs[i]? = some kv → H t = some (.tup [kV kv.1, kv.2])
  | _, _, .nil, i, t, kv, h, _ => by simp at h
  | t0 :: ts, kv0 :: kvs, .cons a r, 0, t, kv, h1, h2 => by cases h1; cases h2; exact a
  | t0 :: ts, kv0 :: kvs, .cons a r, i + 1, t, kv, h1, h2 => ts_at r i t kv (by simpa using h1) (by simpa using h2)
structure LO (H H' : Hp) (wd fd rd od : Addr) (loose : List Nat) (la : List (Nat × Addr)) (F : Nat → List Nat) (wv : Nat → Int) (ready order : List Nat) : Prop where
  ch : Ch [] H H'
  w : H' wd = some (.dK (wD loose fun n => .int (wv n)))
  f : Fed H H' fd la F
  r : H' rd = some (.lst (ready.map nV))
  o : H' od = some (.lst (order.map nV))
  hw : H wd = none
  hr : H rd = none
  ho : H od = none
  ro : rd ≠ od
  wf : wd ≠ fd
  ra : ∀ p ∈ la, p.2 ≠ rd
  oa : ∀ p ∈ la, p.2 ≠ od
theorem LO.setR {H H' : Hp} {wd fd rd od : Addr} {loose : List Nat} {la : List (Nat × Addr)} {F : Nat → List Nat} {wv : Nat → Int} {ready order : List Nat} (s : LO H H' wd fd rd od loose la F wv ready order) (ready' : List Nat) : LO H (upd H' rd (.lst (ready'.map nV))) wd fd rd od loose la F wv ready' order :=
  ⟨Ch.own s.hr s.ch, g_put (ne_of s.w s.r (by intro z; cases z)) s.w, s.f.put (ne_of s.f.at_ s.r (by intro z; cases z)) s.ra, upd_same, g_put s.ro.symm s.o, s.hw, s.hr, s.ho, s.ro, s.wf, s.ra, s.oa⟩
theorem LO.setO {H H' : Hp} {wd fd rd od : Addr} {loose : List Nat} {la : List (Nat × Addr)} {F : Nat → List Nat} {wv : Nat → Int} {ready order : List Nat} (s : LO H H' wd fd rd od loose la F wv ready order) (order' : List Nat) : LO H (upd H' od (.lst (order'.map nV))) wd fd rd od loose la F wv ready order' :=
  ⟨Ch.own s.ho s.ch, g_put (ne_of s.w s.o (by intro z; cases z)) s.w, s.f.put (ne_of s.f.at_ s.o (by intro z; cases z)) s.oa, g_put s.ro s.r, upd_same, s.hw, s.hr, s.ho, s.ro, s.wf, s.ra, s.oa⟩
theorem LO.setW {H H' : Hp} {wd fd rd od : Addr} {loose : List Nat} {la : List (Nat × Addr)} {F : Nat → List Nat} {wv : Nat → Int} {ready order : List Nat} (s : LO H H' wd fd rd od loose la F wv ready order) {n : Nat} (hn : n ∈ loose) (v : Int) : LO H (upd H' wd (.dK (putK (wD loose fun n => .int (wv n)) (.inl (n : Int)) (.int v)))) wd fd rd od loose la F (fun m => if m = n then v else wv m) ready order :=
  ⟨Ch.own s.hw s.ch, by rw [upd_same, wD_put _ hn]; congr 3; funext m; split <;> rfl, s.f.put s.wf.symm fun p hp => ne_of (s.f.ls p hp).1 s.w (by intro z; cases z), g_put (ne_of s.r s.w (by intro z; cases z)) s.r, g_put (ne_of s.o s.w (by intro z; cases z)) s.o, s.hw, s.hr, s.ho, s.ro, s.wf, s.ra, s.oa⟩
theorem LO.congr {H H' : Hp} {wd fd rd od : Addr} {loose : List Nat} {la : List (Nat × Addr)} {F : Nat → List Nat} {wv wv' : Nat → Int} {ready order : List Nat} (s : LO H H' wd fd rd od loose la F wv ready order) (h : ∀ n ∈ loose, wv n = wv' n) : LO H H' wd fd rd od loose la F wv' ready order :=
  ⟨s.ch, by rw [s.w, wD_congr fun n hn => by rw [h n hn]], s.f, s.r, s.o, s.hw, s.hr, s.ho, s.ro, s.wf, s.ra, s.oa⟩
theorem Fed.rebase {H H0 H' : Hp} {fd : Addr} {la : List (Nat × Addr)} {F : Nat → List Nat} (s : Fed H0 H' fd la F) (c : Ch [] H H0) : Fed H H' fd la F := ⟨s.at_, fun p hp => ⟨(s.ls p hp).1, chFree c (s.ls p hp).2⟩, s.n1, s.n2⟩
structure FC (H0 H' : Hp) (l : List Nat) (ys : List V) : Prop where
  ch : Ch [] H0 H'
  ex : ∃ (ts : List Addr) (la : List (Nat × Addr)), ys = ts.map V.ref ∧ la.map (·.1) = l ∧ TsAt H' ts (laD la) ∧ (∀ p ∈ la, H' p.2 = some (.lst []) ∧ H0 p.2 = none) ∧ (la.map (·.2)).Nodup
structure WC (H0 H' : Hp) (l : List Nat) (g : Nat → V) (ys : List V) : Prop where
  ch : Ch [] H0 H'
  ex : ∃ ts : List Addr, ys = ts.map V.ref ∧ TsAt H' ts (wD l g)
theorem wt_nil (ls : Nat → List Nat) (o : Nat) : wt ls [] o = (ls o).length := by unfold wt; simp
theorem kahn_start (loose : List Nat) (ls : Nat → List Nat) (nd : loose.Nodup) : Kahn loose ls [] (loose.filter fun n => decide ((ls n).length = 0)) := by
  have wz : ∀ o, wt ls [] o = (ls o).length := wt_nil ls
  refine ⟨List.nodup_nil, nd.filter _, by simp, fun o ho => ⟨(List.mem_filter.mp ho).1, by simp⟩, by simp, fun o h1 _ => ?_⟩
  rw [wz, List.mem_filter]
  simp [h1]
theorem loose_nodup (bs : List Bk) : (looseOf bs).Nodup := List.nodup_range.filter _
theorem loose_lt {bs : List Bk} {n : Nat} (h : n ∈ looseOf bs) : n < bs.length := by simpa using (List.mem_filter.mp h).1
theorem ls_loose {bs : List Bk} {n s : Nat} (h : s ∈ lsOf bs n) (ins : Nat) (ok : ∀ b ∈ bs, b.ok ins bs.length) : s ∈ looseOf bs := by
  unfold lsOf at h
  split at h
  · rename_i b e
    obtain ⟨r, hr, rfl⟩ := List.mem_map.mp h
    obtain ⟨h1, h2⟩ := List.mem_filter.mp hr
    have h3 : r.1 = true ∧ loB bs r.2 = true := by simpa using h2
    have := (ok b (List.mem_of_getElem? e)).so r h1
    unfold lim at this
    rw [if_pos h3.1] at this
    exact List.mem_filter.mpr ⟨by simpa using this, h3.2⟩
  · simp at h
theorem wD_take {l : List Nat} {i n : Nat} (g : Nat → V) (h : l[i]? = some n) : wD (l.take (i + 1)) g = wD (l.take i) g ++ [((Sum.inl (n : Int) : Key), g n)] := by
  unfold wD
  rw [List.take_add_one, h, List.map_append]
  rfl
theorem ls_len {bs : List Bk} {ins : Nat} (ok : ∀ b ∈ bs, b.ok ins bs.length) (n : Nat) : (lsOf bs n).length ≤ 4 := by
  unfold lsOf
  split
  · rename_i b e
    rw [List.length_map]
    exact Nat.le_trans (List.length_filter_le _ _) (ok b (List.mem_of_getElem? e)).s4
  · simp
theorem fed_len (pr : List (Nat × Nat)) (s : Nat) : (fedOf pr s).length ≤ pr.length := by unfold fedOf; rw [List.length_map]; exact List.length_filter_le _ _
theorem prs_len {ls : Nat → List Nat} (h : ∀ n, (ls n).length ≤ 4) : ∀ l : List Nat, (prs ls l).length ≤ 4 * l.length
  | [] => by simp [prs]
  | n :: l => by
    have ih := prs_len h l
    have := h n
    unfold prs at ih ⊢
    rw [List.flatMap_cons, List.length_append, List.length_map, List.length_cons]
    omega
theorem fed_next (pr : List (Nat × Nat)) (s n : Nat) : (fun m => if m = s then fedOf pr m ++ [n] else fedOf pr m) = fedOf (pr ++ [(s, n)]) := by
  funext m
  rw [fed_snoc]
  by_cases e : m = s
  · rw [if_pos e, if_pos e.symm]
  · rw [if_neg e, if_neg (Ne.symm e)]
theorem prs_take {ls : Nat → List Nat} {l : List Nat} {i n : Nat} (h : l[i]? = some n) : prs ls (l.take (i + 1)) = prs ls (l.take i) ++ (ls n).map (fun s => (s, n)) := by
  unfold prs
  rw [List.take_add_one, h, List.flatMap_append]
  simp
section
variable {P : Program} {w : World} {K : PySem.W.Frag} {mg : Str → Option Value} {base : Heap} {f : Addr} {fd : FuncData} {k : Nat}
theorem bo_dict : bootBuiltins "dict" = some (.type "dict") := by decide +kernel
theorem gd_loose_sources : Nd "loose_sources" := by decide +kernel
theorem nn_dict : ("dict" : Str) ≠ "__name__" := by decide +kernel
theorem gd_dict : Nd "dict" := by decide +kernel
theorem l15_1 : Lc (defScope (top 15)) "loose" := by decide +kernel
theorem g15_enumerate : Gi (defScope (top 15)) "enumerate" := by decide +kernel
theorem v15_0 : Vs (defScope (top 15)) "blocks" := by decide +kernel
theorem d15_0 : Nd "blocks" := by decide +kernel
theorem c15_0 : Nc "blocks" := by decide +kernel
def csc15_0 : Scope := { kind := PySem.ScopeKind.function, names := [ (PySem.Str.ofString ".0", PySem.NameKind.local), (PySem.Str.ofString "number", PySem.NameKind.local), (PySem.Str.ofString "block", PySem.NameKind.local)], isGenerator := false, isCoroutine := false, more := [] : PySem.Scope }
theorem cok15_0 : CompOk csc15_0 (defScope (top 15)) (["number", "block"] : List Str) (["blocks", "loose", "wants", "fed", "number", "source", "ready", "order", "other"] : List Str) [] (["number", "block"] : List Str) := compOk rfl (by decide +kernel) (by decide +kernel) (by decide +kernel) (by decide +kernel) rfl (by decide +kernel)
theorem kq15_0_1 : (relab csc15_0 (defScope (top 15))).names.lookup (Str.ofString "block") = some NameKind.local := by decide +kernel
theorem kq15_0_0 : (relab csc15_0 (defScope (top 15))).names.lookup (Str.ofString "number") = some NameKind.local := by decide +kernel
theorem vq15_0_1 : Vs (relab csc15_0 (defScope (top 15))) "block" := by decide +kernel
theorem dq15_0_1 : Nd "block" := by decide +kernel
theorem cq15_0_1 : Nc "block" := by decide +kernel
theorem vq15_0_0 : Vs (relab csc15_0 (defScope (top 15))) "number" := by decide +kernel
theorem dq15_0_0 : Nd "number" := by decide +kernel
theorem cq15_0_0 : Nc "number" := by decide +kernel
theorem l15_2 : Lc (defScope (top 15)) "wants" := by decide +kernel
theorem g15_dict : Gi (defScope (top 15)) "dict" := by decide +kernel
theorem v15_1 : Vs (defScope (top 15)) "loose" := by decide +kernel
theorem d15_1 : Nd "loose" := by decide +kernel
theorem c15_1 : Nc "loose" := by decide +kernel
def csc15_1 : Scope := { kind := PySem.ScopeKind.function, names := [ (PySem.Str.ofString ".0", PySem.NameKind.local), (PySem.Str.ofString "number", PySem.NameKind.local), (PySem.Str.ofString "len", PySem.NameKind.globalImplicit), (PySem.Str.ofString "loose_sources", PySem.NameKind.globalImplicit), (PySem.Str.ofString "blocks", PySem.NameKind.free)], isGenerator := false, isCoroutine := false, more := [] : PySem.Scope }
theorem cok15_1 : CompOk csc15_1 (defScope (top 15)) (["number"] : List Str) (["blocks", "loose", "wants", "fed", "number", "source", "ready", "order", "other"] : List Str) [0] (["number", "blocks"] : List Str) := compOk rfl (by decide +kernel) (by decide +kernel) (by decide +kernel) (by decide +kernel) rfl (by decide +kernel)
theorem kq15_1_0 : (relab csc15_1 (defScope (top 15))).names.lookup (Str.ofString "number") = some NameKind.local := by decide +kernel
theorem gq15_1_len : Gi (relab csc15_1 (defScope (top 15))) "len" := by decide +kernel
theorem gq15_1_loose_sources : Gi (relab csc15_1 (defScope (top 15))) "loose_sources" := by decide +kernel
theorem vq15_1_0 : Vs (relab csc15_1 (defScope (top 15))) "number" := by decide +kernel
theorem dq15_1_0 : Nd "number" := by decide +kernel
theorem cq15_1_0 : Nc "number" := by decide +kernel
theorem vq15_1_1 : Vs (relab csc15_1 (defScope (top 15))) "blocks" := by decide +kernel
theorem dq15_1_1 : Nd "blocks" := by decide +kernel
theorem cq15_1_1 : Nc "blocks" := by decide +kernel
theorem l15_3 : Lc (defScope (top 15)) "fed" := by decide +kernel
def csc15_2 : Scope := { kind := PySem.ScopeKind.function, names := [(PySem.Str.ofString ".0", PySem.NameKind.local), (PySem.Str.ofString "number", PySem.NameKind.local)], isGenerator := false, isCoroutine := false, more := [] : PySem.Scope }
theorem cok15_2 : CompOk csc15_2 (defScope (top 15)) (["number"] : List Str) (["blocks", "loose", "wants", "fed", "number", "source", "ready", "order", "other"] : List Str) [] (["number"] : List Str) := compOk rfl (by decide +kernel) (by decide +kernel) (by decide +kernel) (by decide +kernel) rfl (by decide +kernel)
theorem kq15_2_0 : (relab csc15_2 (defScope (top 15))).names.lookup (Str.ofString "number") = some NameKind.local := by decide +kernel
theorem vq15_2_0 : Vs (relab csc15_2 (defScope (top 15))) "number" := by decide +kernel
theorem dq15_2_0 : Nd "number" := by decide +kernel
theorem cq15_2_0 : Nc "number" := by decide +kernel
theorem l15_4 : Lc (defScope (top 15)) "number" := by decide +kernel
theorem g15_loose_sources : Gi (defScope (top 15)) "loose_sources" := by decide +kernel
theorem v15_4 : Vs (defScope (top 15)) "number" := by decide +kernel
theorem d15_4 : Nd "number" := by decide +kernel
theorem c15_4 : Nc "number" := by decide +kernel
theorem l15_5 : Lc (defScope (top 15)) "source" := by decide +kernel
theorem v15_3 : Vs (defScope (top 15)) "fed" := by decide +kernel
theorem d15_3 : Nd "fed" := by decide +kernel
theorem c15_3 : Nc "fed" := by decide +kernel
theorem v15_5 : Vs (defScope (top 15)) "source" := by decide +kernel
theorem d15_5 : Nd "source" := by decide +kernel
theorem c15_5 : Nc "source" := by decide +kernel
theorem l15_6 : Lc (defScope (top 15)) "ready" := by decide +kernel
def csc15_3 : Scope := { kind := PySem.ScopeKind.function, names := [ (PySem.Str.ofString ".0", PySem.NameKind.local), (PySem.Str.ofString "number", PySem.NameKind.local), (PySem.Str.ofString "wants", PySem.NameKind.free)], isGenerator := false, isCoroutine := false, more := [] : PySem.Scope }
theorem cok15_3 : CompOk csc15_3 (defScope (top 15)) (["number"] : List Str) (["blocks", "loose", "wants", "fed", "number", "source", "ready", "order", "other"] : List Str) [2] (["number", "wants"] : List Str) := compOk rfl (by decide +kernel) (by decide +kernel) (by decide +kernel) (by decide +kernel) rfl (by decide +kernel)
theorem kq15_3_0 : (relab csc15_3 (defScope (top 15))).names.lookup (Str.ofString "number") = some NameKind.local := by decide +kernel
theorem vq15_3_1 : Vs (relab csc15_3 (defScope (top 15))) "wants" := by decide +kernel
theorem dq15_3_1 : Nd "wants" := by decide +kernel
theorem cq15_3_1 : Nc "wants" := by decide +kernel
theorem vq15_3_0 : Vs (relab csc15_3 (defScope (top 15))) "number" := by decide +kernel
theorem dq15_3_0 : Nd "number" := by decide +kernel
theorem cq15_3_0 : Nc "number" := by decide +kernel
theorem l15_7 : Lc (defScope (top 15)) "order" := by decide +kernel
theorem g15_len : Gi (defScope (top 15)) "len" := by decide +kernel
theorem v15_6 : Vs (defScope (top 15)) "ready" := by decide +kernel
theorem d15_6 : Nd "ready" := by decide +kernel
theorem c15_6 : Nc "ready" := by decide +kernel
theorem v15_7 : Vs (defScope (top 15)) "order" := by decide +kernel
theorem d15_7 : Nd "order" := by decide +kernel
theorem c15_7 : Nc "order" := by decide +kernel
theorem l15_8 : Lc (defScope (top 15)) "other" := by decide +kernel
theorem v15_2 : Vs (defScope (top 15)) "wants" := by decide +kernel
theorem d15_2 : Nd "wants" := by decide +kernel
theorem c15_2 : Nc "wants" := by decide +kernel
theorem v15_8 : Vs (defScope (top 15)) "other" := by decide +kernel
theorem d15_8 : Nd "other" := by decide +kernel
theorem c15_8 : Nc "other" := by decide +kernel
def spLO : Sp := fun vs H Q _ => ∃ (bl : Addr) (ins : Nat) (bs : List Bk) (ps : List Addr), vs = [.ref bl] ∧ H bl = some (.lst (ps.map V.ref)) ∧ BsAt H bs ps ∧ (∀ b ∈ bs, b.ok ins bs.length) ∧ bs.length ≤ 64 ∧
  ∀ p order H', Ch [] H H' → H p = none → H' p = some (.lst (order.map nV)) → Kahn (looseOf bs) (lsOf bs) order [] → Q (.ref p) H'
theorem scLO : FnScope ["blocks", "loose", "wants", "fed", "number", "source", "ready", "order", "other"] ["blocks"] (defScope (top 15)) := ⟨rfl, rfl, rfl, by decide +kernel, rfl, by decide +kernel, by decide +kernel⟩
theorem ok_lo (F : Fun K "loose_order" "loose_order" (top 15) f fd) (Dloose_sources : DefOk P w K mg base CX0 k "loose_sources" ["blocks", "number"] spLS) (z_enumerate : mg "enumerate" = none) (z_len : mg "len" = none) (z_dict : mg "dict" = none) : FnOk P w K mg base CX0 (k + 1) f fd ["blocks"] spLO := by
  have nd := scLO.nd
  refine F.ok scLO (fun vs H Q E h => by obtain ⟨bl, ins, bs, ps, rfl, _⟩ := h; rfl) (fun cdv A outer s H vs Q E hr h => ?_)
  obtain ⟨bl, ins, bs, ps, rfl, hb, bt, ok, hl, q⟩ := h
  have hu := hu_of hr
  have lp := Paired.length bt
  refine ⟨_, (Pr.h (qpss_cons (qps_setC (i := 1) nd rfl l15_1 rfl cok15_0 (qpi_enum .list g15_enumerate z_enumerate (qpa_cons (qpe_var (i := 0) rfl v15_0 d15_0 c15_0) qpa_nil se_Name)) (fun _ _ _ _ _ => (qpg_tupK K 2 rfl rfl (qpgs_cons (qpg_name (i := 0) cok15_0.nd rfl (Or.inl kq15_0_0) (Or.inr kq15_0_0)) (qpgs_cons (qpg_name (i := 1) cok15_0.nd rfl (Or.inl kq15_0_1) (Or.inr kq15_0_1)) qpgs_nil)))) (fun _ _ _ _ _ => (qpif_one (qpt_cmpR op_eq (qpe_ix (ixaK_tup K rfl) (qpe_var (i := 1) rfl vq15_0_1 dq15_0_1 cq15_0_1) qpe_int (fun _ _ => rfl)) qpe_int (nomark _)))) (fun _ _ _ _ _ => (qpe_var (i := 0) rfl vq15_0_0 dq15_0_0 cq15_0_0)) rfl)
 (qpss_cons (qps_set (i := 2) nd rfl l15_2 (qpe_callTy (call_dictP rfl) g15_dict z_dict bo_dict (qpa_cons (qpe_comp rfl cok15_1 (qpi_list (qpe_var (i := 1) rfl v15_1 d15_1 c15_1)) (fun _ _ _ _ _ => (qpg_name (i := 0) cok15_1.nd rfl (Or.inl kq15_1_0) (Or.inr kq15_1_0))) (fun _ _ _ _ _ => qpif_nil) (fun _ _ _ _ _ => (qpe_tup (qpa_cons (qpe_var (i := 0) rfl vq15_1_0 dq15_1_0 cq15_1_0) (qpa_cons (qpe_callB (callK_len_seq K rfl) gq15_1_len z_len PySem.boot_len (qpa_cons (qpe_callD Dloose_sources hr gq15_1_loose_sources pass0 (qpa_cons (qpe_var (i := 1) rfl vq15_1_1 dq15_1_1 cq15_1_1) (qpa_cons (qpe_var (i := 0) rfl vq15_1_0 dq15_1_0 cq15_1_0) qpa_nil se_Name) se_Name) gd_loose_sources) qpa_nil se_Call) nn_len gd_len) qpa_nil se_Call) se_Name)))) qpa_nil se_ListComp) nn_dict gd_dict))
 (qpss_cons (qps_set (i := 3) nd rfl l15_3 (qpe_callTy (call_dictP rfl) g15_dict z_dict bo_dict (qpa_cons (qpe_comp rfl cok15_2 (qpi_list (qpe_var (i := 1) rfl v15_1 d15_1 c15_1)) (fun _ _ _ _ _ => (qpg_name (i := 0) cok15_2.nd rfl (Or.inl kq15_2_0) (Or.inr kq15_2_0))) (fun _ _ _ _ _ => qpif_nil) (fun _ _ _ _ _ => (qpe_tup (qpa_cons (qpe_var (i := 0) rfl vq15_2_0 dq15_2_0 cq15_2_0) (qpa_cons (qpe_lst qpa_nil) qpa_nil se_List) se_Name)))) qpa_nil se_ListComp) nn_dict gd_dict))
 (qpss_cons (qps_loop PassesOwn.never rfl (qpi_list (qpe_var (i := 1) rfl v15_1 d15_1 c15_1)) (qpg_name (i := 4) nd rfl l15_4)
  (qpss_one (qps_loop PassesOwn.never rfl (qpi_list (qpe_callD Dloose_sources hr g15_loose_sources pass0 (qpa_cons (qpe_var (i := 0) rfl v15_0 d15_0 c15_0) (qpa_cons (qpe_var (i := 4) rfl v15_4 d15_4 c15_4) qpa_nil se_Name) se_Name) gd_loose_sources)) (qpg_name (i := 5) nd rfl l15_5)
  (qpss_one (qps_expr (qpe_bm PySem.F.plainAttrs_list PySem.F.slot_list_append PySem.F.type_list_append mt_append (qpe_dgetT hu (qpe_var (i := 3) rfl v15_3 d15_3 c15_3) (qpe_var (i := 5) rfl v15_5 d15_5 c15_5) (fun _ _ => rfl)) (qpa_cons (qpe_var (i := 4) rfl v15_4 d15_4 c15_4) qpa_nil se_Name)))))))
 (qpss_cons (qps_setC (i := 6) nd rfl l15_6 rfl cok15_3 (qpi_list (qpe_var (i := 1) rfl v15_1 d15_1 c15_1)) (fun _ _ _ _ _ => (qpg_name (i := 0) cok15_3.nd rfl (Or.inl kq15_3_0) (Or.inr kq15_3_0))) (fun _ _ _ _ _ => (qpif_one (qpt_cmpR op_eq (qpe_dgetT hu (qpe_var (i := 1) rfl vq15_3_1 dq15_3_1 cq15_3_1) (qpe_var (i := 0) rfl vq15_3_0 dq15_3_0 cq15_3_0) (fun _ _ => rfl)) qpe_int (nomark _)))) (fun _ _ _ _ _ => (qpe_var (i := 0) rfl vq15_3_0 dq15_3_0 cq15_3_0)) rfl)
 (qpss_cons (qps_set (i := 7) nd rfl l15_7 (qpe_lst qpa_nil))
 (qpss_cons (qps_while PassesOwn.never (qpt_cmpR op_gt (qpe_callB call_len_seq g15_len z_len PySem.boot_len (qpa_cons (qpe_var (i := 6) rfl v15_6 d15_6 c15_6) qpa_nil se_Name) nn_len gd_len) qpe_int (nomark _))
  (qpss_cons (qps_set (i := 4) nd rfl l15_4 (qpe_pop (qpe_var (i := 6) rfl v15_6 d15_6 c15_6)))
 (qpss_cons (qps_expr (qpe_bm PySem.F.plainAttrs_list PySem.F.slot_list_append PySem.F.type_list_append mt_append (qpe_var (i := 7) rfl v15_7 d15_7 c15_7) (qpa_cons (qpe_var (i := 4) rfl v15_4 d15_4 c15_4) qpa_nil se_Name)))
 (qpss_one (qps_loop PassesOwn.never rfl (qpi_list (qpe_dgetT hu (qpe_var (i := 3) rfl v15_3 d15_3 c15_3) (qpe_var (i := 4) rfl v15_4 d15_4 c15_4) (fun _ _ => rfl))) (qpg_name (i := 8) nd rfl l15_8)
  (qpss_cons (qps_dput hu (qpe_var (i := 2) rfl v15_2 d15_2 c15_2) (qpe_var (i := 8) rfl v15_8 d15_8 c15_8) (qpe_op op_sub (qpe_dgetT hu (qpe_var (i := 2) rfl v15_2 d15_2 c15_2) (qpe_var (i := 8) rfl v15_8 d15_8 c15_8) (fun _ _ => rfl)) qpe_int) rfl)
 (qpss_one (qps_if (qpt_cmpR op_eq (qpe_dgetT hu (qpe_var (i := 2) rfl v15_2 d15_2 c15_2) (qpe_var (i := 8) rfl v15_8 d15_8 c15_8) (fun _ _ => rfl)) qpe_int (nomark _))
  (qpss_one (qps_expr (qpe_bm PySem.F.plainAttrs_list PySem.F.slot_list_append PySem.F.type_list_append mt_append (qpe_var (i := 6) rfl v15_6 d15_6 c15_6) (qpa_cons (qpe_var (i := 8) rfl v15_8 d15_8 c15_8) qpa_nil se_Name))))
  qpss_nil))))))))
 (qpss_one (qps_ret (qpe_var (i := 7) rfl v15_7 d15_7 c15_7))))))))))), ?_⟩
  (try dsimp only [cxOf])
  walk_at "rd"
  refine comp_enum (ps.map V.ref) (fun i ys σ H' => Ch [] H H' ∧ ys = ((List.range i).filter (loB bs)).map nV ∧ ∃ u v, σ = [u, v]) (by rw [sizeLine_eq, List.length_map]; omega) ⟨Ch.refl _ _, rfl, _, _, rfl⟩ ?_ ?_ ?_
  · rintro i ys σ H' hi ⟨c, rfl, _⟩
    refine ⟨?_, SqL.of (c.get hb (by simp))⟩
    rw [List.length_map]
    exact Nat.le_trans (List.length_filter_le _ _) (by rw [List.length_range]; exact Nat.le_refl _)
  · rintro i ys σ H' z T hz ⟨c, rfl, u, v, rfl⟩ hT
    have hi : i < bs.length := by have := (List.getElem?_eq_some_iff.mp hz).1; rw [List.length_map] at this; omega
    obtain ⟨p, b, e1, e2, ⟨hp, _⟩⟩ := bs_get bt i hi
    rw [e1] at hz
    cases hz
    have hp1 : H' p = some (.tup [.ref b.sp, .int b.bits, .int b.kept, .int b.first]) := c.get hp (by simp)
    have lo := loB_of e2
    rw [List.range_succ, List.filter_append, List.map_append]
    walk_at "rd"
    refine ite2 (fun hc => ?_) (fun hc => ?_)
    · have hk : b.kept = 0 := by simpa using hc
      rw [hk] at lo
      exact ⟨_, rfl, c.trans (Ch.new hT _), by simp [lo]; rfl, _, _, rfl⟩
    · have hk : b.kept ≠ 0 := by simpa using hc
      exact ⟨c.trans (Ch.new hT _), by simp [lo, hk], _, _, rfl⟩
  rintro ys σ H' ⟨c0, rfl, _⟩
  rw [List.length_map, ← lp]
  show ∀ p, H' p = none → _
  intro lo hlo
  have nL := loose_nodup bs
  have lL : ∀ n ∈ looseOf bs, n < bs.length := fun n hn => loose_lt hn
  have lsL : ∀ n s, s ∈ lsOf bs n → s ∈ looseOf bs := fun n s h => ls_loose h ins ok
  have c1 : Ch [] H (upd H' lo (.lst ((looseOf bs).map nV))) := c0.trans (Ch.new hlo _)
  have gl1 : (upd H' lo (.lst ((looseOf bs).map nV))) lo = some (.lst ((looseOf bs).map nV)) := upd_same
  have lL64 : (looseOf bs).length ≤ 64 := by
    have := List.length_filter_le (loB bs) (List.range bs.length)
    rw [List.length_range] at this
    exact Nat.le_trans this hl
  show tSeq _ _ _ _ (upd H' lo (.lst ((looseOf bs).map nV)))
  generalize upd H' lo (.lst ((looseOf bs).map nV)) = H1 at c1 gl1 ⊢
  generalize hLL : looseOf bs = loose at *
  clear c0 hlo
  have hb1 : H1 bl = some (.lst (ps.map V.ref)) := c1.get hb (by simp)
  have bt1 := bs_ch c1 bt
  walk_at "rd"
  refine comp_list (loose.map nV) (fun i ys σ H' => WC H1 H' (loose.take i) (fun n => .int ((lsOf bs n).length : Int)) ys ∧ ∃ u, σ = [u, some (.ref bl)]) (by rw [sizeLine_eq, List.length_map]; omega) ⟨⟨Ch.refl _ _, [], rfl, .nil⟩, _, rfl⟩ ?_ ?_ ?_
  · rintro i ys σ H' hi ⟨⟨c, ts, rfl, tt⟩, _⟩
    refine ⟨?_, SqL.of (c.get gl1 (by simp))⟩
    rw [List.length_map, Paired.length tt]
    unfold wD
    rw [List.length_map, List.length_take]
    omega
  · rintro i ys σ H' z hz ⟨⟨c, ts, rfl, tt⟩, u, rfl⟩
    rw [List.getElem?_map] at hz
    obtain ⟨n, hn, rfl⟩ := Option.map_eq_some_iff.mp hz
    have hb2 : H' bl = some (.lst (ps.map V.ref)) := c.get hb1 (by simp)
    have bt2 := bs_ch c bt1
    have hn2 := lL n (List.mem_of_getElem? hn)
    walk_at "rd"
    rename_i p2 H2 c2 f2 g2 T hT
    refine ⟨⟨(c.trans c2).trans (Ch.new hT _), ts ++ [T], by simp, ?_⟩, _, rfl⟩
    rw [wD_take _ hn]
    refine ts_snoc ?_ (ts_ch (c2.trans (Ch.new hT _)) tt)
    rw [upd_same, List.length_map]
    rfl
  rintro ys σ H2 ⟨⟨c2, ts, rfl, tt⟩, _⟩
  rw [List.length_map, List.take_length] at tt
  intro D hD
  have cD : Ch [] H2 (upd H2 D (.lst (ts.map V.ref))) := Ch.new hD _
  refine ⟨D, ts, wD loose (fun n => .int ((lsOf bs n).length : Int)), rfl, upd_same, Paired.length tt, ts_at (ts_ch cD tt), wD_keys nL, ?_, fun wd hwd => ?_⟩
  · unfold wD; rw [List.length_map, sizeLine_eq]; omega
  have cW : Ch [] (upd H2 D (.lst (ts.map V.ref))) (upd (upd H2 D (.lst (ts.map V.ref))) wd (.dK (wD loose (fun n => .int ((lsOf bs n).length : Int))))) := Ch.new hwd _
  have c3 := (c2.trans cD).trans cW
  have gw3 : (upd (upd H2 D (.lst (ts.map V.ref))) wd (.dK (wD loose (fun n => .int ((lsOf bs n).length : Int))))) wd = some (.dK (wD loose (fun n => .int ((lsOf bs n).length : Int)))) := upd_same
  have hw0 : H wd = none := chFree (c1.trans (c2.trans cD)) hwd
  show tSeq _ _ _ _ (upd (upd H2 D (.lst (ts.map V.ref))) wd (.dK (wD loose (fun n => .int ((lsOf bs n).length : Int)))))
  generalize upd (upd H2 D (.lst (ts.map V.ref))) wd (.dK (wD loose (fun n => .int ((lsOf bs n).length : Int)))) = H3 at c3 gw3 ⊢
  have gl3 : H3 lo = some (.lst (loose.map nV)) := c3.get gl1 (by simp)
  have hb3 : H3 bl = some (.lst (ps.map V.ref)) := c3.get hb1 (by simp)
  have bt3 := bs_ch c3 bt1
  have c03 := c1.trans c3
  clear hwd cW cD hD tt c2 c3 gl1 hb1 bt1 c1
  walk_at "rd"
  refine comp_list (loose.map nV) (fun i ys σ H' => FC H3 H' (loose.take i) ys ∧ ∃ u, σ = [u]) (by rw [sizeLine_eq, List.length_map]; omega) ⟨⟨Ch.refl _ _, [], [], rfl, rfl, .nil, by simp, by simp⟩, _, rfl⟩ ?_ ?_ ?_
  · rintro i ys σ H' hi ⟨⟨c, ts, la, rfl, e1, tt, _⟩, _⟩
    refine ⟨?_, SqL.of (c.get gl3 (by simp))⟩
    have z := congrArg List.length e1
    rw [List.length_map, List.length_take] at z
    rw [List.length_map, Paired.length tt]
    unfold laD
    rw [List.length_map]
    omega
  · rintro i ys σ H' z hz ⟨⟨c, ts, la, rfl, e1, tt, hla, nla⟩, u, rfl⟩
    rw [List.getElem?_map] at hz
    obtain ⟨n, hn, rfl⟩ := Option.map_eq_some_iff.mp hz
    walk_at "rd"
    rename_i q hq T hT
    have cq : Ch [] H' (upd (upd H' q (.lst [])) T (.tup [nV n, .ref q])) := (Ch.new hq _).trans (Ch.new hT _)
    refine ⟨⟨c.trans cq, ts ++ [T], la ++ [(n, q)], by simp, ?_, ?_, fun p hp => ?_, ?_⟩, _, rfl⟩
    · rw [List.map_append, e1, List.take_add_one, hn]; rfl
    · unfold laD
      rw [List.map_append]
      refine ts_snoc ?_ (ts_ch cq tt)
      exact upd_same
    · rcases List.mem_append.mp hp with z | z
      · exact ⟨cq.get (hla p z).1 (by simp), (hla p z).2⟩
      · rw [List.mem_singleton.mp z]
        exact ⟨g_new hT upd_same, chFree c hq⟩
    · rw [List.map_append, List.nodup_append]
      refine ⟨nla, by simp, fun x hx y hy e => ?_⟩
      obtain ⟨p, hp, rfl⟩ := List.mem_map.mp hx
      have : y = q := by simpa using hy
      have h1 := (hla p hp).1
      rw [e, this, hq] at h1
      cases h1
  rintro ys σ H4 ⟨⟨c4, ts, la, rfl, e1, tt, hla, nla⟩, _⟩
  rw [List.length_map, List.take_length] at e1
  intro D hD
  have cD : Ch [] H4 (upd H4 D (.lst (ts.map V.ref))) := Ch.new hD _
  have eD : laD la = wD loose (fun n => ((la.map fun p => (p.1, V.ref p.2)).lookup n).getD .non) ∨ True := .inr trivial
  clear eD
  have kD : ((laD la).map (·.1)).Nodup := by
    have e : (laD la).map (·.1) = (wD loose fun _ => V.non).map (·.1) := by
      unfold laD wD
      rw [← e1, List.map_map, List.map_map, List.map_map]
      rfl
    rw [e]
    exact wD_keys nL
  have lla : la.length = loose.length := by rw [← e1, List.length_map]
  refine ⟨D, ts, laD la, rfl, upd_same, Paired.length tt, ts_at (ts_ch cD tt), kD, ?_, fun fdd hfd => ?_⟩
  · unfold laD; rw [List.length_map, sizeLine_eq]; omega
  have c5 : Ch [] H3 (upd (upd H4 D (.lst (ts.map V.ref))) fdd (.dK (laD la))) := (c4.trans cD).trans (Ch.new hfd _)
  have F5 : Fed H3 (upd (upd H4 D (.lst (ts.map V.ref))) fdd (.dK (laD la))) fdd la (fun _ => []) := ⟨upd_same, fun p hp => ⟨g_new hfd (cD.get (hla p hp).1 (by simp)), (hla p hp).2⟩, by rw [e1]; exact nL, nla⟩
  have f5 : H3 fdd = none := chFree (c4.trans cD) hfd
  show tSeq _ _ _ _ (upd (upd H4 D (.lst (ts.map V.ref))) fdd (.dK (laD la)))
  generalize upd (upd H4 D (.lst (ts.map V.ref))) fdd (.dK (laD la)) = H5 at c5 F5 ⊢
  clear hfd cD hD tt c4 hla kD
  have gl5 : H5 lo = some (.lst (loose.map nV)) := c5.get gl3 (by simp)
  walk_at "rd"
  refine loop_list (xs := loose.map nV) (fun i σ H' => ∃ u4 u5, σ = [some (.ref bl), some (.ref lo), some (.ref wd), some (.ref fdd), u4, u5, none, none, none] ∧ Ch [] H3 H' ∧ Fed H3 H' fdd la (fedOf (prs (lsOf bs) (loose.take i)))) ⟨_, _, rfl, c5, F5⟩ ?_ ?_ ?_
  · rintro i σ H' hi ⟨_, _, rfl, c, _⟩
    exact SqL.of (c.get gl3 (by simp))
  · rintro i z σ H' hz ⟨u4, u5, rfl, c, F⟩
    rw [List.getElem?_map] at hz
    obtain ⟨n, hn, rfl⟩ := Option.map_eq_some_iff.mp hz
    have hb2 : H' bl = some (.lst (ps.map V.ref)) := c.get hb3 (by simp)
    have bt2 := bs_ch c bt3
    have hn2 := lL n (List.mem_of_getElem? hn)
    walk_at "rd"
    rename_i sl H6 c6 f6 g6
    have lpr := prs_len (ls_len ok) (loose.take i)
    rw [List.length_take] at lpr
    rw [prs_take hn]
    generalize prs (lsOf bs) (loose.take i) = pr at F lpr ⊢
    have lsn := ls_len ok n
    refine loop_list (xs := (lsOf bs n).map nV) (fun j σ H' => ∃ u5, σ = [some (.ref bl), some (.ref lo), some (.ref wd), some (.ref fdd), some (nV n), u5, none, none, none] ∧ Ch [] H3 H' ∧ Fed H3 H' fdd la (fedOf (pr ++ ((lsOf bs n).take j).map (fun s => (s, n)))) ∧ H' sl = some (.lst ((lsOf bs n).map nV)) ∧ ∀ p ∈ la, p.2 ≠ sl) ⟨_, rfl, c.trans c6, by rw [List.take_zero, List.map_nil, List.append_nil]; exact F.ch c6, g6, fun p hp => ne_of_none (F.ls p hp).1 f6⟩ ?_ ?_ ?_
    · rintro j σ H' hj ⟨_, rfl, _, _, g, _⟩
      exact SqL.of g
    · rintro j z σ H7 hz ⟨u5, rfl, c7, F7, g7, n7⟩
      rw [List.getElem?_map] at hz
      obtain ⟨sr, hs, rfl⟩ := Option.map_eq_some_iff.mp hz
      have et : (lsOf bs n).take (j + 1) = (lsOf bs n).take j ++ [sr] := by rw [List.take_add_one, hs]; rfl
      rw [et, List.map_append, ← List.append_assoc]
      have lq : ((lsOf bs n).take j).length ≤ 4 := by rw [List.length_take]; omega
      have lpq : (pr ++ ((lsOf bs n).take j).map (fun s => (s, n))).length ≤ 300 := by rw [List.length_append, List.length_map]; omega
      generalize pr ++ ((lsOf bs n).take j).map (fun s => (s, n)) = pq at F7 lpq ⊢
      obtain ⟨a, hv, ha, hla⟩ := F7.of (n := sr) (by rw [e1]; exact lsL n sr (List.mem_of_getElem? hs))
      have hfd := F7.at_
      have lz : ((fedOf pq sr).map nV).length < sizeLine := by
        have := fed_len pq sr
        rw [List.length_map, sizeLine_eq]; omega
      clear bt2 hb2 F
      walk_at "rd"
      have F8 := F7.add (x := n) ha
      rw [fed_next] at F8
      exact ⟨Ch.own (F7.ls _ ha).2 c7, F8, g_put (n7 _ ha).symm g7, n7⟩
    · rintro σ H' ⟨u5, rfl, c7, F7, _⟩
      rw [List.length_map, List.take_length] at F7
      exact ⟨_, _, rfl, c7, F7⟩
  · rintro σ H6 ⟨u4, u5, rfl, c6, F6⟩
    rw [List.length_map, List.take_length] at F6
    have gl6 : H6 lo = some (.lst (loose.map nV)) := c6.get gl3 (by simp)
    have gw6 : H6 wd = some (.dK (wD loose (fun n => .int ((lsOf bs n).length : Int)))) := c6.get gw3 (by simp)
    walk_at "rd"
    refine comp_list (loose.map nV) (fun i ys σ H' => H' = H6 ∧ ys = ((loose.take i).filter fun n => decide ((lsOf bs n).length = 0)).map nV ∧ ∃ u, σ = [u, some (.ref wd)]) (by rw [sizeLine_eq, List.length_map]; omega) ⟨rfl, rfl, _, rfl⟩ ?_ ?_ ?_
    · rintro i ys σ H' hi ⟨rfl, rfl, _⟩
      refine ⟨?_, SqL.of gl6⟩
      rw [List.length_map]
      exact Nat.le_trans (List.length_filter_le _ _) (by rw [List.length_take]; omega)
    · rintro i ys σ H' z hz ⟨rfl, rfl, u, rfl⟩
      rw [List.getElem?_map] at hz
      obtain ⟨n, hn, rfl⟩ := Option.map_eq_some_iff.mp hz
      have hv := wD_val (g := fun n => .int ((lsOf bs n).length : Int)) (List.mem_of_getElem? hn)
      rw [List.take_add_one, hn, List.filter_append, List.map_append]
      walk_at "rd"
      refine ite2 (fun hc => ?_) (fun hc => ?_)
      · have hk : (lsOf bs n).length = 0 := by simpa using hc
        have ef : ([n].filter fun n => decide ((lsOf bs n).length = 0)) = [n] := by rw [List.filter_cons, if_pos (decide_eq_true hk)]; rfl
        exact ⟨_, rfl, rfl, by rw [show (some n).toList = [n] from rfl, ef]; rfl, _, rfl⟩
      · have hk : ¬ (lsOf bs n).length = 0 := by simpa using hc
        have ef : ([n].filter fun n => decide ((lsOf bs n).length = 0)) = [] := by rw [List.filter_cons, if_neg (by simpa using hk)]; rfl
        exact ⟨rfl, by rw [show (some n).toList = [n] from rfl, ef, List.map_nil, List.append_nil], _, rfl⟩
    rintro ys σ H' ⟨rfl, rfl, _⟩
    rw [List.length_map, List.take_length]
    have k0 := kahn_start loose (lsOf bs) nL
    generalize hr0 : (loose.filter fun n => decide ((lsOf bs n).length = 0)) = r0 at k0 ⊢
    intro rd hrd
    refine ⟨by rw [sizeLine_eq]; decide, fun od hod => ?_⟩
    have cR : Ch [] H' (upd (upd H' rd (.lst (r0.map nV))) od (.lst [])) := (Ch.new hrd _).trans (Ch.new hod _)
    have c06 := c03.trans c6
    have L0 : LO H (upd (upd H' rd (.lst (r0.map nV))) od (.lst [])) wd fdd rd od loose la (fedOf (prs (lsOf bs) loose)) (fun o => (wt (lsOf bs) [] o : Int)) r0 [] :=
      LO.congr ⟨c06.trans cR, cR.get gw6 (by simp), (F6.rebase c03).ch cR, g_new hod upd_same, upd_same, hw0, chFree c06 hrd, chFree (c06.trans (Ch.new hrd _)) hod, (fun z => by rw [← z, upd_same] at hod; cases hod), ne_of_none gw3 f5, fun p hp => ne_of_none (F6.ls p hp).1 hrd, fun p hp => ne_of_none (g_new hrd (F6.ls p hp).1) hod⟩ fun n _ => by rw [wt_nil]
    have hod0 := L0.ho
    have fb := fun x => fed_by (lsOf bs) nL x
    generalize hF : fedOf (prs (lsOf bs) loose) = F at L0 fb
    show tWhile _ _ _ _ _
    refine while_at (fun m σ H' => ∃ (u4 u5 u8 : Option V) (ready order : List Nat), σ = [some (.ref bl), some (.ref lo), some (.ref wd), some (.ref fdd), u4, u5, some (.ref rd), some (.ref od), u8] ∧ Kahn loose (lsOf bs) order ready ∧ LO H H' wd fdd rd od loose la F (fun o => (wt (lsOf bs) order o : Int)) ready order ∧ m = loose.length - order.length) ⟨_, _, _, _, _, _, rfl, k0, L0, rfl⟩ ?_ ?_
    · clear L0 k0 hr0 r0 hrd hod cR gl6 gw6 F6 c6 c06 F5 c5 gl5 gl3 gw3 hb3 bt3 c03
      rintro m σ H1 ⟨u4, u5, u8, ready, order, rfl, kh, lo1, rfl⟩
      have hrd1 := lo1.r
      walk_at "rd"
      refine ite2 (fun hc => ?_) (fun hc => ?_)
      · have hne : ready ≠ [] := by rintro rfl; simp at hc
        obtain ⟨r', x, rfl⟩ : ∃ r' x, ready = r' ++ [x] := ⟨ready.dropLast, ready.getLast hne, (List.dropLast_concat_getLast hne).symm⟩
        obtain ⟨xl, xo, xz, md⟩ := kh.pop
        have ol := kh.le
        have hla : ((r' ++ [x]).map nV)[((r' ++ [x]).map nV).length - 1]? = some (nV x) := by simp
        have edl : ((r' ++ [x]).map nV).dropLast = r'.map nV := by rw [List.map_append]; exact List.dropLast_concat
        refine ⟨_, rfl, .inl ⟨rfl, _, SqL.of hrd1⟩, rd, _, _, rfl, rfl, hrd1, hla, ?_⟩
        rw [edl]
        have L1 := lo1.setR r'
        generalize upd H1 rd (.lst (r'.map nV)) = H2 at L1 ⊢
        have hod2 := L1.o
        have lod : (order.map nV).length < sizeLine := by rw [List.length_map, sizeLine_eq]; omega
        have L2 : LO H (upd H2 od (.lst (order.map nV ++ [nV x]))) wd fdd rd od loose la F (fun o => (wt (lsOf bs) order o : Int)) r' (order ++ [x]) := by
          have := L1.setO (order ++ [x])
          rw [List.map_append] at this
          exact this
        obtain ⟨a, hv, ha, hga⟩ := L1.f.of (n := x) (by rw [e1]; exact xl)
        have hfd2 := L1.f.at_
        have nao : a ≠ od := L1.oa _ ha
        have nar : a ≠ rd := L1.ra _ ha
        have fbx := fb x
        clear hrd1 hla edl hc lo1 hne
        walk_at "rd"
        refine loop_list (xs := (F x).map nV) (fun j σ H' => ∃ (u8 : Option V) (rj : List Nat), σ = [some (.ref bl), some (.ref lo), some (.ref wd), some (.ref fdd), some (nV x), u5, some (.ref rd), some (.ref od), u8] ∧ Mid loose (lsOf bs) order x ((F x).take j) rj ∧ LO H H' wd fdd rd od loose la F (fun o => (wt (lsOf bs) order o : Int) - (((F x).take j).count o : Int)) rj (order ++ [x])) ⟨_, r', rfl, md, L2.congr fun n _ => by simp⟩ ?_ ?_ ?_
        · rintro j σ H' hj ⟨_, _, rfl, _, l⟩
          exact SqL.of (l.f.ls _ ha).1
        · rintro j z σ H3 hz ⟨u8, rj, rfl, mj, lj⟩
          rw [List.getElem?_map] at hz
          obtain ⟨o, ho, rfl⟩ := Option.map_eq_some_iff.mp hz
          obtain ⟨o1, o2, o3, o4, o5, o6⟩ := mj.step kh.oz xo xz fbx ho
          have hw3 := lj.w
          have hv3 := wD_val (g := fun n => .int ((wt (lsOf bs) order n : Int) - (((F x).take j).count n : Int))) o1
          have lw3 : (wD loose fun n => V.int ((wt (lsOf bs) order n : Int) - (((F x).take j).count n : Int))).length < sizeLine := by unfold wD; rw [List.length_map, sizeLine_eq]; omega
          have hv4 : valV (putK (wD loose fun n => V.int ((wt (lsOf bs) order n : Int) - (((F x).take j).count n : Int))) (.inl (o : Int)) (.int ((wt (lsOf bs) order o : Int) - (((F x).take j).count o : Int) - 1))) (.inl (o : Int)) = some (.int ((wt (lsOf bs) order o : Int) - (((F x).take j).count o : Int) - 1)) := by rw [valV_put, if_pos rfl]
          have hrd3 := lj.r
          have lrj : (rj.map nV).length < sizeLine := by have := mj.le; rw [List.length_map, sizeLine_eq]; omega
          have lW := (lj.setW o1 ((wt (lsOf bs) order o : Int) - (((F x).take j).count o : Int) - 1)).congr (wv' := fun o => (wt (lsOf bs) order o : Int) - (((F x).take (j + 1)).count o : Int)) fun n _ => by
            by_cases e : n = o
            · rw [if_pos e, e, o2]; omega
            · rw [if_neg e, o4 n e]
          clear hod2 hfd2 hga L1 L2 hv
          walk_at "rd"
          refine ite2 (fun hc => ?_) (fun hc => ?_)
          · have hc : (wt (lsOf bs) order o : Int) - (((F x).take j).count o : Int) - 1 = 0 := by simpa using hc
            walk_at "rd"
            have := lW.setR (rj ++ [o])
            rw [List.map_append] at this
            exact ⟨o5 (by omega), this⟩
          · have hc : (wt (lsOf bs) order o : Int) - (((F x).take j).count o : Int) - 1 ≠ 0 := by simpa using hc
            walk_at "rd"
            exact ⟨o6 (by omega), lW⟩
        · rintro σ H3 ⟨u8, rj, rfl, mj, lj⟩
          rw [List.length_map, List.take_length] at mj lj
          have kh2 := Mid.done kh.no kh.ol kh.oz xl xo xz fbx mj
          have le2 := kh2.le
          rw [List.length_append, List.length_singleton] at le2
          refine ⟨_, ?_, _, _, _, rj, order ++ [x], rfl, kh2, lj.congr fun n hn => ?_, rfl⟩
          · rw [List.length_append, List.length_singleton]; omega
          · have z1 := wt_snoc (ls := lsOf bs) xo n
            have z2 := fbx.c n hn
            omega
      · have hnil : ready = [] := by
          cases ready with
          | nil => rfl
          | cons _ _ => exact absurd hc (by simp)
        subst hnil
        walk_at "rd"
        exact q od order _ lo1.ch lo1.ho lo1.o kh
    · rintro σ H Q Q' hq ⟨v, h1, p, ys, h2, h3, i, j, h4, h5, k, h6, h7⟩
      exact ⟨v, h1, p, ys, h2, h3, i, j, h4, h5, k, h6, hq _ _ h7⟩
end
end

section
def acyc (bs : List Bk) : Prop := ∀ n ∈ looseOf bs, ∀ s ∈ lsOf bs n, s ∈ looseOf bs ∧ s < n
structure Pk (H : Hp) (bl ol : Addr) (ins : Nat) (bs : List Bk) (ps : List Addr) (os : List Src) (ops : List Addr) : Prop where
  hb : H bl = some (.lst (ps.map V.ref))
  bt : BsAt H bs ps
  ok : ∀ b ∈ bs, b.ok ins bs.length
  bl : bs.length ≤ 64
  ac : acyc bs
  ho : H ol = some (.lst (ops.map V.ref))
  ow : WsAt H (os.map srcK) ops
  oo : ∀ s ∈ os, s.2 < lim ins bs.length s
  ol : os.length ≤ 64
theorem Pk.ch {H H' : Hp} {bl ol : Addr} {ins : Nat} {bs : List Bk} {ps : List Addr} {os : List Src} {ops : List Addr} (s : Pk H bl ol ins bs ps os ops) (c : Ch [] H H') : Pk H' bl ol ins bs ps os ops :=
  ⟨c.get s.hb (by simp), bs_ch c s.bt, s.ok, s.bl, s.ac, c.get s.ho (by simp), s.ow.ch c, s.oo, s.ol⟩
structure BC (H0 H' : Hp) (bs : List Bk) (ys : List V) : Prop where
  ch : Ch [] H0 H'
  ex : ∃ ts : List Addr, ys = ts.map V.ref ∧ BsAt H' bs ts
theorem bs_snoc {H : Hp} {b : Bk} {p : Addr} (h : BkAt H b p) : ∀ {bs : List Bk} {ps : List Addr}, BsAt H bs ps → BsAt H (bs ++ [b]) (ps ++ [p])
  | _, _, .nil => .cons h .nil
  | _, _, .cons a t => .cons a (bs_snoc h t)
section
variable {P : Program} {w : World} {K : PySem.W.Frag} {mg : Str → Option Value} {base : Heap} {f : Addr} {fd : FuncData} {k : Nat}
theorem gd_loose_order : Nd "loose_order" := by decide +kernel
theorem gd_is_block : Nd "is_block" := by decide +kernel
theorem gd_has_ring : Nd "has_ring" := by decide +kernel
theorem gd_ask_pack : Nd "ask_pack" := by decide +kernel
theorem g16_len : Gi (defScope (top 16)) "len" := by decide +kernel
theorem g16_loose_order : Gi (defScope (top 16)) "loose_order" := by decide +kernel
theorem v16_0 : Vs (defScope (top 16)) "blocks" := by decide +kernel
theorem d16_0 : Nd "blocks" := by decide +kernel
theorem c16_0 : Nc "blocks" := by decide +kernel
def csc16_0 : Scope := { kind := PySem.ScopeKind.function, names := [(PySem.Str.ofString ".0", PySem.NameKind.local), (PySem.Str.ofString "block", PySem.NameKind.local)], isGenerator := false, isCoroutine := false, more := [] : PySem.Scope }
theorem cok16_0 : CompOk csc16_0 (defScope (top 16)) (["block"] : List Str) (["blocks"] : List Str) [] (["block"] : List Str) := compOk rfl (by decide +kernel) (by decide +kernel) (by decide +kernel) (by decide +kernel) rfl (by decide +kernel)
theorem kq16_0_0 : (relab csc16_0 (defScope (top 16))).names.lookup (Str.ofString "block") = some NameKind.local := by decide +kernel
theorem vq16_0_0 : Vs (relab csc16_0 (defScope (top 16))) "block" := by decide +kernel
theorem dq16_0_0 : Nd "block" := by decide +kernel
theorem cq16_0_0 : Nc "block" := by decide +kernel
def spRing : Sp := fun vs H Q _ => ∃ (bl ol : Addr) (ins : Nat) (bs : List Bk) (ps : List Addr) (os : List Src) (ops : List Addr), vs = [.ref bl] ∧ Pk H bl ol ins bs ps os ops ∧ ∀ H', Ch [] H H' → Q (.bl false) H'
theorem scRing : FnScope ["blocks"] ["blocks"] (defScope (top 16)) := ⟨rfl, rfl, rfl, by decide +kernel, rfl, by decide +kernel, by decide +kernel⟩
theorem ok_ring (F : Fun K "has_ring" "has_ring" (top 16) f fd) (Dloose_order : DefOk P w K mg base CX0 k "loose_order" ["blocks"] spLO) (z_len : mg "len" = none) : FnOk P w K mg base CX0 (k + 1) f fd ["blocks"] spRing := by
  have nd := scRing.nd
  refine F.ok scRing (fun vs H Q E h => by obtain ⟨bl, ol, ins, bs, ps, os, ops, rfl, _⟩ := h; rfl) (fun cdv A outer s H vs Q E hr h => ?_)
  obtain ⟨bl, ol, ins, bs, ps, os, ops, rfl, ⟨hb, bt, ok, hl, ac, _⟩, q⟩ := h
  have lp := Paired.length bt
  refine ⟨_, (Pr.h (qpss_one (qps_ret (qpe_cmpR op_ne (qpe_callB call_len_seq g16_len z_len PySem.boot_len (qpa_cons (qpe_callD Dloose_order hr g16_loose_order pass0 (qpa_cons (qpe_var (i := 0) rfl v16_0 d16_0 c16_0) qpa_nil se_Name) gd_loose_order) qpa_nil se_Call) nn_len gd_len) (qpe_callB call_len_seq g16_len z_len PySem.boot_len (qpa_cons (qpe_comp rfl cok16_0 (qpi_list (qpe_var (i := 0) rfl v16_0 d16_0 c16_0)) (fun _ _ _ _ _ => (qpg_name (i := 0) cok16_0.nd rfl (Or.inl kq16_0_0) (Or.inr kq16_0_0))) (fun _ _ _ _ _ => (qpif_one (qpt_cmpR op_eq (qpe_ix (ixaK_tup K rfl) (qpe_var (i := 0) rfl vq16_0_0 dq16_0_0 cq16_0_0) qpe_int (fun _ _ => rfl)) qpe_int (nomark _)))) (fun _ _ _ _ _ => (qpe_var (i := 0) rfl vq16_0_0 dq16_0_0 cq16_0_0))) qpa_nil se_ListComp) nn_len gd_len) (nomark _))))), ?_⟩
  (try dsimp only [cxOf])
  walk_at "rd"
  rename_i od order H1 c1 f1 g1 kh
  have hb1 : H1 bl = some (.lst (ps.map V.ref)) := c1.get hb (by simp)
  refine comp_list (ps.map V.ref) (fun i ys σ H' => H' = H1 ∧ ys.length = ((List.range i).filter (loB bs)).length ∧ ∃ u, σ = [u]) (by rw [sizeLine_eq, List.length_map]; omega) ⟨rfl, rfl, _, rfl⟩ ?_ ?_ ?_
  · rintro i ys σ H' hi ⟨rfl, e, _⟩
    refine ⟨?_, SqL.of hb1⟩
    rw [e]
    exact Nat.le_trans (List.length_filter_le _ _) (by rw [List.length_range]; exact Nat.le_refl _)
  · rintro i ys σ H' z hz ⟨rfl, e, u, rfl⟩
    have hi : i < bs.length := by have := (List.getElem?_eq_some_iff.mp hz).1; rw [List.length_map] at this; omega
    obtain ⟨p, b, e1, e2, ⟨hp, _⟩⟩ := bs_get bt i hi
    rw [e1] at hz
    cases hz
    have hp1 : H' p = some (.tup [.ref b.sp, .int b.bits, .int b.kept, .int b.first]) := c1.get hp (by simp)
    have lo := loB_of e2
    rw [List.range_succ, List.filter_append, List.length_append]
    walk_at "rd"
    refine ite2 (fun hc => ?_) (fun hc => ?_)
    · have hk : b.kept = 0 := by simpa using hc
      rw [hk] at lo
      exact ⟨_, rfl, rfl, by simp [lo, e], _, rfl⟩
    · have hk : b.kept ≠ 0 := by simpa using hc
      exact ⟨rfl, by simp [lo, hk, e], _, rfl⟩
  · rintro ys σ H' ⟨rfl, e, _⟩
    intro D hD
    have el : (order.map nV).length = ys.length := by rw [e, List.length_map, List.length_map, ← lp]; exact kh.len (loose_nodup bs) ac
    have gD : (upd H' D (.lst ys)) D = some (.lst ys) := upd_same
    walk_at "rd"
    rw [el, decide_eq_true rfl]
    exact q _ (c1.trans (Ch.new hD _))
theorem v17_0 : Vs (defScope (top 17)) "ins" := by decide +kernel
theorem d17_0 : Nd "ins" := by decide +kernel
theorem c17_0 : Nc "ins" := by decide +kernel
theorem g17_is_whole : Gi (defScope (top 17)) "is_whole" := by decide +kernel
theorem g17_is_listed : Gi (defScope (top 17)) "is_listed" := by decide +kernel
theorem v17_2 : Vs (defScope (top 17)) "outs" := by decide +kernel
theorem d17_2 : Nd "outs" := by decide +kernel
theorem c17_2 : Nc "outs" := by decide +kernel
theorem v17_1 : Vs (defScope (top 17)) "blocks" := by decide +kernel
theorem d17_1 : Nd "blocks" := by decide +kernel
theorem c17_1 : Nc "blocks" := by decide +kernel
theorem l17_3 : Lc (defScope (top 17)) "counts" := by decide +kernel
theorem g17_len : Gi (defScope (top 17)) "len" := by decide +kernel
theorem g17_all : Gi (defScope (top 17)) "all" := by decide +kernel
def csc17_0 : Scope := { kind := PySem.ScopeKind.function, names := [ (PySem.Str.ofString ".0", PySem.NameKind.local), (PySem.Str.ofString "block", PySem.NameKind.local), (PySem.Str.ofString "is_block", PySem.NameKind.globalImplicit), (PySem.Str.ofString "counts", PySem.NameKind.free)], isGenerator := false, isCoroutine := false, more := [] : PySem.Scope }
theorem cok17_0 : CompOk csc17_0 (defScope (top 17)) (["block"] : List Str) (["ins", "blocks", "outs", "counts"] : List Str) [3] (["block", "counts"] : List Str) := compOk rfl (by decide +kernel) (by decide +kernel) (by decide +kernel) (by decide +kernel) rfl (by decide +kernel)
theorem kq17_0_0 : (relab csc17_0 (defScope (top 17))).names.lookup (Str.ofString "block") = some NameKind.local := by decide +kernel
theorem gq17_0_is_block : Gi (relab csc17_0 (defScope (top 17))) "is_block" := by decide +kernel
theorem vq17_0_1 : Vs (relab csc17_0 (defScope (top 17))) "counts" := by decide +kernel
theorem dq17_0_1 : Nd "counts" := by decide +kernel
theorem cq17_0_1 : Nc "counts" := by decide +kernel
theorem vq17_0_0 : Vs (relab csc17_0 (defScope (top 17))) "block" := by decide +kernel
theorem dq17_0_0 : Nd "block" := by decide +kernel
theorem cq17_0_0 : Nc "block" := by decide +kernel
def csc17_1 : Scope := { kind := PySem.ScopeKind.function, names := [ (PySem.Str.ofString ".0", PySem.NameKind.local), (PySem.Str.ofString "out", PySem.NameKind.local), (PySem.Str.ofString "is_place", PySem.NameKind.globalImplicit), (PySem.Str.ofString "counts", PySem.NameKind.free)], isGenerator := false, isCoroutine := false, more := [] : PySem.Scope }
theorem cok17_1 : CompOk csc17_1 (defScope (top 17)) (["out"] : List Str) (["ins", "blocks", "outs", "counts"] : List Str) [3] (["out", "counts"] : List Str) := compOk rfl (by decide +kernel) (by decide +kernel) (by decide +kernel) (by decide +kernel) rfl (by decide +kernel)
theorem kq17_1_0 : (relab csc17_1 (defScope (top 17))).names.lookup (Str.ofString "out") = some NameKind.local := by decide +kernel
theorem gq17_1_is_place : Gi (relab csc17_1 (defScope (top 17))) "is_place" := by decide +kernel
theorem vq17_1_1 : Vs (relab csc17_1 (defScope (top 17))) "counts" := by decide +kernel
theorem dq17_1_1 : Nd "counts" := by decide +kernel
theorem cq17_1_1 : Nc "counts" := by decide +kernel
theorem vq17_1_0 : Vs (relab csc17_1 (defScope (top 17))) "out" := by decide +kernel
theorem dq17_1_0 : Nd "out" := by decide +kernel
theorem cq17_1_0 : Nc "out" := by decide +kernel
theorem g17_has_ring : Gi (defScope (top 17)) "has_ring" := by decide +kernel
def spAsk : Sp := fun vs H Q _ => ∃ (bl ol : Addr) (ins : Nat) (bs : List Bk) (ps : List Addr) (os : List Src) (ops : List Addr), vs = [.int (ins : Int), .ref bl, .ref ol] ∧ Pk H bl ol ins bs ps os ops ∧ ∀ H', Ch [] H H' → Q .non H'
theorem scAsk : FnScope ["ins", "blocks", "outs", "counts"] ["ins", "blocks", "outs"] (defScope (top 17)) := ⟨rfl, rfl, rfl, by decide +kernel, rfl, by decide +kernel, by decide +kernel⟩
theorem ok_ask (F : Fun K "ask_pack" "ask_pack" (top 17) f fd) (Dis_whole : DefOk P w K mg base CX0 k "is_whole" ["thing"] spWhole) (Dis_listed : DefOk P w K mg base CX0 k "is_listed" ["thing"] spListed) (Dis_block : DefOk P w K mg base CX0 k "is_block" ["thing", "counts"] spBlock) (Dis_place : DefOk P w K mg base CX0 k "is_place" ["thing", "counts"] spPlace) (Dhas_ring : DefOk P w K mg base CX0 k "has_ring" ["blocks"] spRing) (z_len : mg "len" = none) (z_all : mg "all" = none) : FnOk P w K mg base CX0 (k + 1) f fd ["ins", "blocks", "outs"] spAsk := by
  have nd := scAsk.nd
  refine F.ok scAsk (fun vs H Q E h => by obtain ⟨bl, ol, ins, bs, ps, os, ops, rfl, _⟩ := h; rfl) (fun cdv A outer s H vs Q E hr h => ?_)
  obtain ⟨bl, ol, ins, bs, ps, os, ops, rfl, pk, q⟩ := h
  have hu := hu_of hr
  have hb := pk.hb
  have ho := pk.ho
  have lp := Paired.length pk.bt
  have lo := Paired.length pk.ow
  rw [List.length_map] at lo
  have b64 := pk.bl
  have o64 := pk.ol
  have x1 : SqX .list H bl (ps.map V.ref) := hb
  have x2 : ∀ {H'}, Ch [] H H' → SqX .list H' ol (ops.map V.ref) := fun c => c.get ho (by simp)
  refine ⟨_, (Pr.h (qpss_cons (qps_if (qPW_pt (qpw_or (qpt_not (qpt_val (qpe_callD Dis_whole hr g17_is_whole pass0 (qpa_cons (qpe_var (i := 0) rfl v17_0 d17_0 c17_0) qpa_nil se_Name) gd_is_whole))) (qpw_or1 (qpt_cmpR op_lt (qpe_var (i := 0) rfl v17_0 d17_0 c17_0) qpe_int (nomark _)))))
  (qpss_one qps_never)
  qpss_nil)
 (qpss_cons (qps_if (qPW_pt (qpw_or (qpt_not (qpt_val (qpe_callD Dis_listed hr g17_is_listed pass0 (qpa_cons (qpe_var (i := 1) rfl v17_1 d17_1 c17_1) qpa_nil se_Name) gd_is_listed))) (qpw_or1 (qpt_not (qpt_val (qpe_callD Dis_listed hr g17_is_listed pass0 (qpa_cons (qpe_var (i := 2) rfl v17_2 d17_2 c17_2) qpa_nil se_Name) gd_is_listed))))))
  (qpss_one qps_never)
  qpss_nil)
 (qpss_cons (qps_set (i := 3) nd rfl l17_3 (qpe_disp (qpps_cons qpe_str (qpe_var (i := 0) rfl v17_0 d17_0 c17_0) (qpps_cons qpe_str (qpe_callB call_len_seq g17_len z_len PySem.boot_len (qpa_cons (qpe_var (i := 1) rfl v17_1 d17_1 c17_1) qpa_nil se_Name) nn_len gd_len) qpps_nil)) rfl rfl (by intro z; cases z) (by decide)))
 (qpss_cons (qps_if (qpt_not (qpt_val (qpe_callB (call_all rfl) g17_all z_all bo_all (qpa_cons (qpe_comp rfl cok17_0 (qpi_list (qpe_var (i := 1) rfl v17_1 d17_1 c17_1)) (fun _ _ _ _ _ => (qpg_name (i := 0) cok17_0.nd rfl (Or.inl kq17_0_0) (Or.inr kq17_0_0))) (fun _ _ _ _ _ => qpif_nil) (fun _ _ _ _ _ => (qpe_callD Dis_block hr gq17_0_is_block pass0 (qpa_cons (qpe_var (i := 0) rfl vq17_0_0 dq17_0_0 cq17_0_0) (qpa_cons (qpe_var (i := 1) rfl vq17_0_1 dq17_0_1 cq17_0_1) qpa_nil se_Name) se_Name) gd_is_block))) qpa_nil se_ListComp) nn_all gd_all)))
  (qpss_one qps_never)
  qpss_nil)
 (qpss_cons (qps_if (qpt_not (qpt_val (qpe_callB (call_all rfl) g17_all z_all bo_all (qpa_cons (qpe_comp rfl cok17_1 (qpi_list (qpe_var (i := 2) rfl v17_2 d17_2 c17_2)) (fun _ _ _ _ _ => (qpg_name (i := 0) cok17_1.nd rfl (Or.inl kq17_1_0) (Or.inr kq17_1_0))) (fun _ _ _ _ _ => qpif_nil) (fun _ _ _ _ _ => (qpe_callD Dis_place hr gq17_1_is_place pass0 (qpa_cons (qpe_var (i := 0) rfl vq17_1_0 dq17_1_0 cq17_1_0) (qpa_cons (qpe_var (i := 1) rfl vq17_1_1 dq17_1_1 cq17_1_1) qpa_nil se_Name) se_Name) gd_is_place))) qpa_nil se_ListComp) nn_all gd_all)))
  (qpss_one qps_never)
  qpss_nil)
 (qpss_one (qps_if (qpt_val (qpe_callD Dhas_ring hr g17_has_ring pass0 (qpa_cons (qpe_var (i := 1) rfl v17_1 d17_1 c17_1) qpa_nil se_Name) gd_has_ring))
  (qpss_one qps_never)
  qpss_nil)))))))), ?_⟩
  (try dsimp only [cxOf])
  walk_at "rd"
  rename_i H1 c1
  refine ⟨x2 c1, fun H2 c2 => ?_⟩
  have pk2 := pk.ch (c1.trans c2)
  have hb2 := pk2.hb
  walk_at "rd"
  rename_i cd hcd
  refine ⟨(show _ = List.map (fun kv => (kV kv.1, kv.2)) (cntK ins bs.length) from by rw [List.length_map, ← lp]; rfl), (by show (2 : Nat) ≤ 15; decide), ?_⟩
  have em : mergeK [] (cntK ins bs.length) = cntK ins bs.length := rfl
  rw [em]
  have c3 : Ch [] H2 (upd (upd H2 cd (.dK [])) cd (.dK (cntK ins bs.length))) := Ch.own hcd (Ch.new hcd _)
  have gc3 : (upd (upd H2 cd (.dK [])) cd (.dK (cntK ins bs.length))) cd = some (.dK (cntK ins bs.length)) := upd_same
  have pk3 := pk2.ch c3
  have c03 := (c1.trans c2).trans c3
  generalize upd (upd H2 cd (.dK [])) cd (.dK (cntK ins bs.length)) = H3 at c3 gc3 pk3 c03 ⊢
  clear pk2 hb2 c1 c2 c3 hcd x1 x2 hb ho
  have hb3 := pk3.hb
  walk_at "rd"
  refine comp_list (ps.map V.ref) (fun i ys σ H' => Ch [] H3 H' ∧ ys = List.replicate i (V.bl true) ∧ ∃ u, σ = [u, some (.ref cd)]) (by rw [sizeLine_eq, List.length_map]; omega) ⟨Ch.refl _ _, rfl, _, rfl⟩ ?_ ?_ ?_
  · rintro i ys σ H' hi ⟨c, rfl, _⟩
    exact ⟨by simp, SqL.of (c.get hb3 (by simp))⟩
  · rintro i ys σ H' z hz ⟨c, rfl, u, rfl⟩
    have hi : i < bs.length := by have := (List.getElem?_eq_some_iff.mp hz).1; rw [List.length_map] at this; omega
    obtain ⟨p, b, e1, e2, e3⟩ := bs_get (bs_ch c pk3.bt) i hi
    rw [e1] at hz
    cases hz
    have okb := pk3.ok b (List.mem_of_getElem? e2)
    have gc4 : H' cd = some (.dK (cntK ins bs.length)) := c.get gc3 (by simp)
    walk_at "rd"
    exact ⟨by rw [← List.replicate_succ'], _, rfl⟩
  rintro ys σ H4 ⟨c4, rfl, _⟩
  intro D hD
  refine ⟨D, List.replicate (ps.map V.ref).length true, rfl, by rw [upd_same, List.map_replicate], ?_⟩
  rw [show (List.replicate (ps.map V.ref).length true).all id = true from by simp [List.all_replicate]]
  have c5 : Ch [] H3 (upd H4 D (.lst (List.replicate (ps.map V.ref).length (V.bl true)))) := c4.trans (Ch.new hD _)
  have pk5 := pk3.ch c5
  have gc5 := c5.get gc3 (by simp)
  have c05 := c03.trans c5
  generalize upd H4 D (.lst (List.replicate (ps.map V.ref).length (V.bl true))) = H5 at c5 pk5 gc5 c05 ⊢
  clear pk3 gc3 hb3 c4 hD c5
  have ho5 := pk5.ho
  walk_at "rd"
  refine comp_list (ops.map V.ref) (fun i ys σ H' => H' = H5 ∧ ys = List.replicate i (V.bl true) ∧ ∃ u, σ = [u, some (.ref cd)]) (by rw [sizeLine_eq, List.length_map]; omega) ⟨rfl, rfl, _, rfl⟩ ?_ ?_ ?_
  · rintro i ys σ H' hi ⟨rfl, rfl, _⟩
    exact ⟨by simp, SqL.of ho5⟩
  · rintro i ys σ H' z hz ⟨rfl, rfl, u, rfl⟩
    obtain ⟨pl, x, rfl, e1, e2⟩ := ws_get pk5.ow i z hz
    rw [List.getElem?_map] at e1
    obtain ⟨sr, es, rfl⟩ := Option.map_eq_some_iff.mp e1
    have so := pk5.oo sr (List.mem_of_getElem? es)
    walk_at "rd"
    exact ⟨by rw [← List.replicate_succ'], _, rfl⟩
  rintro ys σ H' ⟨rfl, rfl, _⟩
  intro D hD
  refine ⟨D, List.replicate (ops.map V.ref).length true, rfl, by rw [upd_same, List.map_replicate], ?_⟩
  rw [show (List.replicate (ops.map V.ref).length true).all id = true from by simp [List.all_replicate]]
  have pk6 := pk5.ch (Ch.new (o := .lst (List.replicate (ops.map V.ref).length (V.bl true))) hD)
  walk_at "rd"
  rename_i H7 c7
  exact q _ ((c05.trans (Ch.new hD _)).trans c7)
theorem g18m0_ask_pack : Gi (defScope (inClass (top 18) 0)) "ask_pack" := by decide +kernel
theorem v18m0_3 : Vs (defScope (inClass (top 18) 0)) "outs" := by decide +kernel
theorem d18m0_3 : Nd "outs" := by decide +kernel
theorem c18m0_3 : Nc "outs" := by decide +kernel
theorem v18m0_2 : Vs (defScope (inClass (top 18) 0)) "blocks" := by decide +kernel
theorem d18m0_2 : Nd "blocks" := by decide +kernel
theorem c18m0_2 : Nc "blocks" := by decide +kernel
theorem v18m0_1 : Vs (defScope (inClass (top 18) 0)) "ins" := by decide +kernel
theorem d18m0_1 : Nd "ins" := by decide +kernel
theorem c18m0_1 : Nc "ins" := by decide +kernel
theorem v18m0_0 : Vs (defScope (inClass (top 18) 0)) "self" := by decide +kernel
theorem d18m0_0 : Nd "self" := by decide +kernel
theorem c18m0_0 : Nc "self" := by decide +kernel
theorem g18m0_tuple : Gi (defScope (inClass (top 18) 0)) "tuple" := by decide +kernel
def csc18m0_0 : Scope := { kind := PySem.ScopeKind.function, names := [ (PySem.Str.ofString ".0", PySem.NameKind.local), (PySem.Str.ofString "sources", PySem.NameKind.local), (PySem.Str.ofString "bits", PySem.NameKind.local), (PySem.Str.ofString "kept", PySem.NameKind.local), (PySem.Str.ofString "first", PySem.NameKind.local), (PySem.Str.ofString "tuple", PySem.NameKind.globalImplicit)], isGenerator := false, isCoroutine := false, more := [] : PySem.Scope }
theorem cok18m0_0 : CompOk csc18m0_0 (defScope (inClass (top 18) 0)) (["sources", "bits", "kept", "first"] : List Str) (["self", "ins", "blocks", "outs"] : List Str) [] (["sources", "bits", "kept", "first"] : List Str) := compOk rfl (by decide +kernel) (by decide +kernel) (by decide +kernel) (by decide +kernel) rfl (by decide +kernel)
theorem kq18m0_0_3 : (relab csc18m0_0 (defScope (inClass (top 18) 0))).names.lookup (Str.ofString "first") = some NameKind.local := by decide +kernel
theorem kq18m0_0_2 : (relab csc18m0_0 (defScope (inClass (top 18) 0))).names.lookup (Str.ofString "kept") = some NameKind.local := by decide +kernel
theorem kq18m0_0_1 : (relab csc18m0_0 (defScope (inClass (top 18) 0))).names.lookup (Str.ofString "bits") = some NameKind.local := by decide +kernel
theorem kq18m0_0_0 : (relab csc18m0_0 (defScope (inClass (top 18) 0))).names.lookup (Str.ofString "sources") = some NameKind.local := by decide +kernel
theorem vq18m0_0_3 : Vs (relab csc18m0_0 (defScope (inClass (top 18) 0))) "first" := by decide +kernel
theorem dq18m0_0_3 : Nd "first" := by decide +kernel
theorem cq18m0_0_3 : Nc "first" := by decide +kernel
theorem vq18m0_0_2 : Vs (relab csc18m0_0 (defScope (inClass (top 18) 0))) "kept" := by decide +kernel
theorem dq18m0_0_2 : Nd "kept" := by decide +kernel
theorem cq18m0_0_2 : Nc "kept" := by decide +kernel
theorem vq18m0_0_1 : Vs (relab csc18m0_0 (defScope (inClass (top 18) 0))) "bits" := by decide +kernel
theorem dq18m0_0_1 : Nd "bits" := by decide +kernel
theorem cq18m0_0_1 : Nc "bits" := by decide +kernel
theorem gq18m0_0_tuple : Gi (relab csc18m0_0 (defScope (inClass (top 18) 0))) "tuple" := by decide +kernel
theorem vq18m0_0_0 : Vs (relab csc18m0_0 (defScope (inClass (top 18) 0))) "sources" := by decide +kernel
theorem dq18m0_0_0 : Nd "sources" := by decide +kernel
theorem cq18m0_0_0 : Nc "sources" := by decide +kernel
def fldsP (ins : Nat) (tb to : Addr) : List (Str × V) := [("ins", .int (ins : Int)), ("blocks", .ref tb), ("outs", .ref to)]
theorem fldsP_blocks (ins : Nat) (tb to : Addr) : List.lookup (Str.ofString "blocks") (fldsP ins tb to) = some (.ref tb) := rfl
theorem fldsP_outs (ins : Nat) (tb to : Addr) : List.lookup (Str.ofString "outs") (fldsP ins tb to) = some (.ref to) := rfl
structure PackAt (C : Addr) (H : Hp) (x : Addr) (ins : Nat) (tb to : Addr) (bs : List Bk) (ps : List Addr) (os : List Src) (ops : List Addr) : Prop where
  ob : ∃ dx, H x = some (.ins C dx (fldsP ins tb to))
  tb : H tb = some (.tup (ps.map V.ref))
  bt : BsAt H bs ps
  to : H to = some (.tup (ops.map V.ref))
  ow : WsAt H (os.map srcK) ops
def spPack (C : Addr) : Sp := fun vs H Q _ => ∃ (x dx bl ol : Addr) (ins : Nat) (bs : List Bk) (ps : List Addr) (os : List Src) (ops : List Addr), vs = [.ref x, .int (ins : Int), .ref bl, .ref ol] ∧ H x = some (.ins C dx []) ∧ Pk H bl ol ins bs ps os ops ∧
  ∀ tb to ps' H', Ch [x] H H' → PackAt C H' x ins tb to bs ps' os ops → Q .non H'
theorem scPack : FnScope ["self", "ins", "blocks", "outs"] ["self", "ins", "blocks", "outs"] (defScope (inClass (top 18) 0)) := ⟨rfl, rfl, rfl, by decide +kernel, rfl, by decide +kernel, by decide +kernel⟩
theorem ok_Pack {C : Addr} (F : Fun K "__init__" "Pack.__init__" (inClass (top 18) 0) f fd) (cl : Cls K C) (nI : NoAttr K C "ins") (nB : NoAttr K C "blocks") (nO : NoAttr K C "outs") (Dask_pack : DefOk P w K mg base CX0 k "ask_pack" ["ins", "blocks", "outs"] spAsk) (z_tuple : mg "tuple" = none) :
    FnOk P w K mg base CX0 (k + 1) f fd ["self", "ins", "blocks", "outs"] (spPack C) := by
  have nd := scPack.nd
  refine F.ok scPack (fun vs H Q E h => by obtain ⟨x, dx, bl, ol, ins, bs, ps, os, ops, rfl, _⟩ := h; rfl) (fun cdv A outer s H vs Q E hr h => ?_)
  obtain ⟨x, dx, bl, ol, ins, bs, ps, os, ops, rfl, hx, pk, q⟩ := h
  have lp := Paired.length pk.bt
  have b64 := pk.bl
  refine ⟨_, (Pr.h (qpss_cons (qps_expr (qpe_callD Dask_pack hr g18m0_ask_pack pass0 (qpa_cons (qpe_var (i := 1) rfl v18m0_1 d18m0_1 c18m0_1) (qpa_cons (qpe_var (i := 2) rfl v18m0_2 d18m0_2 c18m0_2) (qpa_cons (qpe_var (i := 3) rfl v18m0_3 d18m0_3 c18m0_3) qpa_nil se_Name) se_Name) se_Name) gd_ask_pack))
 (qpss_cons (qps_fld (qpe_var (i := 0) rfl v18m0_0 d18m0_0 c18m0_0) (qpe_var (i := 1) rfl v18m0_1 d18m0_1 c18m0_1) rfl)
 (qpss_cons (qps_fld (qpe_var (i := 0) rfl v18m0_0 d18m0_0 c18m0_0) (qpe_callTy call_tuple_of g18m0_tuple z_tuple bo_tuple (qpa_cons (qpe_comp rfl cok18m0_0 (qpi_list (qpe_var (i := 2) rfl v18m0_2 d18m0_2 c18m0_2)) (fun _ _ _ _ _ => (qpg_tupK K 4 rfl rfl (qpgs_cons (qpg_name (i := 0) cok18m0_0.nd rfl (Or.inl kq18m0_0_0) (Or.inr kq18m0_0_0)) (qpgs_cons (qpg_name (i := 1) cok18m0_0.nd rfl (Or.inl kq18m0_0_1) (Or.inr kq18m0_0_1)) (qpgs_cons (qpg_name (i := 2) cok18m0_0.nd rfl (Or.inl kq18m0_0_2) (Or.inr kq18m0_0_2)) (qpgs_cons (qpg_name (i := 3) cok18m0_0.nd rfl (Or.inl kq18m0_0_3) (Or.inr kq18m0_0_3)) qpgs_nil)))))) (fun _ _ _ _ _ => qpif_nil) (fun _ _ _ _ _ => (qpe_tup (qpa_cons (qpe_callTy (callK_tuple_of K rfl) gq18m0_0_tuple z_tuple bo_tuple (qpa_cons (qpe_var (i := 0) rfl vq18m0_0_0 dq18m0_0_0 cq18m0_0_0) qpa_nil se_Name) nn_tuple gd_tuple) (qpa_cons (qpe_var (i := 1) rfl vq18m0_0_1 dq18m0_0_1 cq18m0_0_1) (qpa_cons (qpe_var (i := 2) rfl vq18m0_0_2 dq18m0_0_2 cq18m0_0_2) (qpa_cons (qpe_var (i := 3) rfl vq18m0_0_3 dq18m0_0_3 cq18m0_0_3) qpa_nil se_Name) se_Name) se_Name) se_Call)))) qpa_nil se_ListComp) nn_tuple gd_tuple) rfl)
 (qpss_one (qps_fld (qpe_var (i := 0) rfl v18m0_0 d18m0_0 c18m0_0) (qpe_callTy call_tuple_of g18m0_tuple z_tuple bo_tuple (qpa_cons (qpe_var (i := 3) rfl v18m0_3 d18m0_3 c18m0_3) qpa_nil se_Name) nn_tuple gd_tuple) rfl)))))), ?_⟩
  (try dsimp only [cxOf])
  walk_at "rd"
  rename_i H1 c1
  have pk1 := pk.ch c1
  have hx1 : H1 x = some (.ins C dx []) := c1.get hx (by simp)
  have tu : ∀ p xs, H1 p = some (.tup xs) → (upd H1 x (.ins C dx (putF "ins" (.int (ins : Int)) []))) p = some (.tup xs) := fun p xs h => g_put (ne_of h hx1 (by intro z; cases z)) h
  have hb2 : (upd H1 x (.ins C dx (putF "ins" (.int (ins : Int)) []))) bl = some (.lst (ps.map V.ref)) := g_put (ne_of pk1.hb hx1 (by intro z; cases z)) pk1.hb
  have ho2 : (upd H1 x (.ins C dx (putF "ins" (.int (ins : Int)) []))) ol = some (.lst (ops.map V.ref)) := g_put (ne_of pk1.ho hx1 (by intro z; cases z)) pk1.ho
  have hx2 : (upd H1 x (.ins C dx (putF "ins" (.int (ins : Int)) []))) x = some (.ins C dx (putF "ins" (.int (ins : Int)) [])) := upd_same
  have bt2 := bs_imp tu pk1.bt
  have ow2 := pk1.ow.imp tu
  have c2 : Ch [x] H (upd H1 x (.ins C dx (putF "ins" (.int (ins : Int)) []))) := c1.wk.trans Ch.put
  refine ⟨⟨_, SqL.of hb2⟩, ?_⟩
  generalize upd H1 x (.ins C dx (putF "ins" (.int (ins : Int)) [])) = H2 at hb2 ho2 hx2 bt2 ow2 c2 ⊢
  clear tu hx1 pk1 c1
  refine comp_list (ps.map V.ref) (fun i ys σ H' => BC H2 H' (bs.take i) ys ∧ ∃ u0 u1 u2 u3, σ = [u0, u1, u2, u3]) (by rw [sizeLine_eq, List.length_map]; omega) ⟨⟨Ch.refl _ _, [], rfl, .nil⟩, _, _, _, _, rfl⟩ ?_ ?_ ?_
  · rintro i ys σ H' hi ⟨⟨c, ts, rfl, tt⟩, _⟩
    refine ⟨?_, SqL.of (c.get hb2 (by simp))⟩
    rw [List.length_map, ← Paired.length tt, List.length_take]
    omega
  · rintro i ys σ H' z hz ⟨⟨c, ts, rfl, tt⟩, u0, u1, u2, u3, rfl⟩
    have hi : i < bs.length := by have := (List.getElem?_eq_some_iff.mp hz).1; rw [List.length_map] at this; omega
    obtain ⟨p, b, e1, e2, ⟨hp, sps, hs, ws⟩⟩ := bs_get (bs_ch c bt2) i hi
    rw [e1] at hz
    cases hz
    walk_at "rd"
    rename_i T hT
    have cT : Ch [] H' (upd H' T (.tup [.ref b.sp, .int b.bits, .int b.kept, .int b.first])) := Ch.new hT _
    refine ⟨⟨c.trans cT, ts ++ [T], by simp, ?_⟩, _, _, _, _, rfl⟩
    rw [List.take_add_one, e2]
    exact bs_snoc ⟨upd_same, sps, cT.get hs (by simp), ws.ch cT⟩ (bs_ch cT tt)
  rintro ys σ H3 ⟨⟨c3, ts, rfl, tt⟩, _⟩
  rw [List.length_map, ← lp, List.take_length] at tt
  intro D hD
  have hx3 : H3 x = some (.ins C dx (putF "ins" (.int (ins : Int)) [])) := c3.get hx2 (by simp)
  have ho3 : H3 ol = some (.lst (ops.map V.ref)) := c3.get ho2 (by simp)
  have nox : ol ≠ x := ne_of ho3 hx3 (by intro z; cases z)
  walk_at "rd"
  rename_i tb h1 to h2
  have cA : Ch [] H3 (upd (upd H3 D (.lst (ts.map V.ref))) tb (.tup (ts.map V.ref))) := (Ch.new hD _).trans (Ch.new h1 _)
  have ntx : tb ≠ x := (ne_of_none (g_new hD hx3) h1).symm
  have nox2 : to ≠ x := fun z => by rw [z, upd_same] at h2; cases h2
  have tu : ∀ p xs, H3 p = some (.tup xs) → (upd (upd (upd (upd (upd H3 D (.lst (ts.map V.ref))) tb (.tup (ts.map V.ref))) x (.ins C dx (putF "blocks" (.ref tb) (putF "ins" (.int (ins : Int)) [])))) to (.tup (ops.map V.ref))) x (.ins C dx (putF "outs" (.ref to) (putF "blocks" (.ref tb) (putF "ins" (.int (ins : Int)) []))))) p = some (.tup xs) := fun p xs h => by
    have n := ne_of h hx3 (by intro z; cases z)
    exact g_put n (g_new h2 (g_put n (cA.get h (by simp))))
  exact q tb to ts _ ((((c2.trans c3.wk).trans cA.wk).trans Ch.put).trans ((Ch.new h2 _).trans Ch.put)) ⟨⟨dx, upd_same⟩, g_put ntx (g_new h2 (g_put ntx upd_same)), bs_imp tu tt, g_put nox2 upd_same, (ow2.ch c3).imp tu⟩
end
end

section
def AdjP (H0 H : Hp) (p : List Key × V) (q : Wr × List Wr) : Prop := p.1 = q.1 ∧ ∃ (a : Addr) (ps : List Addr), p.2 = .ref a ∧ H0 a = none ∧ H a = some (.lst (ps.map V.ref)) ∧ WsAt H q.2 ps
structure Adj (H0 H : Hp) (kvs : List (List Key × V)) (nb : List (Wr × List Wr)) : Prop where
  pr : Paired (AdjP H0 H) kvs nb
  nv : (kvs.map (·.2)).Nodup
  nk : (kvs.map (·.1)).Nodup
theorem adj_imp {H0 H H' : Hp} : ∀ {kvs : List (List Key × V)} {nb : List (Wr × List Wr)}, (∀ p xs, H p = some (.tup xs) → H' p = some (.tup xs)) → (∀ a xs, V.ref a ∈ kvs.map (·.2) → H a = some (.lst xs) → H' a = some (.lst xs)) → Paired (AdjP H0 H) kvs nb → Paired (AdjP H0 H') kvs nb
  | _, _, _, _, .nil => .nil
  | (k, v) :: kvs, _ :: nb, ht, hl, .cons ⟨e, a, ps, ev, h0, ha, hw⟩ t =>
    .cons ⟨e, a, ps, ev, h0, hl a _ (by simp [show v = .ref a from ev]) ha, hw.imp ht⟩ (adj_imp ht (fun b xs hb => hl b xs (by simp at hb ⊢; exact .inr hb)) t)
theorem Adj.ch {H0 H H' : Hp} {kvs : List (List Key × V)} {nb : List (Wr × List Wr)} (s : Adj H0 H kvs nb) (c : Ch [] H H') : Adj H0 H' kvs nb := ⟨adj_imp (fun p xs h => c.get h (by simp)) (fun a xs _ h => c.get h (by simp)) s.pr, s.nv, s.nk⟩
theorem adj_keys {H0 H : Hp} : ∀ {kvs : List (List Key × V)} {nb : List (Wr × List Wr)}, Paired (AdjP H0 H) kvs nb → ∀ k : Wr, (kvs.any fun kv => decide (kv.1 = k)) = nb.any fun p => decide (p.1 = k)
  | _, _, .nil, _ => rfl
  | _, _, .cons ⟨e, _⟩ t, k => by simp only [List.any_cons, e, adj_keys t k]
theorem val_any {kvs : List (List Key × V)} {k : List Key} (h : valV kvs k = none) : (kvs.any fun kv => decide (kv.1 = k)) = false := by
  induction kvs with
  | nil => rfl
  | cons p kvs ih =>
    by_cases e : p.1 = k
    · rw [valV_pos e] at h; cases h
    · rw [valV_neg e] at h
      rw [List.any_cons, ih h, decide_eq_false e]; rfl
theorem adj_there {H0 H : Hp} {k : Wr} {v : V} : ∀ {kvs : List (List Key × V)} {nb : List (Wr × List Wr)}, Paired (AdjP H0 H) kvs nb → valV kvs k = some v → ∃ (a : Addr) (ps : List Addr), v = .ref a ∧ H0 a = none ∧ H a = some (.lst (ps.map V.ref)) ∧ WsAt H (nbr nb k) ps ∧ v ∈ kvs.map (·.2) ∧ (nb.any fun p => decide (p.1 = k)) = true
  | _, _, .nil, h => by cases h
  | p :: kvs, q :: nb, .cons ⟨e, a, ps, ev, h0, ha, hw⟩ t, h => by
    by_cases ek : p.1 = k
    · rw [valV_pos ek] at h
      cases h
      exact ⟨a, ps, ev, h0, ha, by rw [nbr_cons, if_pos (by rw [← e]; exact ek)]; exact hw, by simp, by simp [← e, ek]⟩
    · rw [valV_neg ek] at h
      obtain ⟨a', ps', x1, x2, x3, x4, x5, x6⟩ := adj_there t h
      exact ⟨a', ps', x1, x2, x3, by rw [nbr_cons, if_neg (by rw [← e]; exact ek)]; exact x4, by simp at x5 ⊢; exact .inr x5, by simp [x6]⟩
theorem adj_old {H0 H : Hp} {k x : Wr} {a w : Addr} {ps : List Addr} (ha : H a = some (.lst (ps.map V.ref))) (hw : H w = some (.tup (x.map kV))) : ∀ {kvs : List (List Key × V)} {nb : List (Wr × List Wr)}, Paired (AdjP H0 H) kvs nb → (kvs.map (·.2)).Nodup → (kvs.map (·.1)).Nodup → valV kvs k = some (.ref a) →
    Paired (AdjP H0 (upd H a (.lst (ps.map V.ref ++ [V.ref w])))) kvs (nb.map fun p => if p.1 = k then (p.1, p.2 ++ [x]) else p)
  | _, _, .nil, _, _, h => by cases h
  | p :: kvs, q :: nb, .cons ⟨e, b, qs, ev, h0, hb, hq⟩ t, nv, nk, h => by
    have nv' : p.2 ∉ kvs.map (·.2) ∧ (kvs.map (·.2)).Nodup := by simpa using nv
    have nk' : p.1 ∉ kvs.map (·.1) ∧ (kvs.map (·.1)).Nodup := by simpa using nk
    have tu : ∀ c xs, H c = some (.tup xs) → (upd H a (.lst (ps.map V.ref ++ [V.ref w]))) c = some (.tup xs) := fun c xs hc => by rw [upd_ne (ne_of hc ha (by intro z; cases z))]; exact hc
    rw [List.map_cons]
    by_cases ek : p.1 = k
    · rw [valV_pos ek] at h
      have e1 : p.2 = .ref a := Option.some.inj h
      have e2 : b = a := by rw [e1] at ev; cases ev; rfl
      subst e2
      rw [if_pos (by rw [← e]; exact ek)]
      have e3 : qs = ps := by
        rw [ha] at hb
        have : ps.map V.ref = qs.map V.ref := by injection hb with z; injection z
        have inj : ∀ {l m : List Addr}, l.map V.ref = m.map V.ref → l = m := by
          intro l
          induction l with
          | nil => intro m z; cases m with | nil => rfl | cons _ _ => cases z
          | cons y l ih => intro m z; cases m with | nil => cases z | cons y' m => simp at z; rw [z.1, ih (by simpa using z.2)]
        exact (inj this).symm
      subst e3
      refine .cons ⟨e, b, qs ++ [w], ev, h0, by rw [upd_same, List.map_append]; rfl, (hq.imp tu).snoc (tu _ _ hw)⟩ ?_
      have same : (nb.map fun p => if p.1 = k then (p.1, p.2 ++ [x]) else p) = nb := by
        have no : (nb.any fun p => decide (p.1 = k)) = false := by
          rw [← adj_keys t k, List.any_eq_false]
          intro y hy z
          exact nk'.1 (by rw [ek, ← (of_decide_eq_true z)]; exact List.mem_map.mpr ⟨y, hy, rfl⟩)
        refine (List.map_congr_left (g := id) fun y hy => ?_).trans (List.map_id _)
        rw [if_neg (fun z => by have := List.any_eq_false.mp no y hy; exact this (decide_eq_true z))]
        rfl
      rw [same]
      exact adj_imp tu (fun c xs hc hcl => by rw [upd_ne (fun z => nv'.1 (by rw [e1, ← z]; exact hc))]; exact hcl) t
    · rw [valV_neg ek] at h
      rw [if_neg (by rw [← e]; exact ek)]
      refine .cons ⟨e, b, qs, ev, h0, ?_, hq.imp tu⟩ (adj_old ha hw t nv'.2 nk'.2 h)
      obtain ⟨a', _, x1, _, _, _, x5, _⟩ := adj_there t h
      have nb' : b ≠ a := fun z => nv'.1 (by rw [ev, z]; exact x5)
      rw [upd_ne nb']; exact hb
theorem adj_snoc {H0 H : Hp} {p : List Key × V} {q : Wr × List Wr} (h : AdjP H0 H p q) : ∀ {kvs : List (List Key × V)} {nb : List (Wr × List Wr)}, Paired (AdjP H0 H) kvs nb → Paired (AdjP H0 H) (kvs ++ [p]) (nb ++ [q])
  | _, _, .nil => .cons h .nil
  | _, _, .cons a t => .cons a (adj_snoc h t)
structure BS (H0 H : Hp) (bd : Addr) (nb : List (Wr × List Wr)) (n : Nat) : Prop where
  ch : Ch [] H0 H
  fr : H0 bd = none
  ex : ∃ kvs, H bd = some (.dT kvs) ∧ Adj H0 H kvs nb ∧ kvs.length ≤ n
theorem BS.keep {H0 H H' : Hp} {bd : Addr} {nb : List (Wr × List Wr)} {n : Nat} (s : BS H0 H bd nb n) (c : Ch [] H H') : BS H0 H' bd nb n := ⟨s.ch.trans c, s.fr, let ⟨kvs, a, b, l⟩ := s.ex; ⟨kvs, c.get a (by simp), b.ch c, l⟩⟩
theorem bs_old {H0 H : Hp} {bd : Addr} {nb : List (Wr × List Wr)} {n : Nat} {kvs : List (List Key × V)} {k x : Wr} {a w : Addr} {ps : List Addr} (c : Ch [] H0 H) (f : H0 bd = none) (hb : H bd = some (.dT kvs)) (ad : Adj H0 H kvs nb) (l : kvs.length ≤ n) (hv : valV kvs k = some (.ref a)) (h0 : H0 a = none) (ha : H a = some (.lst (ps.map V.ref))) (hw : H w = some (.tup (x.map kV)))
    (hy : (nb.any fun p => decide (p.1 = k)) = true) : BS H0 (upd H a (.lst (ps.map V.ref ++ [V.ref w]))) bd (addN nb k x) (n + 1) := by
  refine ⟨Ch.own h0 c, f, kvs, by rw [upd_ne (ne_of hb ha (by intro z; cases z))]; exact hb, ⟨?_, ad.nv, ad.nk⟩, by omega⟩
  unfold addN
  rw [if_pos hy]
  exact adj_old ha hw ad.pr ad.nv ad.nk hv
theorem vals_have {H0 H : Hp} : ∀ {kvs : List (List Key × V)} {nb : List (Wr × List Wr)}, Paired (AdjP H0 H) kvs nb → ∀ v ∈ kvs.map (·.2), ∃ a xs, v = .ref a ∧ H a = some (.lst xs)
  | _, _, .nil, v, h => by simp at h
  | p :: kvs, _, .cons ⟨_, a, ps, ev, _, ha, _⟩ t, v, h => by
    rcases (by simpa using h : v = p.2 ∨ v ∈ kvs.map (·.2)) with rfl | h
    · exact ⟨a, _, ev, ha⟩
    · exact vals_have t v h
theorem bs_key {H0 H : Hp} {bd l0 : Addr} {nb : List (Wr × List Wr)} {n : Nat} {kvs : List (List Key × V)} {k : Wr} (c : Ch [] H0 H) (f : H0 bd = none) (hb : H bd = some (.dT kvs)) (ad : Adj H0 H kvs nb) (l : kvs.length ≤ n) (hv : valV kvs k = none) (hl : H l0 = none) :
    BS H0 (upd (upd H l0 (.lst [])) bd (.dT (putK kvs k (.ref l0)))) bd (nb ++ [(k, [])]) (n + 1) := by
  have nl : bd ≠ l0 := ne_of_none hb hl
  have no := val_any hv
  have ep : putK kvs k (.ref l0) = kvs ++ [(k, .ref l0)] := by unfold putK; rw [if_neg (by rw [no]; simp)]
  have h0 : H0 l0 = none := chFree c hl
  have at_ : ∀ b o, b ≠ bd → H b = some o → (upd (upd H l0 (.lst [])) bd (.dT (putK kvs k (.ref l0)))) b = some o := fun b o n2 e => g_put n2 (g_new hl e)
  refine ⟨Ch.own f (Ch.own h0 c), f, kvs ++ [(k, .ref l0)], by rw [upd_same, ep], ⟨?_, ?_, ?_⟩, by simp; omega⟩
  · have hp : AdjP H0 (upd (upd H l0 (.lst [])) bd (.dT (putK kvs k (.ref l0)))) (k, .ref l0) (k, []) := ⟨rfl, l0, [], rfl, h0, g_put nl.symm upd_same, .nil⟩
    exact adj_snoc hp (adj_imp (fun p xs e => at_ p _ (ne_of e hb (by intro z; cases z)) e) (fun a xs _ e => at_ a _ (ne_of e hb (by intro z; cases z)) e) ad.pr)
  · rw [List.map_append, List.nodup_append]
    refine ⟨ad.nv, by simp, fun v hv' y hy z => ?_⟩
    obtain ⟨a, xs, e1, e2⟩ := vals_have ad.pr v hv'
    have : y = .ref l0 := by simpa using hy
    rw [this, e1] at z
    cases z
    rw [hl] at e2; cases e2
  · rw [List.map_append, List.nodup_append]
    refine ⟨ad.nk, by simp, fun v hv' y hy z => ?_⟩
    have e : y = k := by simpa using hy
    obtain ⟨q, hq, rfl⟩ := List.mem_map.mp hv'
    have := List.any_eq_false.mp no q hq
    exact this (decide_eq_true (z.trans e))
theorem addN_key {nb : List (Wr × List Wr)} {k x : Wr} (h : (nb.any fun p => decide (p.1 = k)) = false) : addN (nb ++ [(k, [])]) k x = addN nb k x := by
  unfold addN
  have h2 : ((nb ++ [(k, ([] : List Wr))]).any fun p => decide (p.1 = k)) = true := by simp
  have h3 : ¬ (nb.any fun p => decide (p.1 = k)) = true := by rw [h]; simp
  rw [if_pos h2, if_neg h3, List.map_append]
  congr 1
  · refine (List.map_congr_left (g := id) fun y hy => ?_).trans (List.map_id _)
    rw [if_neg (fun z => by have := List.any_eq_false.mp h y hy; exact this (decide_eq_true z))]
    rfl
  · simp
theorem bs_app_new {H0 H : Hp} {bd l0 w : Addr} {nb : List (Wr × List Wr)} {n : Nat} {kvs : List (List Key × V)} {k x : Wr} (c : Ch [] H0 H) (f : H0 bd = none) (hb : H bd = some (.dT kvs)) (ad : Adj H0 H kvs nb) (l : kvs.length ≤ n) (hv : valV kvs k = none) (hl : H l0 = none) (hw : (upd (upd H l0 (.lst [])) bd (.dT (putK kvs k (.ref l0)))) w = none) :
    BS H0 (upd (upd (upd (upd H l0 (.lst [])) bd (.dT (putK kvs k (.ref l0)))) w (.tup (x.map kV))) l0 (.lst ([] ++ [V.ref w]))) bd (addN nb k x) (n + 2) := by
  have no2 : (nb.any fun p => decide (p.1 = k)) = false := by rw [← adj_keys ad.pr k]; exact val_any hv
  have nl : bd ≠ l0 := ne_of_none hb hl
  have b1 := (bs_key c f hb ad l hv hl).keep (Ch.new (o := .tup (x.map kV)) hw)
  obtain ⟨kvs', g, ad', l'⟩ := b1.ex
  have e : kvs' = putK kvs k (.ref l0) := by
    have g' : (upd (upd (upd H l0 (.lst [])) bd (.dT (putK kvs k (.ref l0)))) w (.tup (x.map kV))) bd = some (.dT (putK kvs k (.ref l0))) := g_new hw upd_same
    have := g.symm.trans g'
    injection this with this
    injection this
  subst e
  have := bs_old (k := k) (x := x) (a := l0) (w := w) (ps := []) b1.ch f g ad' l' (by rw [valV_put, if_pos rfl]) (chFree c hl) (g_new hw (g_put nl.symm upd_same)) upd_same (by simp)
  rw [addN_key no2] at this
  exact this
theorem bs_app_old {H0 H : Hp} {bd l0 w a : Addr} {nb : List (Wr × List Wr)} {n : Nat} {kvs : List (List Key × V)} {k x : Wr} {ps : List Addr} (c : Ch [] H0 H) (f : H0 bd = none) (hb : H bd = some (.dT kvs)) (ad : Adj H0 H kvs nb) (l : kvs.length ≤ n) (hv : valV kvs k = some (.ref a)) (h0 : H0 a = none) (ha : H a = some (.lst (ps.map V.ref))) (hy : (nb.any fun p => decide (p.1 = k)) = true) (hl : H l0 = none) (hw : (upd H l0 (.lst [])) w = none) :
    BS H0 (upd (upd (upd H l0 (.lst [])) w (.tup (x.map kV))) a (.lst (ps.map V.ref ++ [V.ref w]))) bd (addN nb k x) (n + 2) := by
  have cc : Ch [] H (upd (upd H l0 (.lst [])) w (.tup (x.map kV))) := (Ch.new hl _).trans (Ch.new hw _)
  have := bs_old (k := k) (x := x) (w := w) (c.trans cc) f (cc.get hb (by simp)) (ad.ch cc) l hv h0 (cc.get ha (by simp)) upd_same hy
  exact ⟨this.ch, this.fr, let ⟨q, g1, g2, g3⟩ := this.ex; ⟨q, g1, g2, by omega⟩⟩
def addE (nb : List (Wr × List Wr)) (e : Wr × Wr) : List (Wr × List Wr) := addN nb e.1 e.2
def sinksOf (es : List (Wr × Wr)) (k : Wr) : List Wr := (es.filter fun e => decide (e.1 = k)).map (·.2)
theorem nbr_addN (nb : List (Wr × List Wr)) (k x j : Wr) : nbr (addN nb k x) j = if j = k then nbr nb j ++ [x] else nbr nb j := by
  unfold addN
  by_cases h : (nb.any fun p => decide (p.1 = k)) = true
  · rw [if_pos h, nbr_map]
    by_cases e : j = k
    · rw [if_pos ⟨e, h⟩, if_pos e]
    · rw [if_neg (fun z => e z.1), if_neg e]
  · rw [if_neg h, nbr_app (Bool.not_eq_true _ ▸ h)]
    by_cases e : j = k
    · rw [if_pos e, if_pos e, e, nbr_miss (Bool.not_eq_true _ ▸ h)]; rfl
    · rw [if_neg e, if_neg e]
theorem nbr_all : ∀ (es : List (Wr × Wr)) (nb : List (Wr × List Wr)) (j : Wr), nbr (es.foldl addE nb) j = nbr nb j ++ sinksOf es j
  | [], nb, j => by simp [sinksOf]
  | e :: es, nb, j => by
    rw [List.foldl_cons, nbr_all es, addE, nbr_addN]
    unfold sinksOf
    rw [List.filter_cons]
    by_cases h : j = e.1
    · rw [if_pos h, if_pos (by simp [h]), List.map_cons, List.append_assoc]; rfl
    · rw [if_neg h, if_neg (by simpa using Ne.symm h)]
theorem any_addN (nb : List (Wr × List Wr)) (k x j : Wr) : ((addN nb k x).any fun p => decide (p.1 = j)) = ((nb.any fun p => decide (p.1 = j)) || decide (k = j)) := by
  unfold addN
  by_cases h : (nb.any fun p => decide (p.1 = k)) = true
  · rw [if_pos h, List.any_map]
    have : ((fun p : Wr × List Wr => decide (p.1 = j)) ∘ fun p => if p.1 = k then (p.1, p.2 ++ [x]) else p) = fun p => decide (p.1 = j) := by
      funext p
      simp only [Function.comp]
      split <;> rfl
    rw [this]
    by_cases e : k = j
    · subst e; rw [h]; rfl
    · simp [e]
  · rw [if_neg h, List.any_append]
    simp
theorem any_all : ∀ (es : List (Wr × Wr)) (nb : List (Wr × List Wr)) (j : Wr), ((es.foldl addE nb).any fun p => decide (p.1 = j)) = ((nb.any fun p => decide (p.1 = j)) || es.any fun e => decide (e.1 = j))
  | [], nb, j => by simp
  | e :: es, nb, j => by rw [List.foldl_cons, any_all es, addE, any_addN, List.any_cons, Bool.or_assoc]
end

section
local macro_rules | `(tactic| walk_at "user") => `(tactic| first
  | (apply isD_t; walk_at "get")
  | (apply dget_some; (focus walk_at "get"); (focus walk_at "get"); (focus with_reducible assumption)))
def sinkB (n p : Nat) : Wr := [.inr "block", .inl (n : Int), .inl (p : Int)]
def sinkO (n : Nat) : Wr := [.inr "out", .inl (n : Int)]
def endsAt (n : Nat) (ss : List Src) : List (Wr × Wr) := ss.zipIdx.map fun q => (srcK q.1, sinkB n q.2)
def endsB (bs : List Bk) : List (Wr × Wr) := bs.zipIdx.flatMap fun q => endsAt q.2 q.1.ss
def endsO (os : List Src) : List (Wr × Wr) := os.zipIdx.map fun q => (srcK q.1, sinkO q.2)
theorem zip_take {α : Type} {l : List α} {j : Nat} {s : α} (h : l[j]? = some s) : (l.take (j + 1)).zipIdx = (l.take j).zipIdx ++ [(s, j)] := by
  have hj := (List.getElem?_eq_some_iff.mp h).1
  rw [List.take_add_one, h, List.zipIdx_append, List.length_take, Nat.min_eq_left (by omega)]
  simp
theorem endsAt_take {n j : Nat} {ss : List Src} {s : Src} (h : ss[j]? = some s) : endsAt n (ss.take (j + 1)) = endsAt n (ss.take j) ++ [(srcK s, sinkB n j)] := by unfold endsAt; rw [zip_take h, List.map_append]; rfl
theorem endsB_take {i : Nat} {bs : List Bk} {b : Bk} (h : bs[i]? = some b) : endsB (bs.take (i + 1)) = endsB (bs.take i) ++ endsAt i b.ss := by unfold endsB; rw [zip_take h, List.flatMap_append]; simp
theorem endsO_take {j : Nat} {os : List Src} {s : Src} (h : os[j]? = some s) : endsO (os.take (j + 1)) = endsO (os.take j) ++ [(srcK s, sinkO j)] := by unfold endsO; rw [zip_take h, List.map_append]; rfl
theorem endsAt_len (n : Nat) (ss : List Src) : (endsAt n ss).length = ss.length := by unfold endsAt; rw [List.length_map, List.length_zipIdx]
theorem endsO_len (os : List Src) : (endsO os).length = os.length := by unfold endsO; rw [List.length_map, List.length_zipIdx]
theorem flat_len {α β : Type} (f : α → List β) (n : Nat) : ∀ l : List α, (∀ x ∈ l, (f x).length ≤ n) → (l.flatMap f).length ≤ n * l.length
  | [], _ => by simp
  | x :: l, h => by
    have ih := flat_len f n l fun y hy => h y (by simp [hy])
    have := h x (by simp)
    rw [List.flatMap_cons, List.length_append, List.length_cons, Nat.mul_add]
    omega
theorem endsB_len {bs : List Bk} (h : ∀ b ∈ bs, b.ss.length ≤ 4) : (endsB bs).length ≤ 4 * bs.length := by
  unfold endsB
  have := flat_len (fun q : Bk × Nat => endsAt q.2 q.1.ss) 4 bs.zipIdx fun x hx => by
    rw [endsAt_len]
    obtain ⟨y, k⟩ := x
    exact h y (List.fst_mem_of_mem_zipIdx hx)
  rw [List.length_zipIdx] at this
  exact this
theorem sinks_len (es : List (Wr × Wr)) (k : Wr) : (sinksOf es k).length ≤ es.length := by unfold sinksOf; rw [List.length_map]; exact List.length_filter_le _ _
structure BE (H0 H : Hp) (bd : Addr) (es : List (Wr × Wr)) : Prop where
  b : BS H0 H bd (es.foldl addE []) (2 * es.length)
theorem BE.ch {H0 H H' : Hp} {bd : Addr} {es : List (Wr × Wr)} (s : BE H0 H bd es) (c : Ch [] H H') : BE H0 H' bd es := ⟨s.b.keep c⟩
theorem be_len {es : List (Wr × Wr)} (k : Wr) : (nbr (es.foldl addE []) k).length ≤ es.length := by
  rw [nbr_all]
  exact sinks_len es k
theorem BE.snoc {H0 H : Hp} {bd : Addr} {es : List (Wr × Wr)} {k x : Wr} (s : BS H0 H bd (addN (es.foldl addE []) k x) (2 * es.length + 2)) : BE H0 H bd (es ++ [(k, x)]) := by
  refine ⟨?_⟩
  rw [List.foldl_append, List.length_append, List.length_singleton, Nat.mul_add]
  exact s
def allK (ins many : Nat) : List Wr := (List.range ins).map (fun j => srcK (false, j)) ++ (List.range many).map (fun j => srcK (true, j))
def hasK (es : List (Wr × Wr)) (k : Wr) : Bool := es.any fun e => decide (e.1 = k)
def sigOf (es : List (Wr × Wr)) (ins many : Nat) : List (Wr × List Wr) := ((allK ins many).filter (hasK es)).map fun k => (k, sinksOf es k)
structure SgP (H0 H : Hp) (e : Wr × List Wr) (t : Addr) : Prop where
  ex : ∃ (p a : Addr) (qs : List Addr), H t = some (.tup [.ref p, .ref a]) ∧ H p = some (.tup (e.1.map kV)) ∧ H a = some (.lst (qs.map V.ref)) ∧ WsAt H e.2 qs ∧ H0 a = none
abbrev SgAt (H0 H : Hp) : List (Wr × List Wr) → List Addr → Prop := Paired (SgP H0 H)
theorem sg_ch {H0 H H' : Hp} (c : Ch [] H H') : ∀ {es : List (Wr × List Wr)} {ts : List Addr}, SgAt H0 H es ts → SgAt H0 H' es ts
  | _, _, .nil => .nil
  | _, _, .cons ⟨p, a, qs, g1, g2, g3, g4, g5⟩ t => .cons ⟨p, a, qs, c.get g1 (by simp), c.get g2 (by simp), c.get g3 (by simp), g4.ch c, g5⟩ (sg_ch c t)
def SgNe (H : Hp) (ts : List Addr) (D : Addr) : Prop := ∀ t ∈ ts, ∀ p a : Addr, H t = some (.tup [.ref p, .ref a]) → a ≠ D
theorem sg_ne {H0 H H' : Hp} {D : Addr} (hD : H D = none) (c : Ch [] H H') : ∀ {es : List (Wr × List Wr)} {ts : List Addr}, SgAt H0 H es ts → SgNe H' ts D
  | _, _, .nil => fun t ht => by simp at ht
  | _, _, .cons ⟨p, a, qs, g1, g2, g3, g4, g5⟩ r => fun t ht p' a' h => by
    rcases List.mem_cons.mp ht with rfl | ht
    · have h2 := c.get g1 (by simp)
      rw [h] at h2
      injection h2 with h2
      injection h2 with h2
      injection h2 with _ h2
      injection h2 with h2
      injection h2 with h2
      rw [h2]
      exact ne_of_none g3 hD
    · exact sg_ne hD c r t ht p' a' h
theorem sg_snoc {H0 H : Hp} {e : Wr × List Wr} {t : Addr} (h : SgP H0 H e t) : ∀ {es : List (Wr × List Wr)} {ts : List Addr}, SgAt H0 H es ts → SgAt H0 H (es ++ [e]) (ts ++ [t])
  | _, _, .nil => .cons h .nil
  | _, _, .cons a t => .cons a (sg_snoc h t)
theorem src_lex {b : Bool} {i j : Nat} (h : i < j) : kLex (srcK (b, i)) (srcK (b, j)) := by
  unfold srcK kLex
  rw [if_pos rfl]
  unfold kLex
  rw [if_neg (by intro z; injection z with z; omega)]
  show (i : Int) < (j : Int)
  omega
theorem neBI : (Str.ofString "block") ≠ Str.ofString "in" := by decide +kernel
theorem keys_sorted (b : Bool) : ∀ n : Nat, ((List.range n).map fun j => srcK (b, j)).Pairwise kLex
  | 0 => .nil
  | n + 1 => by
    rw [List.range_succ, List.map_append, List.pairwise_append]
    refine ⟨keys_sorted b n, by simp, fun x hx y hy => ?_⟩
    obtain ⟨i, hi, rfl⟩ := List.mem_map.mp hx
    have : y = srcK (b, n) := by simpa using hy
    rw [this]
    exact src_lex (by simpa using hi)
def isB (b : Bool) (k : Wr) : Bool := decide (k.head? = some (.inr (if b then "block" else "in")))
theorem isB_src (b : Bool) (s : Src) : isB b (srcK s) = (s.1 == b) := by
  obtain ⟨c, n⟩ := s
  cases b <;> cases c
  · exact decide_eq_true rfl
  · exact decide_eq_false (p := some (Sum.inr (Str.ofString "block") : Key) = some (Sum.inr (Str.ofString "in"))) fun z => neBI (by injection z with z; injection z)
  · exact decide_eq_false (p := some (Sum.inr (Str.ofString "in") : Key) = some (Sum.inr (Str.ofString "block"))) fun z => neBI.symm (by injection z with z; injection z)
  · exact decide_eq_true rfl
theorem part_eq {ks : List Wr} {es : List (Wr × Wr)} {b : Bool} {n : Nat} (pw : ks.Pairwise kLex) (mem : ∀ x, x ∈ ks ↔ hasK es x = true) (src : ∀ e ∈ es, ∃ s : Src, e.1 = srcK s ∧ (s.1 = b → s.2 < n)) : ks.filter (isB b) = ((List.range n).map fun j => srcK (b, j)).filter (hasK es) := by
  refine sort_unique (pw.filter _) ((keys_sorted b n).filter _) fun x => ?_
  rw [List.mem_filter, List.mem_filter, mem]
  constructor
  · rintro ⟨h1, h2⟩
    refine ⟨?_, h1⟩
    obtain ⟨e, he, hd⟩ := List.any_eq_true.mp h1
    have hd : e.1 = x := by simpa using hd
    obtain ⟨s, e1, e2⟩ := src e he
    rw [← hd, e1, isB_src] at h2
    have h2 : s.1 = b := by simpa using h2
    rw [← hd, e1]
    exact List.mem_map.mpr ⟨s.2, by simpa using e2 h2, by rw [← h2]⟩
  · rintro ⟨h1, h2⟩
    refine ⟨h2, ?_⟩
    obtain ⟨j, _, rfl⟩ := List.mem_map.mp h1
    rw [isB_src]
    simp
theorem ord_eq {ks : List Wr} {es : List (Wr × Wr)} {ins many : Nat} (pw : ks.Pairwise kLex) (mem : ∀ x, x ∈ ks ↔ hasK es x = true) (src : ∀ e ∈ es, ∃ s : Src, e.1 = srcK s ∧ s.2 < lim ins many s) : ks.filter (isB false) ++ ks.filter (isB true) = (allK ins many).filter (hasK es) := by
  unfold allK
  rw [List.filter_append, part_eq (b := false) (n := ins) pw mem fun e he => ?_, part_eq (b := true) (n := many) pw mem fun e he => ?_]
  · obtain ⟨s, e1, e2⟩ := src e he
    exact ⟨s, e1, fun z => by unfold lim at e2; rw [z] at e2; exact e2⟩
  · obtain ⟨s, e1, e2⟩ := src e he
    exact ⟨s, e1, fun z => by unfold lim at e2; rw [z] at e2; exact e2⟩
theorem ends_src {ins : Nat} {bs : List Bk} {os : List Src} (ok : ∀ b ∈ bs, b.ok ins bs.length) (oo : ∀ s ∈ os, s.2 < lim ins bs.length s) : ∀ e ∈ endsB bs ++ endsO os, ∃ s : Src, e.1 = srcK s ∧ s.2 < lim ins bs.length s := by
  intro e he
  rcases List.mem_append.mp he with h | h
  · unfold endsB at h
    obtain ⟨⟨b, n⟩, hq, h2⟩ := List.mem_flatMap.mp h
    unfold endsAt at h2
    obtain ⟨⟨s, j⟩, hs, rfl⟩ := List.mem_map.mp h2
    exact ⟨s, rfl, (ok b (List.fst_mem_of_mem_zipIdx hq)).so s (List.fst_mem_of_mem_zipIdx hs)⟩
  · unfold endsO at h
    obtain ⟨⟨s, j⟩, hs, rfl⟩ := List.mem_map.mp h
    exact ⟨s, rfl, oo s (List.fst_mem_of_mem_zipIdx hs)⟩
theorem keys_in {ks : List Wr} {es : List (Wr × Wr)} {ins many : Nat} (nd : ks.Nodup) (mem : ∀ x, x ∈ ks ↔ hasK es x = true) (src : ∀ e ∈ es, ∃ s : Src, e.1 = srcK s ∧ s.2 < lim ins many s) : ks.length ≤ ins + many := by
  have := nodup_sub nd (m := allK ins many) fun x hx => by
    obtain ⟨e, he, hd⟩ := List.any_eq_true.mp ((mem x).mp hx)
    have hd : e.1 = x := by simpa using hd
    obtain ⟨s, e1, e2⟩ := src e he
    rw [← hd, e1]
    unfold allK
    obtain ⟨b, n⟩ := s
    cases b with
    | false => exact List.mem_append_left _ (List.mem_map.mpr ⟨n, by simpa [lim] using e2, rfl⟩)
    | true => exact List.mem_append_right _ (List.mem_map.mpr ⟨n, by simpa [lim] using e2, rfl⟩)
  unfold allK at this
  rw [List.length_append, List.length_map, List.length_map, List.length_range, List.length_range] at this
  exact this
structure KC (H : Hp) (ks : List Wr) (ys : List V) : Prop where
  ex : ∃ qs : List Addr, ys = qs.map V.ref ∧ WsAt H ks qs
theorem KC.len {H : Hp} {ks : List Wr} {ys : List V} (s : KC H ks ys) : ys.length = ks.length := by
  obtain ⟨qs, rfl, w⟩ := s.ex
  rw [List.length_map, Paired.length w]
theorem KC.ch {H H' : Hp} {ks : List Wr} {ys : List V} (s : KC H ks ys) (c : Ch [] H H') : KC H' ks ys := let ⟨qs, e, w⟩ := s.ex; ⟨qs, e, w.ch c⟩
theorem KC.snoc {H : Hp} {ks : List Wr} {ys : List V} {k : Wr} {p : Addr} (s : KC H ks ys) (h : H p = some (.tup (k.map kV))) : KC H (ks ++ [k]) (ys ++ [.ref p]) := by
  obtain ⟨qs, rfl, w⟩ := s.ex
  exact ⟨qs ++ [p], by simp, w.snoc h⟩
theorem KC.app {H : Hp} {ks ks' : List Wr} {ys ys' : List V} (s : KC H ks ys) (t : KC H ks' ys') : KC H (ks ++ ks') (ys ++ ys') := by
  obtain ⟨qs, rfl, w⟩ := s.ex
  obtain ⟨qs', rfl, w'⟩ := t.ex
  refine ⟨qs ++ qs', by simp, ?_⟩
  clear s t
  induction w with
  | nil => exact w'
  | cons a _ ih => exact .cons a ih
theorem KC.get {H : Hp} {ks : List Wr} {ys : List V} (s : KC H ks ys) {i : Nat} {x : V} (h : ys[i]? = some x) : ∃ p k, x = .ref p ∧ ks[i]? = some k ∧ H p = some (.tup (k.map kV)) := by
  obtain ⟨qs, rfl, w⟩ := s.ex
  exact ws_get w i x h
theorem BE.at_ {H0 H : Hp} {bd : Addr} {es : List (Wr × Wr)} (s : BE H0 H bd es) {k : Wr} (h : hasK es k = true) : ∃ (kvs : List (List Key × V)) (a : Addr) (qs : List Addr), H bd = some (.dT kvs) ∧ valV kvs k = some (.ref a) ∧ H0 a = none ∧ H a = some (.lst (qs.map V.ref)) ∧ WsAt H (sinksOf es k) qs := by
  obtain ⟨kvs, g, ad, _⟩ := s.b.ex
  have a1 := adj_keys ad.pr k
  rw [any_all es [] k] at a1
  have a2 : (kvs.any fun kv => decide (kv.1 = k)) = true := a1.trans h
  rw [valV_any] at a2
  obtain ⟨v, hv⟩ := Option.isSome_iff_exists.mp a2
  obtain ⟨a, qs, rfl, h0, ha, hw, _⟩ := adj_there ad.pr hv
  rw [nbr_all] at hw
  exact ⟨kvs, a, qs, g, hv, h0, ha, hw⟩
structure SC (H0 H6 H' : Hp) (es : List (Wr × List Wr)) (ys : List V) : Prop where
  ch : Ch [] H6 H'
  ex : ∃ ts : List Addr, ys = ts.map V.ref ∧ SgAt H0 H' es ts
theorem filt_take {ks : List Wr} {i : Nat} {k : Wr} (b : Bool) (h : ks[i]? = some k) : (ks.take (i + 1)).filter (isB b) = (ks.take i).filter (isB b) ++ if isB b k then [k] else [] := by
  rw [List.take_add_one, h, List.filter_append]
  congr 1
  show [k].filter (isB b) = _
  rw [List.filter_cons]
  rfl
section
variable {P : Program} {w : World} {K : PySem.W.Frag} {mg : Str → Option Value} {base : Heap} {f : Addr} {fd : FuncData} {k : Nat}
theorem bo_sorted : bootBuiltins "sorted" = some (.builtin "sorted") := by decide +kernel
theorem nn_sorted : ("sorted" : Str) ≠ "__name__" := by decide +kernel
theorem gd_sorted : Nd "sorted" := by decide +kernel
theorem l9_1 : Lc (defScope (top 9)) "sinks" := by decide +kernel
theorem g9_enumerate : Gi (defScope (top 9)) "enumerate" := by decide +kernel
theorem v9_0 : Vs (defScope (top 9)) "pack" := by decide +kernel
theorem d9_0 : Nd "pack" := by decide +kernel
theorem c9_0 : Nc "pack" := by decide +kernel
theorem l9_3 : Lc (defScope (top 9)) "block" := by decide +kernel
theorem l9_2 : Lc (defScope (top 9)) "number" := by decide +kernel
theorem v9_3 : Vs (defScope (top 9)) "block" := by decide +kernel
theorem d9_3 : Nd "block" := by decide +kernel
theorem c9_3 : Nc "block" := by decide +kernel
theorem l9_5 : Lc (defScope (top 9)) "source" := by decide +kernel
theorem l9_4 : Lc (defScope (top 9)) "place" := by decide +kernel
theorem v9_1 : Vs (defScope (top 9)) "sinks" := by decide +kernel
theorem d9_1 : Nd "sinks" := by decide +kernel
theorem c9_1 : Nc "sinks" := by decide +kernel
theorem v9_5 : Vs (defScope (top 9)) "source" := by decide +kernel
theorem d9_5 : Nd "source" := by decide +kernel
theorem c9_5 : Nc "source" := by decide +kernel
theorem v9_4 : Vs (defScope (top 9)) "place" := by decide +kernel
theorem d9_4 : Nd "place" := by decide +kernel
theorem c9_4 : Nc "place" := by decide +kernel
theorem v9_2 : Vs (defScope (top 9)) "number" := by decide +kernel
theorem d9_2 : Nd "number" := by decide +kernel
theorem c9_2 : Nc "number" := by decide +kernel
theorem l9_6 : Lc (defScope (top 9)) "rising" := by decide +kernel
theorem g9_sorted : Gi (defScope (top 9)) "sorted" := by decide +kernel
theorem l9_7 : Lc (defScope (top 9)) "ordered" := by decide +kernel
theorem v9_6 : Vs (defScope (top 9)) "rising" := by decide +kernel
theorem d9_6 : Nd "rising" := by decide +kernel
theorem c9_6 : Nc "rising" := by decide +kernel
def csc9_0 : Scope := { kind := PySem.ScopeKind.function, names := [(PySem.Str.ofString ".0", PySem.NameKind.local), (PySem.Str.ofString "source", PySem.NameKind.local)], isGenerator := false, isCoroutine := false, more := [] : PySem.Scope }
theorem cok9_0 : CompOk csc9_0 (defScope (top 9)) (["source"] : List Str) (["pack", "sinks", "number", "block", "place", "source", "rising", "ordered"] : List Str) [] (["source"] : List Str) := compOk rfl (by decide +kernel) (by decide +kernel) (by decide +kernel) (by decide +kernel) rfl (by decide +kernel)
theorem kq9_0_0 : (relab csc9_0 (defScope (top 9))).names.lookup (Str.ofString "source") = some NameKind.local := by decide +kernel
theorem vq9_0_0 : Vs (relab csc9_0 (defScope (top 9))) "source" := by decide +kernel
theorem dq9_0_0 : Nd "source" := by decide +kernel
theorem cq9_0_0 : Nc "source" := by decide +kernel
def csc9_1 : Scope := { kind := PySem.ScopeKind.function, names := [(PySem.Str.ofString ".0", PySem.NameKind.local), (PySem.Str.ofString "source", PySem.NameKind.local)], isGenerator := false, isCoroutine := false, more := [] : PySem.Scope }
theorem cok9_1 : CompOk csc9_1 (defScope (top 9)) (["source"] : List Str) (["pack", "sinks", "number", "block", "place", "source", "rising", "ordered"] : List Str) [] (["source"] : List Str) := compOk rfl (by decide +kernel) (by decide +kernel) (by decide +kernel) (by decide +kernel) rfl (by decide +kernel)
theorem kq9_1_0 : (relab csc9_1 (defScope (top 9))).names.lookup (Str.ofString "source") = some NameKind.local := by decide +kernel
theorem vq9_1_0 : Vs (relab csc9_1 (defScope (top 9))) "source" := by decide +kernel
theorem dq9_1_0 : Nd "source" := by decide +kernel
theorem cq9_1_0 : Nc "source" := by decide +kernel
theorem v9_7 : Vs (defScope (top 9)) "ordered" := by decide +kernel
theorem d9_7 : Nd "ordered" := by decide +kernel
theorem c9_7 : Nc "ordered" := by decide +kernel
def csc9_2 : Scope := { kind := PySem.ScopeKind.function, names := [ (PySem.Str.ofString ".0", PySem.NameKind.local), (PySem.Str.ofString "source", PySem.NameKind.local), (PySem.Str.ofString "sinks", PySem.NameKind.free)], isGenerator := false, isCoroutine := false, more := [] : PySem.Scope }
theorem cok9_2 : CompOk csc9_2 (defScope (top 9)) (["source"] : List Str) (["pack", "sinks", "number", "block", "place", "source", "rising", "ordered"] : List Str) [1] (["source", "sinks"] : List Str) := compOk rfl (by decide +kernel) (by decide +kernel) (by decide +kernel) (by decide +kernel) rfl (by decide +kernel)
theorem kq9_2_0 : (relab csc9_2 (defScope (top 9))).names.lookup (Str.ofString "source") = some NameKind.local := by decide +kernel
theorem vq9_2_1 : Vs (relab csc9_2 (defScope (top 9))) "sinks" := by decide +kernel
theorem dq9_2_1 : Nd "sinks" := by decide +kernel
theorem cq9_2_1 : Nc "sinks" := by decide +kernel
theorem vq9_2_0 : Vs (relab csc9_2 (defScope (top 9))) "source" := by decide +kernel
theorem dq9_2_0 : Nd "source" := by decide +kernel
theorem cq9_2_0 : Nc "source" := by decide +kernel
def spSig (C : Addr) : Sp := fun vs H Q _ => ∃ (x tb to : Addr) (ins : Nat) (bs : List Bk) (ps : List Addr) (os : List Src) (ops : List Addr), vs = [.ref x] ∧ PackAt C H x ins tb to bs ps os ops ∧ (∀ b ∈ bs, b.ok ins bs.length) ∧ (∀ s ∈ os, s.2 < lim ins bs.length s) ∧ bs.length ≤ 20 ∧ ins ≤ 20 ∧ os.length ≤ 20 ∧
  ∀ D ts H', Ch [] H H' → H D = none → H' D = some (.lst (ts.map V.ref)) → SgAt H H' (sigOf (endsB bs ++ endsO os) ins bs.length) ts → SgNe H' ts D → Q (.ref D) H'
theorem scSig : FnScope ["pack", "sinks", "number", "block", "place", "source", "rising", "ordered"] ["pack"] (defScope (top 9)) := ⟨rfl, rfl, rfl, by decide +kernel, rfl, by decide +kernel, by decide +kernel⟩
theorem ok_sig {C : Addr} (F : Fun K "signals_of" "signals_of" (top 9) f fd) (cl : Cls K C) (nB : NoAttr K C "blocks") (nO : NoAttr K C "outs") (z_enumerate : mg "enumerate" = none) (z_sorted : mg "sorted" = none) : FnOk P w K mg base CX0 (k + 1) f fd ["pack"] (spSig C) := by
  have nd := scSig.nd
  refine F.ok scSig (fun vs H Q E h => by obtain ⟨x, tb, to, ins, bs, ps, os, ops, rfl, _⟩ := h; rfl) (fun cdv A outer s H vs Q E hr h => ?_)
  obtain ⟨x, tb, to, ins, bs, ps, os, ops, rfl, ⟨⟨dx, hx⟩, htb, bt, hto, ow⟩, ok, oo, hl, hi, ho, q⟩ := h
  have hu := hu_of hr
  have lp := Paired.length bt
  have lo := Paired.length ow
  rw [List.length_map] at lo
  refine ⟨_, (Pr.h (qpss_cons (qps_set (i := 1) nd rfl l9_1 qpe_dnewT)
 (qpss_cons (qps_loop PassesOwn.never rfl (qpi_enum .tuple g9_enumerate z_enumerate (qpa_cons (qpe_fld (qpe_var (i := 0) rfl v9_0 d9_0 c9_0) rfl) qpa_nil se_Attribute)) (qpg_tup rfl (qpgs_cons (qpg_name (i := 2) nd rfl l9_2) (qpgs_cons (qpg_name (i := 3) nd rfl l9_3) qpgs_nil)))
  (qpss_one (qps_loop PassesOwn.never rfl (qpi_enum .tuple g9_enumerate z_enumerate (qpa_cons (qpe_ix ixa_tup (qpe_var (i := 3) rfl v9_3 d9_3 c9_3) qpe_int (fun _ _ => rfl)) qpa_nil se_Subscript)) (qpg_tup rfl (qpgs_cons (qpg_name (i := 4) nd rfl l9_4) (qpgs_cons (qpg_name (i := 5) nd rfl l9_5) qpgs_nil)))
  (qpss_one (qps_expr (qpe_bm PySem.F.plainAttrs_list PySem.F.slot_list_append PySem.F.type_list_append mt_append (qpe_dsetd hu (qpe_var (i := 1) rfl v9_1 d9_1 c9_1) (qpe_var (i := 5) rfl v9_5 d9_5 c9_5) (qpe_lst qpa_nil) ⟨rfl, rfl, rfl, rfl⟩) (qpa_cons (qpe_tup (qpa_cons qpe_str (qpa_cons (qpe_var (i := 2) rfl v9_2 d9_2 c9_2) (qpa_cons (qpe_var (i := 4) rfl v9_4 d9_4 c9_4) qpa_nil se_Name) se_Name) se_Constant)) qpa_nil se_Tuple)))))))
 (qpss_cons (qps_loop PassesOwn.never rfl (qpi_enum .tuple g9_enumerate z_enumerate (qpa_cons (qpe_fld (qpe_var (i := 0) rfl v9_0 d9_0 c9_0) rfl) qpa_nil se_Attribute)) (qpg_tup rfl (qpgs_cons (qpg_name (i := 2) nd rfl l9_2) (qpgs_cons (qpg_name (i := 5) nd rfl l9_5) qpgs_nil)))
  (qpss_one (qps_expr (qpe_bm PySem.F.plainAttrs_list PySem.F.slot_list_append PySem.F.type_list_append mt_append (qpe_dsetd hu (qpe_var (i := 1) rfl v9_1 d9_1 c9_1) (qpe_var (i := 5) rfl v9_5 d9_5 c9_5) (qpe_lst qpa_nil) ⟨rfl, rfl, rfl, rfl⟩) (qpa_cons (qpe_tup (qpa_cons qpe_str (qpa_cons (qpe_var (i := 2) rfl v9_2 d9_2 c9_2) qpa_nil se_Name) se_Constant)) qpa_nil se_Tuple)))))
 (qpss_cons (qps_set (i := 6) nd rfl l9_6 (qpe_callB (call_sortedT rfl) g9_sorted z_sorted bo_sorted (qpa_cons (qpe_var (i := 1) rfl v9_1 d9_1 c9_1) qpa_nil se_Name) nn_sorted gd_sorted))
 (qpss_cons (qps_set (i := 7) nd rfl l9_7 (qpe_op op_cat (qpe_comp rfl cok9_0 (qpi_list (qpe_var (i := 6) rfl v9_6 d9_6 c9_6)) (fun _ _ _ _ _ => (qpg_name (i := 0) cok9_0.nd rfl (Or.inl kq9_0_0) (Or.inr kq9_0_0))) (fun _ _ _ _ _ => (qpif_one (qpt_cmpR op_eq (qpe_ix (ixaK_tup K rfl) (qpe_var (i := 0) rfl vq9_0_0 dq9_0_0 cq9_0_0) qpe_int (fun _ _ => rfl)) qpe_str (nomark _)))) (fun _ _ _ _ _ => (qpe_var (i := 0) rfl vq9_0_0 dq9_0_0 cq9_0_0))) (qpe_comp rfl cok9_1 (qpi_list (qpe_var (i := 6) rfl v9_6 d9_6 c9_6)) (fun _ _ _ _ _ => (qpg_name (i := 0) cok9_1.nd rfl (Or.inl kq9_1_0) (Or.inr kq9_1_0))) (fun _ _ _ _ _ => (qpif_one (qpt_cmpR op_eq (qpe_ix (ixaK_tup K rfl) (qpe_var (i := 0) rfl vq9_1_0 dq9_1_0 cq9_1_0) qpe_int (fun _ _ => rfl)) qpe_str (nomark _)))) (fun _ _ _ _ _ => (qpe_var (i := 0) rfl vq9_1_0 dq9_1_0 cq9_1_0)))))
 (qpss_one (qps_ret (qpe_comp rfl cok9_2 (qpi_list (qpe_var (i := 7) rfl v9_7 d9_7 c9_7)) (fun _ _ _ _ _ => (qpg_name (i := 0) cok9_2.nd rfl (Or.inl kq9_2_0) (Or.inr kq9_2_0))) (fun _ _ _ _ _ => qpif_nil) (fun _ _ _ _ _ => (qpe_tup (qpa_cons (qpe_var (i := 0) rfl vq9_2_0 dq9_2_0 cq9_2_0) (qpa_cons (qpe_dgetT hu (qpe_var (i := 1) rfl vq9_2_1 dq9_2_1 cq9_2_1) (qpe_var (i := 0) rfl vq9_2_0 dq9_2_0 cq9_2_0) (fun _ _ => rfl)) qpa_nil se_Subscript) se_Name)))))))))))), ?_⟩
  (try dsimp only [cxOf])
  have fb := fldsP_blocks ins tb to
  have fo := fldsP_outs ins tb to
  walk_at "rd"
  rename_i bd hbd
  have s4 : ∀ b ∈ bs, b.ss.length ≤ 4 := fun b hb => (ok b hb).s4
  refine loop_enum (xs := ps.map V.ref) (fun i σ H' => ∃ u2 u3 u4 u5, σ = [some (.ref x), some (.ref bd), u2, u3, u4, u5, none, none] ∧ BE H H' bd (endsB (bs.take i))) ⟨_, _, _, _, rfl, ⟨Ch.new hbd _, hbd, [], upd_same, ⟨.nil, by simp, by simp⟩, by simp⟩⟩ ?_ ?_ ?_
  · rintro i σ H' hi ⟨_, _, _, _, rfl, b⟩
    exact SqT.of (b.b.ch.get htb (by simp))
  · rintro i z σ H' T hz ⟨u2, u3, u4, u5, rfl, be⟩ hT
    have hib : i < bs.length := by have := (List.getElem?_eq_some_iff.mp hz).1; rw [List.length_map] at this; omega
    obtain ⟨p, b, e1, e2, ⟨hp, sps, hs, ws⟩⟩ := bs_get bt i hib
    rw [e1] at hz
    cases hz
    have lsp := Paired.length ws
    rw [List.length_map] at lsp
    have b4 := s4 b (List.mem_of_getElem? e2)
    have bl := endsB_len (bs := bs.take i) fun b hb => s4 b (List.mem_of_mem_take hb)
    rw [List.length_take] at bl
    rw [endsB_take e2]
    have be1 := be.ch (Ch.new (o := .tup [.int i, .ref p]) hT)
    have hp1 : (upd H' T (.tup [.int i, .ref p])) p = some (.tup [.ref b.sp, .int b.bits, .int b.kept, .int b.first]) := be1.b.ch.get hp (by simp)
    have hs1 : (upd H' T (.tup [.int i, .ref p])) b.sp = some (.tup (sps.map V.ref)) := be1.b.ch.get hs (by simp)
    generalize endsB (bs.take i) = es at be be1 bl ⊢
    walk_at "rd"
    refine loop_enum (xs := sps.map V.ref) (fun j σ H' => ∃ u4 u5, σ = [some (.ref x), some (.ref bd), some (.int (i : Int)), some (.ref p), u4, u5, none, none] ∧ BE H H' bd (es ++ endsAt i (b.ss.take j))) ⟨_, _, rfl, by rw [List.take_zero]; simpa [endsAt] using be1⟩ ?_ ?_ ?_
    · rintro j σ H2 hj ⟨_, _, rfl, b2⟩
      exact SqT.of (b2.b.ch.get hs (by simp))
    · rintro j z σ H2 T2 hz ⟨u4, u5, rfl, b2⟩ hT2
      obtain ⟨pl, kx, rfl, g1, g2⟩ := ws_get ws j z hz
      rw [List.getElem?_map] at g1
      obtain ⟨sr, es', rfl⟩ := Option.map_eq_some_iff.mp g1
      rw [endsAt_take es', ← List.append_assoc]
      have bl2 : (es ++ endsAt i (b.ss.take j)).length ≤ 200 := by rw [List.length_append, endsAt_len, List.length_take]; omega
      generalize es ++ endsAt i (b.ss.take j) = eq at b2 bl2 ⊢
      have b3 := b2.ch (Ch.new (o := .tup [.int j, .ref pl]) hT2)
      have g3 : (upd H2 T2 (.tup [.int j, .ref pl])) pl = some (.tup ((srcK sr).map kV)) := b3.b.ch.get g2 (by simp)
      obtain ⟨kvs, hbd3, ad, hkl⟩ := b3.b.ex
      have hkz : kvs.length < sizeLine := by rw [sizeLine_eq]; omega
      have gT : (upd H2 T2 (.tup [.int j, .ref pl])) T2 = some (.tup [.int j, .ref pl]) := upd_same
      generalize upd H2 T2 (.tup [.int j, .ref pl]) = H3 at b3 g3 hbd3 ad gT ⊢
      have isd3 : IsD H3 bd := isD_t hbd3
      clear be be1 hp1 hs1 hp hs
      walk_at "rd"
      rename_i l0 hl0
      refine ⟨fun v' ev => ?_, fun en => ?_⟩
      · obtain ⟨a, ps', rfl, h0a, ha, hws', hmem, hy⟩ := adj_there ad.pr ev
        have ha3 : (upd H3 l0 (.lst [])) a = some (.lst (ps'.map V.ref)) := g_new hl0 ha
        have lps : (ps'.map V.ref).length < sizeLine := by
          have z1 := Paired.length hws'
          have z2 := be_len (es := eq) (srcK sr)
          rw [sizeLine_eq, List.length_map]; omega
        walk_at "rd"
        rename_i w hw
        exact BE.snoc (bs_app_old (x := sinkB i j) b3.b.ch b3.b.fr hbd3 ad hkl ev h0a ha hy hl0 hw)
      · have nlb : l0 ≠ bd := (ne_of_none hbd3 hl0).symm
        obtain ⟨H4, e4⟩ : ∃ H4, upd (upd H3 l0 (.lst [])) bd (.dT (putK kvs (srcK sr) (.ref l0))) = H4 := ⟨_, rfl⟩
        have k4 : H4 l0 = some (.lst []) := by rw [← e4, upd_ne nlb]; exact upd_same
        have l00 : ([] : List V).length < sizeLine := by rw [sizeLine_eq]; decide
        rw [e4]
        walk_at "rd"
        rename_i w hw
        rw [← e4] at hw ⊢
        exact BE.snoc (bs_app_new (x := sinkB i j) b3.b.ch b3.b.fr hbd3 ad hkl en hl0 hw)
    · rintro σ H2 ⟨u4, u5, rfl, b2⟩
      rw [List.length_map, ← lsp, List.take_length] at b2
      exact ⟨_, _, _, _, rfl, b2⟩
  · rintro σ H1 ⟨u2, u3, u4, u5, rfl, be⟩
    rw [List.length_map, ← lp, List.take_length] at be
    have bl := endsB_len s4
    have src := ends_src ok oo
    generalize endsB bs = es at be bl src q
    have hx1 : H1 x = some (.ins C dx (fldsP ins tb to)) := be.b.ch.get hx (by simp)
    have hto1 : H1 to = some (.tup (ops.map V.ref)) := be.b.ch.get hto (by simp)
    walk_at "rd"
    refine loop_enum (xs := ops.map V.ref) (fun j σ H' => ∃ u2 u5, σ = [some (.ref x), some (.ref bd), u2, u3, u4, u5, none, none] ∧ BE H H' bd (es ++ endsO (os.take j))) ⟨_, _, rfl, by rw [List.take_zero]; simpa [endsO] using be⟩ ?_ ?_ ?_
    · rintro j σ H2 hj ⟨_, _, rfl, b2⟩
      exact SqT.of (b2.b.ch.get hto (by simp))
    · rintro j z σ H2 T2 hz ⟨u2, u5, rfl, b2⟩ hT2
      obtain ⟨pl, kx, rfl, g1, g2⟩ := ws_get ow j z hz
      rw [List.getElem?_map] at g1
      obtain ⟨sr, es', rfl⟩ := Option.map_eq_some_iff.mp g1
      rw [endsO_take es', ← List.append_assoc]
      have bl2 : (es ++ endsO (os.take j)).length ≤ 200 := by rw [List.length_append, endsO_len, List.length_take]; omega
      generalize es ++ endsO (os.take j) = eq at b2 bl2 ⊢
      have b3 := b2.ch (Ch.new (o := .tup [.int j, .ref pl]) hT2)
      have g3 : (upd H2 T2 (.tup [.int j, .ref pl])) pl = some (.tup ((srcK sr).map kV)) := b3.b.ch.get g2 (by simp)
      obtain ⟨kvs, hbd3, ad, hkl⟩ := b3.b.ex
      have hkz : kvs.length < sizeLine := by rw [sizeLine_eq]; omega
      have gT : (upd H2 T2 (.tup [.int j, .ref pl])) T2 = some (.tup [.int j, .ref pl]) := upd_same
      generalize upd H2 T2 (.tup [.int j, .ref pl]) = H3 at b3 g3 hbd3 ad gT ⊢
      have isd3 : IsD H3 bd := isD_t hbd3
      clear be hx1 hto1
      walk_at "rd"
      rename_i l0 hl0
      refine ⟨fun v' ev => ?_, fun en => ?_⟩
      · obtain ⟨a, ps', rfl, h0a, ha, hws', hmem, hy⟩ := adj_there ad.pr ev
        have ha3 : (upd H3 l0 (.lst [])) a = some (.lst (ps'.map V.ref)) := g_new hl0 ha
        have lps : (ps'.map V.ref).length < sizeLine := by
          have z1 := Paired.length hws'
          have z2 := be_len (es := eq) (srcK sr)
          rw [sizeLine_eq, List.length_map]; omega
        walk_at "rd"
        rename_i w hw
        exact BE.snoc (bs_app_old (x := sinkO j) b3.b.ch b3.b.fr hbd3 ad hkl ev h0a ha hy hl0 hw)
      · have nlb : l0 ≠ bd := (ne_of_none hbd3 hl0).symm
        obtain ⟨H4, e4⟩ : ∃ H4, upd (upd H3 l0 (.lst [])) bd (.dT (putK kvs (srcK sr) (.ref l0))) = H4 := ⟨_, rfl⟩
        have k4 : H4 l0 = some (.lst []) := by rw [← e4, upd_ne nlb]; exact upd_same
        have l00 : ([] : List V).length < sizeLine := by rw [sizeLine_eq]; decide
        rw [e4]
        walk_at "rd"
        rename_i w hw
        rw [← e4] at hw ⊢
        exact BE.snoc (bs_app_new (x := sinkO j) b3.b.ch b3.b.fr hbd3 ad hkl en hl0 hw)
    rintro σ H2 ⟨u2', u5', rfl, b2⟩
    rw [List.length_map, ← lo, List.take_length] at b2
    generalize es ++ endsO os = ee at b2 q src
    obtain ⟨kvs, hbd2, ad, hkl⟩ := b2.b.ex
    have mk : ∀ y, y ∈ kvs.map (·.1) ↔ hasK ee y = true := fun y => by
      have a1 := adj_keys ad.pr y
      have a2 := any_all ee [] y
      rw [a2] at a1
      unfold hasK
      rw [show ((List.any [] fun p : Wr × List Wr => decide (p.1 = y)) || ee.any fun e => decide (e.1 = y)) = ee.any fun e => decide (e.1 = y) from rfl] at a1
      rw [← a1, List.any_eq_true, List.mem_map]
      constructor
      · rintro ⟨p, hp, rfl⟩; exact ⟨p, hp, by simp⟩
      · rintro ⟨p, hp, e⟩; exact ⟨p, hp, by simpa using e⟩
    have kin := keys_in ad.nk mk src
    rw [List.length_map] at kin
    have shp : ∀ p ∈ kvs, p.1.map Sum.isLeft = false :: [true] := fun p hp => by
      obtain ⟨e, he, hd⟩ := List.any_eq_true.mp ((mk p.1).mp (List.mem_map.mpr ⟨p, hp, rfl⟩))
      have hd : e.1 = p.1 := by simpa using hd
      obtain ⟨sr, e1, _⟩ := src e he
      rw [← hd, e1]; rfl
    clear be hx1 hto1
    walk_at "rd"
    rename_i ri ks rps hri pm pw pr
    have cR : Ch [] H2 (upd H2 ri (.lst (rps.map V.ref))) := Ch.new hri _
    have b3 := b2.ch cR
    have pr3 : WsAt (upd H2 ri (.lst (rps.map V.ref))) ks rps := WsAt.ch (H := H2) pr cR
    have gr3 : (upd H2 ri (.lst (rps.map V.ref))) ri = some (.lst (rps.map V.ref)) := upd_same
    have mks : ∀ y, y ∈ ks ↔ hasK ee y = true := fun y => by rw [pm.mem_iff]; exact mk y
    have lks : ks.length ≤ 64 := by have := pm.length_eq; rw [List.length_map] at this; omega
    have oeq := ord_eq pw mks src
    have ksrc : ∀ y ∈ ks, ∃ s : Src, y = srcK s := fun y hy => by
      obtain ⟨e, he, hd⟩ := List.any_eq_true.mp ((mks y).mp hy)
      have hd : e.1 = y := by simpa using hd
      obtain ⟨s, e1, _⟩ := src e he
      exact ⟨s, by rw [← hd, e1]⟩
    generalize upd H2 ri (.lst (rps.map V.ref)) = H3 at b3 pr3 gr3 ⊢
    have lrp := Paired.length pr3
    refine comp_list (rps.map V.ref) (fun i ys σ H' => H' = H3 ∧ KC H3 ((ks.take i).filter (isB false)) ys ∧ ∃ u, σ = [u]) (by rw [sizeLine_eq, List.length_map]; omega) ⟨rfl, ⟨[], rfl, .nil⟩, _, rfl⟩ ?_ ?_ ?_
    · rintro i ys σ H' hi ⟨rfl, kc, _⟩
      refine ⟨?_, SqL.of gr3⟩
      rw [kc.len]
      exact Nat.le_trans (List.length_filter_le _ _) (by rw [List.length_take]; omega)
    · rintro i ys σ H' z hz ⟨rfl, kc, u, rfl⟩
      obtain ⟨pl, kx, rfl, g1, g2⟩ := ws_get pr3 i z hz
      obtain ⟨⟨sb, sn⟩, rfl⟩ := ksrc kx (List.mem_of_getElem? g1)
      rw [filt_take false g1, isB_src]
      cases sb with
      | false =>
        have g3 : H' pl = some (.tup [.str "in", .int (sn : Int)]) := g2
        walk_at "rd"
        exact ⟨kc.snoc g2, _, rfl⟩
      | true =>
        have g3 : H' pl = some (.tup [.str "block", .int (sn : Int)]) := g2
        walk_at "rd"
        exact ⟨by rw [if_neg (show ¬ ((true == false) = true) by decide), List.append_nil]; exact kc, _, rfl⟩
    rintro ys1 σ H' ⟨rfl, kc1, _⟩
    rw [List.length_map, ← lrp, List.take_length] at kc1
    intro D1 hD1
    have cD : Ch [] H' (upd H' D1 (.lst ys1)) := Ch.new hD1 _
    have b4 := b3.ch cD
    have pr4 := pr3.ch cD
    have gr4 := cD.get gr3 (by simp)
    have kc4 := kc1.ch cD
    have gD4 : (upd H' D1 (.lst ys1)) D1 = some (.lst ys1) := upd_same
    generalize upd H' D1 (.lst ys1) = H4 at b4 pr4 gr4 kc4 gD4 ⊢
    clear b3 pr3 gr3 kc1 cD hD1
    walk_at "rd"
    refine comp_list (rps.map V.ref) (fun i ys σ H' => H' = H4 ∧ KC H4 ((ks.take i).filter (isB true)) ys ∧ ∃ u, σ = [u]) (by rw [sizeLine_eq, List.length_map]; omega) ⟨rfl, ⟨[], rfl, .nil⟩, _, rfl⟩ ?_ ?_ ?_
    · rintro i ys σ H' hi ⟨rfl, kc, _⟩
      refine ⟨?_, SqL.of gr4⟩
      rw [kc.len]
      exact Nat.le_trans (List.length_filter_le _ _) (by rw [List.length_take]; omega)
    · rintro i ys σ H' z hz ⟨rfl, kc, u, rfl⟩
      obtain ⟨pl, kx, rfl, g1, g2⟩ := ws_get pr4 i z hz
      obtain ⟨⟨sb, sn⟩, rfl⟩ := ksrc kx (List.mem_of_getElem? g1)
      rw [filt_take true g1, isB_src]
      cases sb with
      | false =>
        have g3 : H' pl = some (.tup [.str "in", .int (sn : Int)]) := g2
        walk_at "rd"
        exact ⟨by rw [if_neg (show ¬ ((false == true) = true) by decide), List.append_nil]; exact kc, _, rfl⟩
      | true =>
        have g3 : H' pl = some (.tup [.str "block", .int (sn : Int)]) := g2
        walk_at "rd"
        exact ⟨kc.snoc g2, _, rfl⟩
    rintro ys2 σ H' ⟨rfl, kc2, _⟩
    rw [List.length_map, ← lrp, List.take_length] at kc2
    intro D2 hD2
    have cD : Ch [] H' (upd H' D2 (.lst ys2)) := Ch.new hD2 _
    have b5 := b4.ch cD
    have kc5 := kc4.ch cD
    have kd5 := kc2.ch cD
    have gD5 := cD.get gD4 (by simp)
    have gE5 : (upd H' D2 (.lst ys2)) D2 = some (.lst ys2) := upd_same
    generalize upd H' D2 (.lst ys2) = H5 at b5 kc5 kd5 gD5 gE5 ⊢
    clear b4 pr4 gr4 kc4 gD4 kc2 cD hD2
    have l1 := kc5.len
    have l2 := kd5.len
    have l3 := List.length_filter_le (isB false) ks
    have l4 := List.length_filter_le (isB true) ks
    walk_at "rd"
    rename_i od hod
    have cD : Ch [] H5 (upd H5 od (.lst (ys1 ++ ys2))) := Ch.new hod _
    have b6 := b5.ch cD
    have kc6 := (kc5.app kd5).ch cD
    rw [oeq] at kc6
    have gO6 : (upd H5 od (.lst (ys1 ++ ys2))) od = some (.lst (ys1 ++ ys2)) := upd_same
    have c06 := b6.b.ch
    generalize upd H5 od (.lst (ys1 ++ ys2)) = H6 at b6 kc6 gO6 c06 ⊢
    have l6 := kc6.len
    have hho : ∀ k ∈ (allK ins bs.length).filter (hasK ee), hasK ee k = true := fun k hk => (List.mem_filter.mp hk).2
    unfold sigOf at q
    generalize (allK ins bs.length).filter (hasK ee) = ok2 at kc6 l6 q hho
    have l5 : (ys1 ++ ys2).length ≤ 200 := by rw [List.length_append]; omega
    refine comp_list (ys1 ++ ys2) (fun i ys σ H' => SC H H6 H' ((ok2.take i).map fun k => (k, sinksOf ee k)) ys ∧ ∃ u, σ = [u, some (.ref bd)]) (by rw [sizeLine_eq]; omega) ⟨⟨Ch.refl _ _, [], rfl, .nil⟩, _, rfl⟩ ?_ ?_ ?_
    · rintro i ys σ H' hi ⟨⟨c, ts, rfl, sg⟩, _⟩
      refine ⟨?_, SqL.of (c.get gO6 (by simp))⟩
      rw [List.length_map, ← Paired.length sg, List.length_map, List.length_take]
      omega
    · rintro i ys σ H' z hz ⟨⟨c, ts, rfl, sg⟩, u, rfl⟩
      obtain ⟨p, k, rfl, g1, g2⟩ := kc6.get hz
      have g3 : H' p = some (.tup (k.map kV)) := c.get g2 (by simp)
      obtain ⟨kvs', a, qs, hb', hv', h0a, ha, hws⟩ := (b6.ch c).at_ (hho k (List.mem_of_getElem? g1))
      walk_at "rd"
      rename_i T hT
      have cT : Ch [] H' (upd H' T (.tup [.ref p, .ref a])) := Ch.new hT _
      refine ⟨⟨c.trans cT, ts ++ [T], by simp, ?_⟩, _, rfl⟩
      rw [List.take_add_one, g1, List.map_append]
      exact sg_snoc ⟨p, a, qs, upd_same, cT.get g3 (by simp), cT.get ha (by simp), hws.ch cT, h0a⟩ (sg_ch cT sg)
    · rintro ys σ H' ⟨⟨c, ts, rfl, sg⟩, _⟩
      rw [l6, List.take_length] at sg
      intro D hD
      have cT : Ch [] H' (upd H' D (.lst (ts.map V.ref))) := Ch.new hD _
      exact q D ts _ ((c06.trans c).trans cT) (chFree (c06.trans c) hD) upd_same (sg_ch cT sg) (sg_ne hD cT sg)
end
end

section
def spNext (K : PySem.W.Frag) : Sp := fun vs H Q _ => ∃ (a b : Addr) (ns : List Int) (c : Int), vs = [.ref a, .ref b] ∧ Scr K H a ns ∧ H b = some (.lst [.int c]) ∧ 0 ≤ c ∧ c < 2 ^ 60 ∧
  ∀ (n : Int) (H' : Hp), 0 ≤ n → n < 2147483629 → Ch [b] H H' → H' b = some (.lst [.int (c + 1)]) → Q (.int n) H'
section
variable {P : Program} {w : World} {K : PySem.W.Frag} {mg : Str → Option Value} {base : Heap} {f : Addr} {fd : FuncData} {k : Nat}
theorem v20_1 : Vs (defScope (top 20)) "_law_at" := by decide +kernel
theorem d20_1 : Nd "_law_at" := by decide +kernel
theorem c20_1 : Nc "_law_at" := by decide +kernel
theorem l20_2 : Lc (defScope (top 20)) "_law_cell" := by decide +kernel
theorem g20_len : Gi (defScope (top 20)) "len" := by decide +kernel
theorem v20_0 : Vs (defScope (top 20)) "_law_script" := by decide +kernel
theorem d20_0 : Nd "_law_script" := by decide +kernel
theorem c20_0 : Nc "_law_script" := by decide +kernel
theorem l20_3 : Lc (defScope (top 20)) "_law_figures" := by decide +kernel
theorem v20_2 : Vs (defScope (top 20)) "_law_cell" := by decide +kernel
theorem d20_2 : Nd "_law_cell" := by decide +kernel
theorem c20_2 : Nc "_law_cell" := by decide +kernel
theorem g20_range : Gi (defScope (top 20)) "range" := by decide +kernel
theorem l20_4 : Lc (defScope (top 20)) "_law_k" := by decide +kernel
theorem v20_3 : Vs (defScope (top 20)) "_law_figures" := by decide +kernel
theorem d20_3 : Nd "_law_figures" := by decide +kernel
theorem c20_3 : Nc "_law_figures" := by decide +kernel
theorem l20_5 : Lc (defScope (top 20)) "_law_m" := by decide +kernel
theorem v20_5 : Vs (defScope (top 20)) "_law_m" := by decide +kernel
theorem d20_5 : Nd "_law_m" := by decide +kernel
theorem c20_5 : Nc "_law_m" := by decide +kernel
theorem scNext : FnScope ["_law_script", "_law_at", "_law_cell", "_law_figures", "_law_k", "_law_m"] ["_law_script", "_law_at"] (defScope (top 20)) := ⟨rfl, rfl, rfl, by decide +kernel, rfl, by decide +kernel, by decide +kernel⟩
theorem ok_next (F : Fun K "_law_next" "_law_next" (top 20) f fd) (z_len : mg "len" = none) (z_range : mg "range" = none) :
    FnOk P w K mg base CX0 (k + 1) f fd ["_law_script", "_law_at"] (spNext K) := by
  have nd := scNext.nd
  refine F.ok scNext (fun vs H Q E h => ?_) (fun cdv A outer s H vs Q E hr h => ?_)
  · obtain ⟨a, b, ns, c, rfl, _⟩ := h
    rfl
  obtain ⟨a, b, ns, c, rfl, hS, hb, h0, h1, q⟩ := h
  refine ⟨_, (Pr.h (qpss_cons (qps_asg (qpe_op op_add (qpe_ix ixa_list (qpe_var (i := 1) rfl v20_1 d20_1 c20_1) qpe_int (fun _ _ => rfl)) qpe_int) (qpg_sub (qpe_var (i := 1) rfl v20_1 d20_1 c20_1) qpe_int set_list))
 (qpss_cons (qps_set (i := 2) nd rfl l20_2 qpe_int)
 (qpss_cut (qps_if (qpt_cmpR op_gt (qpe_callB call_len_seq g20_len z_len PySem.boot_len (qpa_cons (qpe_var (i := 0) rfl v20_0 d20_0 c20_0) qpa_nil se_Name) nn_len gd_len) qpe_int (nomark _))
  (qpss_one (qps_set (i := 2) nd rfl l20_2 (qpe_ix ixa_list (qpe_var (i := 0) rfl v20_0 d20_0 c20_0) (qpe_op op_mod (qpe_ix ixa_list (qpe_var (i := 1) rfl v20_1 d20_1 c20_1) qpe_int (fun _ _ => rfl)) (qpe_callB call_len_seq g20_len z_len PySem.boot_len (qpa_cons (qpe_var (i := 0) rfl v20_0 d20_0 c20_0) qpa_nil se_Name) nn_len gd_len)) (fun _ _ => rfl))))
  qpss_nil)
 (qpss_cut (qps_if (qPW_pt (qpw_and (qpt_cmpR op_gt (qpe_callB call_len_seq g20_len z_len PySem.boot_len (qpa_cons (qpe_var (i := 0) rfl v20_0 d20_0 c20_0) qpa_nil se_Name) nn_len gd_len) qpe_int (nomark _)) (qpw_and1 (qpt_cmpR op_eq (qpe_op op_mod (qpe_ix ixa_list (qpe_var (i := 0) rfl v20_0 d20_0 c20_0) qpe_int (fun _ _ => rfl)) qpe_int) qpe_int (nomark _)))))
  (qpss_cons (qps_set (i := 3) nd rfl l20_3 (qpe_var (i := 2) rfl v20_2 d20_2 c20_2))
 (qpss_cons (qps_loop PassesOwn.never rfl (qpi_range1 g20_range z_range (qpa_cons (qpe_op op_mod (qpe_op op_fdivW (qpe_ix ixa_list (qpe_var (i := 1) rfl v20_1 d20_1 c20_1) qpe_int (fun _ _ => rfl)) (qpe_callB call_len_seq g20_len z_len PySem.boot_len (qpa_cons (qpe_var (i := 0) rfl v20_0 d20_0 c20_0) qpa_nil se_Name) nn_len gd_len)) qpe_int) qpa_nil se_BinOp)) (qpg_name (i := 4) nd rfl l20_4)
  (qpss_one (qps_set (i := 3) nd rfl l20_3 (qpe_op op_fdivW (qpe_var (i := 3) rfl v20_3 d20_3 c20_3) qpe_int))))
 (qpss_one (qps_if (qPW_pt (qpw_or (qpt_cmpR op_notIn_seq (qpe_var (i := 3) rfl v20_3 d20_3 c20_3) (qpe_tup (qpa_cons qpe_int (qpa_cons (qpe_un un_neg qpe_int) qpa_nil se_UnaryOp) se_Constant)) rfl) (qpw_or1 (qpt_cmpR op_lt (qpe_ix ixa_list (qpe_var (i := 1) rfl v20_1 d20_1 c20_1) qpe_int (fun _ _ => rfl)) (qpe_callB call_len_seq g20_len z_len PySem.boot_len (qpa_cons (qpe_var (i := 0) rfl v20_0 d20_0 c20_0) qpa_nil se_Name) nn_len gd_len) (nomark _)))))
  (qpss_one (qps_ret (qpe_op op_mod (qpe_var (i := 3) rfl v20_3 d20_3 c20_3) qpe_int)))
  qpss_nil))))
  qpss_nil)
 (qpss_cons (qps_set (i := 5) nd rfl l20_5 (qpe_op op_mod (qpe_op op_mul (qpe_op op_add (qpe_op op_add (qpe_op op_mod (qpe_var (i := 2) rfl v20_2 d20_2 c20_2) qpe_int) (qpe_op op_mul (qpe_op op_mul (qpe_ix ixa_list (qpe_var (i := 1) rfl v20_1 d20_1 c20_1) qpe_int (fun _ _ => rfl)) (qpe_ix ixa_list (qpe_var (i := 1) rfl v20_1 d20_1 c20_1) qpe_int (fun _ _ => rfl))) qpe_int)) qpe_int) qpe_int) qpe_int))
 (qpss_cons (qps_set (i := 5) nd rfl l20_5 (qpe_op op_mod (qpe_op op_mul (qpe_var (i := 5) rfl v20_5 d20_5 c20_5) (qpe_var (i := 5) rfl v20_5 d20_5 c20_5)) qpe_int))
 (qpss_one (qps_ret (qpe_op op_mod (qpe_op op_mul (qpe_op op_add (qpe_var (i := 5) rfl v20_5 d20_5 c20_5) (qpe_op op_mul (qpe_ix ixa_list (qpe_var (i := 1) rfl v20_1 d20_1 c20_1) qpe_int (fun _ _ => rfl)) qpe_int)) qpe_int) qpe_int)))))))))), ?_⟩
  have h63 : ns.length ≤ 63 := hS.1
  (try dsimp only [cxOf])
  walk_at "rd"
  refine cut_by (fun σ H' => ∃ n : Int, σ = [some (.ref a), some (.ref b), some (.int n), none, none, none] ∧ Ch [b] H H' ∧ H' b = some (.lst [.int (c + 1)])) ?_ ?_
  · walk_at "rd"
    refine ite2 (fun hc => ?_) (fun hc => ?_)
    · have hc' : 0 < (ns.length : Int) := by simpa using hc
      have e1 : 0 ≤ (c + 1) % (ns.length : Int) := Int.emod_nonneg _ (by omega)
      have e2 : (c + 1) % (ns.length : Int) < (ns.length : Int) := Int.emod_lt_of_pos _ hc'
      obtain ⟨n, hn⟩ := atI_ints e1 e2
      walk_at "rd"
    · walk_at "rd"
  · rintro σ H1 ⟨n, rfl, c1, b1⟩
    have hS1 : Scr K H1 a ns := hS.ch hb c1
    refine cut_by (fun σ H' => ∃ u v w, σ = [some (.ref a), some (.ref b), some (.int n), u, v, w] ∧ Ch [b] H H' ∧ H' b = some (.lst [.int (c + 1)])) ?_ ?_
    · walk_at "rd"
      refine ite2 (fun hc => ?_) (fun hc => iteF ?_)
      · have hc' : 0 < (ns.length : Int) := by simpa using hc
        obtain ⟨n0, hn0⟩ := atI_ints (ns := ns) (i := 0) (by omega) hc'
        walk_at "rd"
        refine ite2 (fun hd => ?_) (fun hd => ?_)
        · walk_at "rd"
          refine loop_range (fun i σ H' => H' = H1 ∧ ∃ g kk, σ = [some (.ref a), some (.ref b), some (.int n), some (.int g), kk, none]) ⟨rfl, _, _, rfl⟩ ?_ ?_
          · rintro i σ H' hi ⟨rfl, g, kk, rfl⟩
            walk_at "rd"
          · rintro σ H' ⟨rfl, g, kk, rfl⟩
            walk_at "rd"
            refine ite2 (fun hd => iteT ?_) (fun hd => ?_)
            · walk_at "rd"
              exact q _ _ (Int.emod_nonneg _ (by decide)) (Int.lt_of_lt_of_le (Int.emod_lt_of_pos _ (by decide)) (by decide)) (c1.trans (Ch.new (by assumption) _)) (by walk_at "get")
            · walk_at "rd"
              refine ite2 (fun he => ?_) (fun he => ?_)
              · walk_at "rd"
                exact q _ _ (Int.emod_nonneg _ (by decide)) (Int.lt_of_lt_of_le (Int.emod_lt_of_pos _ (by decide)) (by decide)) (c1.trans (Ch.new (by assumption) _)) (by walk_at "get")
              · walk_at "rd"
        · walk_at "rd"
      · walk_at "rd"
    · rintro σ H2 ⟨u, v, w, rfl, c2, b2⟩
      walk_at "rd"
      exact q _ _ (Int.emod_nonneg _ (by decide)) (Int.emod_lt_of_pos _ (by decide)) c2 b2
end
end

section
def Eqv : Nat → Hp → V → V → Prop
  | 0, _, _, _ => False
  | n + 1, H, x, y => (∃ k : Key, x = kV k ∧ y = kV k) ∨ (∃ (p r : Addr) (xs ys : List V), x = .ref p ∧ y = .ref r ∧ H p = some (.tup xs) ∧ H r = some (.tup ys) ∧ Paired (Eqv n H) xs ys ∧ xs.length ≤ 300) ∨
    ∃ (p r : Addr) (xs ys : List V), x = .ref p ∧ y = .ref r ∧ H p = some (.lst xs) ∧ H r = some (.lst ys) ∧ Paired (Eqv n H) xs ys ∧ xs.length ≤ 300
theorem paired_imp {α β : Type} {R S : α → β → Prop} (h : ∀ x y, R x y → S x y) : ∀ {xs : List α} {ys : List β}, Paired R xs ys → Paired S xs ys
  | _, _, .nil => .nil
  | _, _, .cons a t => .cons (h _ _ a) (paired_imp h t)
theorem Eqv.ch {H H' : Hp} (c : Ch [] H H') : ∀ {n : Nat} {x y : V}, Eqv n H x y → Eqv n H' x y
  | 0, _, _, h => h
  | n + 1, x, y, h => by
    rcases h with h | ⟨p, r, xs, ys, e1, e2, g1, g2, pr, l⟩ | ⟨p, r, xs, ys, e1, e2, g1, g2, pr, l⟩
    · exact .inl h
    · exact .inr (.inl ⟨p, r, xs, ys, e1, e2, c.get g1 (by simp), c.get g2 (by simp), paired_imp (fun _ _ => Eqv.ch c) pr, l⟩)
    · exact .inr (.inr ⟨p, r, xs, ys, e1, e2, c.get g1 (by simp), c.get g2 (by simp), paired_imp (fun _ _ => Eqv.ch c) pr, l⟩)
section
variable {P : Program} {w : World} {K : PySem.W.Frag} {mg : Str → Option Value} {base : Heap} {f : Addr} {fd : FuncData} {k : Nat}
theorem gd__law_same : Nd "_law_same" := by decide +kernel
theorem v21_1 : Vs (defScope (top 21)) "_law_due" := by decide +kernel
theorem d21_1 : Nd "_law_due" := by decide +kernel
theorem c21_1 : Nc "_law_due" := by decide +kernel
theorem v21_0 : Vs (defScope (top 21)) "_law_found" := by decide +kernel
theorem d21_0 : Nd "_law_found" := by decide +kernel
theorem c21_0 : Nc "_law_found" := by decide +kernel
theorem g21_isinstance : Gi (defScope (top 21)) "isinstance" := by decide +kernel
theorem g21_dict : Gi (defScope (top 21)) "dict" := by decide +kernel
theorem g21_len : Gi (defScope (top 21)) "len" := by decide +kernel
theorem g21_all : Gi (defScope (top 21)) "all" := by decide +kernel
def csc21_0 : Scope := { kind := PySem.ScopeKind.function, names := [ (PySem.Str.ofString ".0", PySem.NameKind.local), (PySem.Str.ofString "_law_name", PySem.NameKind.local), (PySem.Str.ofString "_law_same", PySem.NameKind.globalImplicit), (PySem.Str.ofString "_law_due", PySem.NameKind.free), (PySem.Str.ofString "_law_found", PySem.NameKind.free)], isGenerator := false, isCoroutine := false, more := [] : PySem.Scope }
theorem cok21_0 : CompOk csc21_0 (defScope (top 21)) (["_law_name"] : List Str) (["_law_found", "_law_due"] : List Str) [0, 1] (["_law_name", "_law_found", "_law_due"] : List Str) := compOk rfl (by decide +kernel) (by decide +kernel) (by decide +kernel) (by decide +kernel) rfl (by decide +kernel)
theorem kq21_0_0 : (relab csc21_0 (defScope (top 21))).names.lookup (Str.ofString "_law_name") = some NameKind.local := by decide +kernel
theorem gq21_0__law_same : Gi (relab csc21_0 (defScope (top 21))) "_law_same" := by decide +kernel
theorem vq21_0_2 : Vs (relab csc21_0 (defScope (top 21))) "_law_due" := by decide +kernel
theorem dq21_0_2 : Nd "_law_due" := by decide +kernel
theorem cq21_0_2 : Nc "_law_due" := by decide +kernel
theorem vq21_0_0 : Vs (relab csc21_0 (defScope (top 21))) "_law_name" := by decide +kernel
theorem dq21_0_0 : Nd "_law_name" := by decide +kernel
theorem cq21_0_0 : Nc "_law_name" := by decide +kernel
theorem vq21_0_1 : Vs (relab csc21_0 (defScope (top 21))) "_law_found" := by decide +kernel
theorem dq21_0_1 : Nd "_law_found" := by decide +kernel
theorem cq21_0_1 : Nc "_law_found" := by decide +kernel
theorem g21_tuple : Gi (defScope (top 21)) "tuple" := by decide +kernel
theorem g21_list : Gi (defScope (top 21)) "list" := by decide +kernel
theorem g21_zip : Gi (defScope (top 21)) "zip" := by decide +kernel
def csc21_1 : Scope := { kind := PySem.ScopeKind.function, names := [ (PySem.Str.ofString ".0", PySem.NameKind.local), (PySem.Str.ofString "_law_one", PySem.NameKind.local), (PySem.Str.ofString "_law_other", PySem.NameKind.local), (PySem.Str.ofString "_law_same", PySem.NameKind.globalImplicit)], isGenerator := false, isCoroutine := false, more := [] : PySem.Scope }
theorem cok21_1 : CompOk csc21_1 (defScope (top 21)) (["_law_one", "_law_other"] : List Str) (["_law_found", "_law_due"] : List Str) [] (["_law_one", "_law_other"] : List Str) := compOk rfl (by decide +kernel) (by decide +kernel) (by decide +kernel) (by decide +kernel) rfl (by decide +kernel)
theorem kq21_1_1 : (relab csc21_1 (defScope (top 21))).names.lookup (Str.ofString "_law_other") = some NameKind.local := by decide +kernel
theorem kq21_1_0 : (relab csc21_1 (defScope (top 21))).names.lookup (Str.ofString "_law_one") = some NameKind.local := by decide +kernel
theorem gq21_1__law_same : Gi (relab csc21_1 (defScope (top 21))) "_law_same" := by decide +kernel
theorem vq21_1_1 : Vs (relab csc21_1 (defScope (top 21))) "_law_other" := by decide +kernel
theorem dq21_1_1 : Nd "_law_other" := by decide +kernel
theorem cq21_1_1 : Nc "_law_other" := by decide +kernel
theorem vq21_1_0 : Vs (relab csc21_1 (defScope (top 21))) "_law_one" := by decide +kernel
theorem dq21_1_0 : Nd "_law_one" := by decide +kernel
theorem cq21_1_0 : Nc "_law_one" := by decide +kernel
theorem g21_str : Gi (defScope (top 21)) "str" := by decide +kernel
theorem g21_bool : Gi (defScope (top 21)) "bool" := by decide +kernel
theorem g21_int : Gi (defScope (top 21)) "int" := by decide +kernel
structure EqvS (n : Nat) (H : Hp) (x y : V) : Prop where
  h : Eqv n H x y
def spSame (n : Nat) : Sp := fun vs H Q _ => ∃ (x y : V), vs = [x, y] ∧ EqvS n H x y ∧ ∀ H', Ch [] H H' → Q (.bl true) H'
theorem scSame : FnScope ["_law_found", "_law_due"] ["_law_found", "_law_due"] (defScope (top 21)) := ⟨rfl, rfl, rfl, by decide +kernel, rfl, by decide +kernel, by decide +kernel⟩
theorem ok_sameF (F : Fun K "_law_same" "_law_same" (top 21) f fd) : FnOk P w K mg base CX0 (k + 1) f fd ["_law_found", "_law_due"] (spSame 0) :=
  F.ok scSame (fun vs H Q E h => by obtain ⟨x, y, rfl, _⟩ := h; rfl) (fun cdv A outer s H vs Q E hr h => by obtain ⟨_, _, _, e, _⟩ := h; exact e.h.elim)
theorem ok_same (n : Nat) (F : Fun K "_law_same" "_law_same" (top 21) f fd) (D_law_same : DefOk P w K mg base CX0 k "_law_same" ["_law_found", "_law_due"] (spSame n)) (z_isinstance : mg "isinstance" = none) (z_dict : mg "dict" = none) (z_list : mg "list" = none) (z_tuple : mg "tuple" = none) (z_str : mg "str" = none) (z_int : mg "int" = none) (z_bool : mg "bool" = none) (z_len : mg "len" = none) (z_all : mg "all" = none) (z_zip : mg "zip" = none) :
    FnOk P w K mg base CX0 (k + 1) f fd ["_law_found", "_law_due"] (spSame (n + 1)) := by
  have nd := scSame.nd
  refine F.ok scSame (fun vs H Q E h => by obtain ⟨x, y, rfl, _⟩ := h; rfl) (fun cdv A outer s H vs Q E hr h => ?_)
  obtain ⟨x, y, rfl, ⟨e⟩, q⟩ := h
  rcases e with ⟨kk, rfl, rfl⟩ | ⟨p, r, xs, ys, rfl, rfl, g1, g2, pr, l⟩ | ⟨p, r, xs, ys, rfl, rfl, g1, g2, pr, l⟩
  · refine ⟨_, (Pr.h (qpss_cons (qps_if (qpt_cmpR op_isN (qpe_var (i := 1) rfl v21_1 d21_1 c21_1) qpe_non (nomark _))
  (qpss_one (qps_ret (qpe_cmpR op_isN (qpe_var (i := 0) rfl v21_0 d21_0 c21_0) qpe_non (nomark _))))
  qpss_nil)
 (qpss_cons (qps_if (qpt_val (qpe_callB call_isT g21_isinstance z_isinstance bo_isinstance (qpa_cons (qpe_var (i := 1) rfl v21_1 d21_1 c21_1) (qpa_cons (qpe_bltn (v := .ty "dict") g21_dict z_dict bo_dict rfl nn_dict gd_dict) qpa_nil)) nn_isinstance gd_isinstance))
  (qpss_cons (qps_if (qPW_pt (qpw_or (qpt_not (qpt_val (qpe_callB call_isT g21_isinstance z_isinstance bo_isinstance (qpa_cons (qpe_var (i := 0) rfl v21_0 d21_0 c21_0) (qpa_cons (qpe_bltn (v := .ty "dict") g21_dict z_dict bo_dict rfl nn_dict gd_dict) qpa_nil)) nn_isinstance gd_isinstance))) (qpw_or1 (qpt_cmpR op_ne (qpe_callB call_len_seq g21_len z_len PySem.boot_len (qpa_cons (qpe_var (i := 0) rfl v21_0 d21_0 c21_0) qpa_nil se_Name) nn_len gd_len) (qpe_callB call_len_seq g21_len z_len PySem.boot_len (qpa_cons (qpe_var (i := 1) rfl v21_1 d21_1 c21_1) qpa_nil se_Name) nn_len gd_len) (nomark _)))))
  (qpss_one (qps_ret qpe_bl))
  qpss_nil)
 (qpss_one (qps_ret (qpe_callB (call_all rfl) g21_all z_all bo_all (qpa_cons (qpe_comp rfl cok21_0 (qpi_list (qpe_var (i := 1) rfl v21_1 d21_1 c21_1)) (fun _ _ _ _ _ => (qpg_name (i := 0) cok21_0.nd rfl (Or.inl kq21_0_0) (Or.inr kq21_0_0))) (fun _ _ _ _ _ => qpif_nil) (fun _ _ _ _ _ => (qpe_and (qpe_cmpR (opK_in_seq K rfl) (qpe_var (i := 0) rfl vq21_0_0 dq21_0_0 cq21_0_0) (qpe_var (i := 1) rfl vq21_0_1 dq21_0_1 cq21_0_1) rfl) (qpe_one (qpe_callD D_law_same hr gq21_0__law_same pass0 (qpa_cons (qpe_ix (ixaK_list K rfl) (qpe_var (i := 1) rfl vq21_0_1 dq21_0_1 cq21_0_1) (qpe_var (i := 0) rfl vq21_0_0 dq21_0_0 cq21_0_0) (fun _ _ => rfl)) (qpa_cons (qpe_ix (ixaK_list K rfl) (qpe_var (i := 2) rfl vq21_0_2 dq21_0_2 cq21_0_2) (qpe_var (i := 0) rfl vq21_0_0 dq21_0_0 cq21_0_0) (fun _ _ => rfl)) qpa_nil se_Subscript) se_Subscript) gd__law_same))))) qpa_nil se_ListComp) nn_all gd_all))))
  qpss_nil)
 (qpss_cons (qps_if (qPW_pt (qpw_or (qpt_val (qpe_callB call_isT g21_isinstance z_isinstance bo_isinstance (qpa_cons (qpe_var (i := 1) rfl v21_1 d21_1 c21_1) (qpa_cons (qpe_bltn (v := .ty "list") g21_list z_list bo_list rfl nn_list gd_list) qpa_nil)) nn_isinstance gd_isinstance)) (qpw_or1 (qpt_val (qpe_callB call_isT g21_isinstance z_isinstance bo_isinstance (qpa_cons (qpe_var (i := 1) rfl v21_1 d21_1 c21_1) (qpa_cons (qpe_bltn (v := .ty "tuple") g21_tuple z_tuple bo_tuple rfl nn_tuple gd_tuple) qpa_nil)) nn_isinstance gd_isinstance)))))
  (qpss_cons (qps_if (qpt_cmpR op_ne (qpe_callB call_isT g21_isinstance z_isinstance bo_isinstance (qpa_cons (qpe_var (i := 0) rfl v21_0 d21_0 c21_0) (qpa_cons (qpe_bltn (v := .ty "list") g21_list z_list bo_list rfl nn_list gd_list) qpa_nil)) nn_isinstance gd_isinstance) (qpe_callB call_isT g21_isinstance z_isinstance bo_isinstance (qpa_cons (qpe_var (i := 1) rfl v21_1 d21_1 c21_1) (qpa_cons (qpe_bltn (v := .ty "list") g21_list z_list bo_list rfl nn_list gd_list) qpa_nil)) nn_isinstance gd_isinstance) (nomark _))
  (qpss_one (qps_ret qpe_bl))
  qpss_nil)
 (qpss_cons (qps_if (qPW_pt (qpw_or (qpt_cmpR op_ne (qpe_callB call_isT g21_isinstance z_isinstance bo_isinstance (qpa_cons (qpe_var (i := 0) rfl v21_0 d21_0 c21_0) (qpa_cons (qpe_bltn (v := .ty "tuple") g21_tuple z_tuple bo_tuple rfl nn_tuple gd_tuple) qpa_nil)) nn_isinstance gd_isinstance) (qpe_callB call_isT g21_isinstance z_isinstance bo_isinstance (qpa_cons (qpe_var (i := 1) rfl v21_1 d21_1 c21_1) (qpa_cons (qpe_bltn (v := .ty "tuple") g21_tuple z_tuple bo_tuple rfl nn_tuple gd_tuple) qpa_nil)) nn_isinstance gd_isinstance) (nomark _)) (qpw_or1 (qpt_cmpR op_ne (qpe_callB call_len_seq g21_len z_len PySem.boot_len (qpa_cons (qpe_var (i := 0) rfl v21_0 d21_0 c21_0) qpa_nil se_Name) nn_len gd_len) (qpe_callB call_len_seq g21_len z_len PySem.boot_len (qpa_cons (qpe_var (i := 1) rfl v21_1 d21_1 c21_1) qpa_nil se_Name) nn_len gd_len) (nomark _)))))
  (qpss_one (qps_ret qpe_bl))
  qpss_nil)
 (qpss_one (qps_ret (qpe_callB (call_all rfl) g21_all z_all bo_all (qpa_cons (qpe_comp rfl cok21_1 (qpi_zip .list .list g21_zip z_zip (qpa_cons (qpe_var (i := 0) rfl v21_0 d21_0 c21_0) (qpa_cons (qpe_var (i := 1) rfl v21_1 d21_1 c21_1) qpa_nil se_Name) se_Name)) (fun _ _ _ _ _ => (qpg_tupK K 2 rfl rfl (qpgs_cons (qpg_name (i := 0) cok21_1.nd rfl (Or.inl kq21_1_0) (Or.inr kq21_1_0)) (qpgs_cons (qpg_name (i := 1) cok21_1.nd rfl (Or.inl kq21_1_1) (Or.inr kq21_1_1)) qpgs_nil)))) (fun _ _ _ _ _ => qpif_nil) (fun _ _ _ _ _ => (qpe_callD D_law_same hr gq21_1__law_same pass0 (qpa_cons (qpe_var (i := 0) rfl vq21_1_0 dq21_1_0 cq21_1_0) (qpa_cons (qpe_var (i := 1) rfl vq21_1_1 dq21_1_1 cq21_1_1) qpa_nil se_Name) se_Name) gd__law_same))) qpa_nil se_ListComp) nn_all gd_all)))))
  qpss_nil)
 (qpss_cons (qps_if (qpt_val (qpe_callB call_isT g21_isinstance z_isinstance bo_isinstance (qpa_cons (qpe_var (i := 1) rfl v21_1 d21_1 c21_1) (qpa_cons (qpe_bltn (v := .ty "str") g21_str z_str bo_str rfl nn_str gd_str) qpa_nil)) nn_isinstance gd_isinstance))
  (qpss_one (qps_ret (qpe_and (qpe_callB call_isT g21_isinstance z_isinstance bo_isinstance (qpa_cons (qpe_var (i := 0) rfl v21_0 d21_0 c21_0) (qpa_cons (qpe_bltn (v := .ty "str") g21_str z_str bo_str rfl nn_str gd_str) qpa_nil)) nn_isinstance gd_isinstance) (qpe_one (qpe_cmpR op_eq (qpe_var (i := 0) rfl v21_0 d21_0 c21_0) (qpe_var (i := 1) rfl v21_1 d21_1 c21_1) (nomark _))))))
  qpss_nil)
 (qpss_one (qps_ret (qpe_and (qpe_callB call_isT g21_isinstance z_isinstance bo_isinstance (qpa_cons (qpe_var (i := 0) rfl v21_0 d21_0 c21_0) (qpa_cons (qpe_bltn (v := .ty "int") g21_int z_int bo_int rfl nn_int gd_int) qpa_nil)) nn_isinstance gd_isinstance) (qpe_and (qpe_not (qpe_callB call_isT g21_isinstance z_isinstance bo_isinstance (qpa_cons (qpe_var (i := 0) rfl v21_0 d21_0 c21_0) (qpa_cons (qpe_bltn (v := .ty "bool") g21_bool z_bool bo_bool rfl nn_bool gd_bool) qpa_nil)) nn_isinstance gd_isinstance)) (qpe_one (qpe_cmpR op_eq (qpe_var (i := 0) rfl v21_0 d21_0 c21_0) (qpe_var (i := 1) rfl v21_1 d21_1 c21_1) (nomark _)))))))))))), ?_⟩
    (try dsimp only [cxOf])
    cases kk with
    | inl b =>
      dsimp only [kV]
      walk_at "rd"
      rw [decide_eq_true rfl]
      exact q _ (Ch.refl _ _)
    | inr b =>
      dsimp only [kV]
      walk_at "rd"
      rw [decide_eq_true rfl]
      exact q _ (Ch.refl _ _)
  · have el := Paired.length pr
    refine ⟨_, (Pr.h (qpss_cons (qps_if (qpt_cmpR op_isN (qpe_var (i := 1) rfl v21_1 d21_1 c21_1) qpe_non (nomark _))
  (qpss_one (qps_ret (qpe_cmpR op_isN (qpe_var (i := 0) rfl v21_0 d21_0 c21_0) qpe_non (nomark _))))
  qpss_nil)
 (qpss_cons (qps_if (qpt_val (qpe_callB call_isT g21_isinstance z_isinstance bo_isinstance (qpa_cons (qpe_var (i := 1) rfl v21_1 d21_1 c21_1) (qpa_cons (qpe_bltn (v := .ty "dict") g21_dict z_dict bo_dict rfl nn_dict gd_dict) qpa_nil)) nn_isinstance gd_isinstance))
  (qpss_cons (qps_if (qPW_pt (qpw_or (qpt_not (qpt_val (qpe_callB call_isT g21_isinstance z_isinstance bo_isinstance (qpa_cons (qpe_var (i := 0) rfl v21_0 d21_0 c21_0) (qpa_cons (qpe_bltn (v := .ty "dict") g21_dict z_dict bo_dict rfl nn_dict gd_dict) qpa_nil)) nn_isinstance gd_isinstance))) (qpw_or1 (qpt_cmpR op_ne (qpe_callB call_len_seq g21_len z_len PySem.boot_len (qpa_cons (qpe_var (i := 0) rfl v21_0 d21_0 c21_0) qpa_nil se_Name) nn_len gd_len) (qpe_callB call_len_seq g21_len z_len PySem.boot_len (qpa_cons (qpe_var (i := 1) rfl v21_1 d21_1 c21_1) qpa_nil se_Name) nn_len gd_len) (nomark _)))))
  (qpss_one (qps_ret qpe_bl))
  qpss_nil)
 (qpss_one (qps_ret (qpe_callB (call_all rfl) g21_all z_all bo_all (qpa_cons (qpe_comp rfl cok21_0 (qpi_tup (qpe_var (i := 1) rfl v21_1 d21_1 c21_1)) (fun _ _ _ _ _ => (qpg_name (i := 0) cok21_0.nd rfl (Or.inl kq21_0_0) (Or.inr kq21_0_0))) (fun _ _ _ _ _ => qpif_nil) (fun _ _ _ _ _ => (qpe_and (qpe_cmpR (opK_in_seq K rfl) (qpe_var (i := 0) rfl vq21_0_0 dq21_0_0 cq21_0_0) (qpe_var (i := 1) rfl vq21_0_1 dq21_0_1 cq21_0_1) rfl) (qpe_one (qpe_callD D_law_same hr gq21_0__law_same pass0 (qpa_cons (qpe_ix (ixaK_tup K rfl) (qpe_var (i := 1) rfl vq21_0_1 dq21_0_1 cq21_0_1) (qpe_var (i := 0) rfl vq21_0_0 dq21_0_0 cq21_0_0) (fun _ _ => rfl)) (qpa_cons (qpe_ix (ixaK_tup K rfl) (qpe_var (i := 2) rfl vq21_0_2 dq21_0_2 cq21_0_2) (qpe_var (i := 0) rfl vq21_0_0 dq21_0_0 cq21_0_0) (fun _ _ => rfl)) qpa_nil se_Subscript) se_Subscript) gd__law_same))))) qpa_nil se_ListComp) nn_all gd_all))))
  qpss_nil)
 (qpss_cons (qps_if (qPW_pt (qpw_or (qpt_val (qpe_callB call_isT g21_isinstance z_isinstance bo_isinstance (qpa_cons (qpe_var (i := 1) rfl v21_1 d21_1 c21_1) (qpa_cons (qpe_bltn (v := .ty "list") g21_list z_list bo_list rfl nn_list gd_list) qpa_nil)) nn_isinstance gd_isinstance)) (qpw_or1 (qpt_val (qpe_callB call_isT g21_isinstance z_isinstance bo_isinstance (qpa_cons (qpe_var (i := 1) rfl v21_1 d21_1 c21_1) (qpa_cons (qpe_bltn (v := .ty "tuple") g21_tuple z_tuple bo_tuple rfl nn_tuple gd_tuple) qpa_nil)) nn_isinstance gd_isinstance)))))
  (qpss_cons (qps_if (qpt_cmpR op_ne (qpe_callB call_isT g21_isinstance z_isinstance bo_isinstance (qpa_cons (qpe_var (i := 0) rfl v21_0 d21_0 c21_0) (qpa_cons (qpe_bltn (v := .ty "list") g21_list z_list bo_list rfl nn_list gd_list) qpa_nil)) nn_isinstance gd_isinstance) (qpe_callB call_isT g21_isinstance z_isinstance bo_isinstance (qpa_cons (qpe_var (i := 1) rfl v21_1 d21_1 c21_1) (qpa_cons (qpe_bltn (v := .ty "list") g21_list z_list bo_list rfl nn_list gd_list) qpa_nil)) nn_isinstance gd_isinstance) (nomark _))
  (qpss_one (qps_ret qpe_bl))
  qpss_nil)
 (qpss_cons (qps_if (qPW_pt (qpw_or (qpt_cmpR op_ne (qpe_callB call_isT g21_isinstance z_isinstance bo_isinstance (qpa_cons (qpe_var (i := 0) rfl v21_0 d21_0 c21_0) (qpa_cons (qpe_bltn (v := .ty "tuple") g21_tuple z_tuple bo_tuple rfl nn_tuple gd_tuple) qpa_nil)) nn_isinstance gd_isinstance) (qpe_callB call_isT g21_isinstance z_isinstance bo_isinstance (qpa_cons (qpe_var (i := 1) rfl v21_1 d21_1 c21_1) (qpa_cons (qpe_bltn (v := .ty "tuple") g21_tuple z_tuple bo_tuple rfl nn_tuple gd_tuple) qpa_nil)) nn_isinstance gd_isinstance) (nomark _)) (qpw_or1 (qpt_cmpR op_ne (qpe_callB call_len_seq g21_len z_len PySem.boot_len (qpa_cons (qpe_var (i := 0) rfl v21_0 d21_0 c21_0) qpa_nil se_Name) nn_len gd_len) (qpe_callB call_len_seq g21_len z_len PySem.boot_len (qpa_cons (qpe_var (i := 1) rfl v21_1 d21_1 c21_1) qpa_nil se_Name) nn_len gd_len) (nomark _)))))
  (qpss_one (qps_ret qpe_bl))
  qpss_nil)
 (qpss_one (qps_ret (qpe_callB (call_all rfl) g21_all z_all bo_all (qpa_cons (qpe_comp rfl cok21_1 (qpi_zip .tuple .tuple g21_zip z_zip (qpa_cons (qpe_var (i := 0) rfl v21_0 d21_0 c21_0) (qpa_cons (qpe_var (i := 1) rfl v21_1 d21_1 c21_1) qpa_nil se_Name) se_Name)) (fun _ _ _ _ _ => (qpg_tupK K 2 rfl rfl (qpgs_cons (qpg_name (i := 0) cok21_1.nd rfl (Or.inl kq21_1_0) (Or.inr kq21_1_0)) (qpgs_cons (qpg_name (i := 1) cok21_1.nd rfl (Or.inl kq21_1_1) (Or.inr kq21_1_1)) qpgs_nil)))) (fun _ _ _ _ _ => qpif_nil) (fun _ _ _ _ _ => (qpe_callD D_law_same hr gq21_1__law_same pass0 (qpa_cons (qpe_var (i := 0) rfl vq21_1_0 dq21_1_0 cq21_1_0) (qpa_cons (qpe_var (i := 1) rfl vq21_1_1 dq21_1_1 cq21_1_1) qpa_nil se_Name) se_Name) gd__law_same))) qpa_nil se_ListComp) nn_all gd_all)))))
  qpss_nil)
 (qpss_cons (qps_if (qpt_val (qpe_callB call_isT g21_isinstance z_isinstance bo_isinstance (qpa_cons (qpe_var (i := 1) rfl v21_1 d21_1 c21_1) (qpa_cons (qpe_bltn (v := .ty "str") g21_str z_str bo_str rfl nn_str gd_str) qpa_nil)) nn_isinstance gd_isinstance))
  (qpss_one (qps_ret (qpe_and (qpe_callB call_isT g21_isinstance z_isinstance bo_isinstance (qpa_cons (qpe_var (i := 0) rfl v21_0 d21_0 c21_0) (qpa_cons (qpe_bltn (v := .ty "str") g21_str z_str bo_str rfl nn_str gd_str) qpa_nil)) nn_isinstance gd_isinstance) (qpe_one (qpe_cmpR (op_eqT hr.units) (qpe_var (i := 0) rfl v21_0 d21_0 c21_0) (qpe_var (i := 1) rfl v21_1 d21_1 c21_1) (nomark _))))))
  qpss_nil)
 (qpss_one (qps_ret (qpe_and (qpe_callB call_isT g21_isinstance z_isinstance bo_isinstance (qpa_cons (qpe_var (i := 0) rfl v21_0 d21_0 c21_0) (qpa_cons (qpe_bltn (v := .ty "int") g21_int z_int bo_int rfl nn_int gd_int) qpa_nil)) nn_isinstance gd_isinstance) (qpe_and (qpe_not (qpe_callB call_isT g21_isinstance z_isinstance bo_isinstance (qpa_cons (qpe_var (i := 0) rfl v21_0 d21_0 c21_0) (qpa_cons (qpe_bltn (v := .ty "bool") g21_bool z_bool bo_bool rfl nn_bool gd_bool) qpa_nil)) nn_isinstance gd_isinstance)) (qpe_one (qpe_cmpR (op_eqT hr.units) (qpe_var (i := 0) rfl v21_0 d21_0 c21_0) (qpe_var (i := 1) rfl v21_1 d21_1 c21_1) (nomark _)))))))))))), ?_⟩
    (try dsimp only [cxOf])
    walk_at "rd"
    refine iteNn (by rw [el]) ?_
    walk_at "rd"
    refine comp_zip xs ys (fun j zs σ H' => Ch [] H H' ∧ zs = List.replicate j (V.bl true) ∧ ∃ u v, σ = [u, v]) (by rw [sizeLine_eq]; omega) el ⟨Ch.refl _ _, rfl, _, _, rfl⟩ ?_ ?_ ?_
    · rintro j zs σ H' hj ⟨c, rfl, _⟩
      exact ⟨by simp, SqT.of (c.get g1 (by simp)), SqT.of (c.get g2 (by simp))⟩
    · rintro j zs σ H' x z T hx hz ⟨c, rfl, u, v, rfl⟩ hT
      obtain ⟨j1, rfl⟩ := List.getElem?_eq_some_iff.mp hx
      obtain ⟨j2, rfl⟩ := List.getElem?_eq_some_iff.mp hz
      have ee : EqvS n (upd H' T (.tup [xs[j], ys[j]])) xs[j] ys[j] := ⟨Eqv.ch (c.trans (Ch.new hT _)) (paired_at pr j j1 j2)⟩
      walk_at "rd"
      exact ⟨by rw [← List.replicate_succ'], _, _, rfl⟩
    · rintro zs σ H' ⟨c, rfl, _⟩
      intro D hD
      refine ⟨D, List.replicate xs.length true, rfl, by rw [upd_same, List.map_replicate], ?_⟩
      rw [show (List.replicate xs.length true).all id = true from by simp [List.all_replicate]]
      exact q _ (c.trans (Ch.new hD _))
  · have el := Paired.length pr
    refine ⟨_, (Pr.h (qpss_cons (qps_if (qpt_cmpR op_isN (qpe_var (i := 1) rfl v21_1 d21_1 c21_1) qpe_non (nomark _))
  (qpss_one (qps_ret (qpe_cmpR op_isN (qpe_var (i := 0) rfl v21_0 d21_0 c21_0) qpe_non (nomark _))))
  qpss_nil)
 (qpss_cons (qps_if (qpt_val (qpe_callB call_isT g21_isinstance z_isinstance bo_isinstance (qpa_cons (qpe_var (i := 1) rfl v21_1 d21_1 c21_1) (qpa_cons (qpe_bltn (v := .ty "dict") g21_dict z_dict bo_dict rfl nn_dict gd_dict) qpa_nil)) nn_isinstance gd_isinstance))
  (qpss_cons (qps_if (qPW_pt (qpw_or (qpt_not (qpt_val (qpe_callB call_isT g21_isinstance z_isinstance bo_isinstance (qpa_cons (qpe_var (i := 0) rfl v21_0 d21_0 c21_0) (qpa_cons (qpe_bltn (v := .ty "dict") g21_dict z_dict bo_dict rfl nn_dict gd_dict) qpa_nil)) nn_isinstance gd_isinstance))) (qpw_or1 (qpt_cmpR op_ne (qpe_callB call_len_seq g21_len z_len PySem.boot_len (qpa_cons (qpe_var (i := 0) rfl v21_0 d21_0 c21_0) qpa_nil se_Name) nn_len gd_len) (qpe_callB call_len_seq g21_len z_len PySem.boot_len (qpa_cons (qpe_var (i := 1) rfl v21_1 d21_1 c21_1) qpa_nil se_Name) nn_len gd_len) (nomark _)))))
  (qpss_one (qps_ret qpe_bl))
  qpss_nil)
 (qpss_one (qps_ret (qpe_callB (call_all rfl) g21_all z_all bo_all (qpa_cons (qpe_comp rfl cok21_0 (qpi_list (qpe_var (i := 1) rfl v21_1 d21_1 c21_1)) (fun _ _ _ _ _ => (qpg_name (i := 0) cok21_0.nd rfl (Or.inl kq21_0_0) (Or.inr kq21_0_0))) (fun _ _ _ _ _ => qpif_nil) (fun _ _ _ _ _ => (qpe_and (qpe_cmpR (opK_in_seq K rfl) (qpe_var (i := 0) rfl vq21_0_0 dq21_0_0 cq21_0_0) (qpe_var (i := 1) rfl vq21_0_1 dq21_0_1 cq21_0_1) rfl) (qpe_one (qpe_callD D_law_same hr gq21_0__law_same pass0 (qpa_cons (qpe_ix (ixaK_list K rfl) (qpe_var (i := 1) rfl vq21_0_1 dq21_0_1 cq21_0_1) (qpe_var (i := 0) rfl vq21_0_0 dq21_0_0 cq21_0_0) (fun _ _ => rfl)) (qpa_cons (qpe_ix (ixaK_list K rfl) (qpe_var (i := 2) rfl vq21_0_2 dq21_0_2 cq21_0_2) (qpe_var (i := 0) rfl vq21_0_0 dq21_0_0 cq21_0_0) (fun _ _ => rfl)) qpa_nil se_Subscript) se_Subscript) gd__law_same))))) qpa_nil se_ListComp) nn_all gd_all))))
  qpss_nil)
 (qpss_cons (qps_if (qPW_pt (qpw_or (qpt_val (qpe_callB call_isT g21_isinstance z_isinstance bo_isinstance (qpa_cons (qpe_var (i := 1) rfl v21_1 d21_1 c21_1) (qpa_cons (qpe_bltn (v := .ty "list") g21_list z_list bo_list rfl nn_list gd_list) qpa_nil)) nn_isinstance gd_isinstance)) (qpw_or1 (qpt_val (qpe_callB call_isT g21_isinstance z_isinstance bo_isinstance (qpa_cons (qpe_var (i := 1) rfl v21_1 d21_1 c21_1) (qpa_cons (qpe_bltn (v := .ty "tuple") g21_tuple z_tuple bo_tuple rfl nn_tuple gd_tuple) qpa_nil)) nn_isinstance gd_isinstance)))))
  (qpss_cons (qps_if (qpt_cmpR op_ne (qpe_callB call_isT g21_isinstance z_isinstance bo_isinstance (qpa_cons (qpe_var (i := 0) rfl v21_0 d21_0 c21_0) (qpa_cons (qpe_bltn (v := .ty "list") g21_list z_list bo_list rfl nn_list gd_list) qpa_nil)) nn_isinstance gd_isinstance) (qpe_callB call_isT g21_isinstance z_isinstance bo_isinstance (qpa_cons (qpe_var (i := 1) rfl v21_1 d21_1 c21_1) (qpa_cons (qpe_bltn (v := .ty "list") g21_list z_list bo_list rfl nn_list gd_list) qpa_nil)) nn_isinstance gd_isinstance) (nomark _))
  (qpss_one (qps_ret qpe_bl))
  qpss_nil)
 (qpss_cons (qps_if (qPW_pt (qpw_or (qpt_cmpR op_ne (qpe_callB call_isT g21_isinstance z_isinstance bo_isinstance (qpa_cons (qpe_var (i := 0) rfl v21_0 d21_0 c21_0) (qpa_cons (qpe_bltn (v := .ty "tuple") g21_tuple z_tuple bo_tuple rfl nn_tuple gd_tuple) qpa_nil)) nn_isinstance gd_isinstance) (qpe_callB call_isT g21_isinstance z_isinstance bo_isinstance (qpa_cons (qpe_var (i := 1) rfl v21_1 d21_1 c21_1) (qpa_cons (qpe_bltn (v := .ty "tuple") g21_tuple z_tuple bo_tuple rfl nn_tuple gd_tuple) qpa_nil)) nn_isinstance gd_isinstance) (nomark _)) (qpw_or1 (qpt_cmpR op_ne (qpe_callB call_len_seq g21_len z_len PySem.boot_len (qpa_cons (qpe_var (i := 0) rfl v21_0 d21_0 c21_0) qpa_nil se_Name) nn_len gd_len) (qpe_callB call_len_seq g21_len z_len PySem.boot_len (qpa_cons (qpe_var (i := 1) rfl v21_1 d21_1 c21_1) qpa_nil se_Name) nn_len gd_len) (nomark _)))))
  (qpss_one (qps_ret qpe_bl))
  qpss_nil)
 (qpss_one (qps_ret (qpe_callB (call_all rfl) g21_all z_all bo_all (qpa_cons (qpe_comp rfl cok21_1 (qpi_zip .list .list g21_zip z_zip (qpa_cons (qpe_var (i := 0) rfl v21_0 d21_0 c21_0) (qpa_cons (qpe_var (i := 1) rfl v21_1 d21_1 c21_1) qpa_nil se_Name) se_Name)) (fun _ _ _ _ _ => (qpg_tupK K 2 rfl rfl (qpgs_cons (qpg_name (i := 0) cok21_1.nd rfl (Or.inl kq21_1_0) (Or.inr kq21_1_0)) (qpgs_cons (qpg_name (i := 1) cok21_1.nd rfl (Or.inl kq21_1_1) (Or.inr kq21_1_1)) qpgs_nil)))) (fun _ _ _ _ _ => qpif_nil) (fun _ _ _ _ _ => (qpe_callD D_law_same hr gq21_1__law_same pass0 (qpa_cons (qpe_var (i := 0) rfl vq21_1_0 dq21_1_0 cq21_1_0) (qpa_cons (qpe_var (i := 1) rfl vq21_1_1 dq21_1_1 cq21_1_1) qpa_nil se_Name) se_Name) gd__law_same))) qpa_nil se_ListComp) nn_all gd_all)))))
  qpss_nil)
 (qpss_cons (qps_if (qpt_val (qpe_callB call_isT g21_isinstance z_isinstance bo_isinstance (qpa_cons (qpe_var (i := 1) rfl v21_1 d21_1 c21_1) (qpa_cons (qpe_bltn (v := .ty "str") g21_str z_str bo_str rfl nn_str gd_str) qpa_nil)) nn_isinstance gd_isinstance))
  (qpss_one (qps_ret (qpe_and (qpe_callB call_isT g21_isinstance z_isinstance bo_isinstance (qpa_cons (qpe_var (i := 0) rfl v21_0 d21_0 c21_0) (qpa_cons (qpe_bltn (v := .ty "str") g21_str z_str bo_str rfl nn_str gd_str) qpa_nil)) nn_isinstance gd_isinstance) (qpe_one (qpe_cmpR op_eq (qpe_var (i := 0) rfl v21_0 d21_0 c21_0) (qpe_var (i := 1) rfl v21_1 d21_1 c21_1) (nomark _))))))
  qpss_nil)
 (qpss_one (qps_ret (qpe_and (qpe_callB call_isT g21_isinstance z_isinstance bo_isinstance (qpa_cons (qpe_var (i := 0) rfl v21_0 d21_0 c21_0) (qpa_cons (qpe_bltn (v := .ty "int") g21_int z_int bo_int rfl nn_int gd_int) qpa_nil)) nn_isinstance gd_isinstance) (qpe_and (qpe_not (qpe_callB call_isT g21_isinstance z_isinstance bo_isinstance (qpa_cons (qpe_var (i := 0) rfl v21_0 d21_0 c21_0) (qpa_cons (qpe_bltn (v := .ty "bool") g21_bool z_bool bo_bool rfl nn_bool gd_bool) qpa_nil)) nn_isinstance gd_isinstance)) (qpe_one (qpe_cmpR op_eq (qpe_var (i := 0) rfl v21_0 d21_0 c21_0) (qpe_var (i := 1) rfl v21_1 d21_1 c21_1) (nomark _)))))))))))), ?_⟩
    (try dsimp only [cxOf])
    walk_at "rd"
    refine iteNn (by rw [el]) ?_
    walk_at "rd"
    refine comp_zip xs ys (fun j zs σ H' => Ch [] H H' ∧ zs = List.replicate j (V.bl true) ∧ ∃ u v, σ = [u, v]) (by rw [sizeLine_eq]; omega) el ⟨Ch.refl _ _, rfl, _, _, rfl⟩ ?_ ?_ ?_
    · rintro j zs σ H' hj ⟨c, rfl, _⟩
      exact ⟨by simp, SqL.of (c.get g1 (by simp)), SqL.of (c.get g2 (by simp))⟩
    · rintro j zs σ H' x z T hx hz ⟨c, rfl, u, v, rfl⟩ hT
      obtain ⟨j1, rfl⟩ := List.getElem?_eq_some_iff.mp hx
      obtain ⟨j2, rfl⟩ := List.getElem?_eq_some_iff.mp hz
      have ee : EqvS n (upd H' T (.tup [xs[j], ys[j]])) xs[j] ys[j] := ⟨Eqv.ch (c.trans (Ch.new hT _)) (paired_at pr j j1 j2)⟩
      walk_at "rd"
      exact ⟨by rw [← List.replicate_succ'], _, _, rfl⟩
    · rintro zs σ H' ⟨c, rfl, _⟩
      intro D hD
      refine ⟨D, List.replicate xs.length true, rfl, by rw [upd_same, List.map_replicate], ?_⟩
      rw [show (List.replicate xs.length true).all id = true from by simp [List.all_replicate]]
      exact q _ (c.trans (Ch.new hD _))
end
end

section
def Tk (H H' : Hp) : Prop := ∀ p xs, H p = some (.tup xs) → H' p = some (.tup xs)
theorem tk_ch {H H' : Hp} {b : Addr} {zs : List V} (hb : H b = some (.lst zs)) (c : Ch [b] H H') : Tk H H' := fun p xs h => c.get h (by simpa using ne_of h hb (by intro z; cases z))
theorem tk_put {H : Hp} {a : Addr} {zs ys : List V} (ha : H a = some (.lst zs)) : Tk H (upd H a (.lst ys)) := fun p xs h => g_put (ne_of h ha (by intro z; cases z)) h
theorem tk_new {H H' : Hp} (c : Ch [] H H') : Tk H H' := fun p xs h => c.get h (by simp)
structure DQ (K : PySem.W.Frag) (H H' : Hp) (a b : Addr) (ns : List Int) (c : Int) : Prop where
  ch : Ch [b] H H'
  hS : Scr K H' a ns
  hb : H' b = some (.lst [.int c])
theorem DQ.next {K : PySem.W.Frag} {H H' H'' : Hp} {a b : Addr} {ns : List Int} {c c' : Int} (d : DQ K H H' a b ns c) (e : Ch [b] H' H'') (h : H'' b = some (.lst [.int c'])) : DQ K H H'' a b ns c' := ⟨d.ch.trans e, d.hS.ch d.hb e, h⟩
theorem DQ.new {K : PySem.W.Frag} {H H' H'' : Hp} {a b : Addr} {ns : List Int} {c : Int} (d : DQ K H H' a b ns c) (e : Ch [] H' H'') : DQ K H H'' a b ns c := ⟨d.ch.trans e.wk, d.hS.same e, e.get d.hb (by simp)⟩
theorem DQ.own {K : PySem.W.Frag} {H H' : Hp} {a b q : Addr} {ns : List Int} {c : Int} {xs zs : List V} (d : DQ K H H' a b ns c) (h0 : H q = none) (hq : H' q = some (.lst xs)) (nb : b ≠ q) : DQ K H (upd H' q (.lst zs)) a b ns c := ⟨Ch.own h0 d.ch, d.hS.ch hq Ch.put, g_put nb d.hb⟩
theorem DQ.free {K : PySem.W.Frag} {H H' : Hp} {a b q : Addr} {ns : List Int} {c : Int} (d : DQ K H H' a b ns c) (h : H' q = none) : H q = none ∧ b ≠ q := by
  have nb : b ≠ q := ne_of_none d.hb h
  refine ⟨?_, nb⟩
  cases e : H q with
  | none => rfl
  | some o => rw [d.ch.get e (by simpa using nb.symm)] at h; cases h
structure SS (H : Hp) (Pr : Src → Prop) (ss : List Src) (ys : List V) : Prop where
  ex : ∃ qs : List Addr, ys = qs.map V.ref ∧ WsAt H (ss.map srcK) qs
  pr : ∀ s ∈ ss, Pr s
theorem SS.len {H : Hp} {Pr : Src → Prop} {ss : List Src} {ys : List V} (s : SS H Pr ss ys) : ys.length = ss.length := by
  obtain ⟨qs, rfl, w⟩ := s.ex
  have := Paired.length w
  rw [List.length_map] at this ⊢
  exact this.symm
theorem SS.tk {H H' : Hp} {Pr : Src → Prop} {ss : List Src} {ys : List V} (s : SS H Pr ss ys) (t : Tk H H') : SS H' Pr ss ys := ⟨let ⟨qs, e, w⟩ := s.ex; ⟨qs, e, w.imp t⟩, s.pr⟩
theorem SS.nil {H : Hp} {Pr : Src → Prop} : SS H Pr [] [] := ⟨⟨[], rfl, .nil⟩, by simp⟩
theorem SS.snoc {H : Hp} {Pr : Src → Prop} {ss : List Src} {ys : List V} {s : Src} {p : Addr} (t : SS H Pr ss ys) (h : H p = some (.tup ((srcK s).map kV))) (hp : Pr s) : SS H Pr (ss ++ [s]) (ys ++ [.ref p]) := by
  obtain ⟨qs, rfl, w⟩ := t.ex
  refine ⟨⟨qs ++ [p], by simp, ?_⟩, fun x hx => (List.mem_append.mp hx).elim (t.pr x) fun z => by rw [List.mem_singleton.mp z]; exact hp⟩
  rw [List.map_append]
  exact w.snoc h
theorem SS.app {H : Hp} {Pr : Src → Prop} {ss ss' : List Src} {ys ys' : List V} (s : SS H Pr ss ys) (t : SS H Pr ss' ys') : SS H Pr (ss ++ ss') (ys ++ ys') := by
  have k : KC H (ss.map srcK ++ ss'.map srcK) (ys ++ ys') := KC.app ⟨s.ex⟩ ⟨t.ex⟩
  refine ⟨?_, fun x hx => (List.mem_append.mp hx).elim (s.pr x) (t.pr x)⟩
  rw [List.map_append]
  exact k.ex
theorem SS.mod {H : Hp} {Pr : Src → Prop} {ss : List Src} {ys : List V} (s : SS H Pr ss ys) (h0 : 0 < ys.length) (m : Int) : ∃ p r, atI ys (m % (ys.length : Int)) = some (.ref p) ∧ H p = some (.tup ((srcK r).map kV)) ∧ Pr r := by
  have hl := s.len
  have e1 : 0 ≤ m % (ys.length : Int) := Int.emod_nonneg _ (by omega)
  have e2 : m % (ys.length : Int) < (ys.length : Int) := Int.emod_lt_of_pos _ (by omega)
  obtain ⟨qs, rfl, w⟩ := s.ex
  obtain ⟨hh, e3⟩ := atI_get0 e1 e2
  obtain ⟨p, k, g1, g2, g3⟩ := ws_get w _ _ (List.getElem?_eq_getElem hh)
  rw [List.getElem?_map] at g2
  obtain ⟨r, er, rfl⟩ := Option.map_eq_some_iff.mp g2
  exact ⟨p, r, by rw [e3, g1], g3, s.pr r (List.mem_of_getElem? er)⟩
structure KI (K : PySem.W.Frag) (H H' : Hp) (a b : Addr) (ns : List Int) (c : Int) (i : Nat) (ys : List V) : Prop where
  ex : ∃ ks : List Int, ys = ks.map V.int ∧ ks.length = i ∧ ∀ x ∈ ks, x = 0 ∨ x = 1
  d : DQ K H H' a b ns (c + (i : Int))
structure BkG (ins many : Nat) (ks : List Int) (n : Nat) (b : Bk) : Prop where
  ok : b.ok ins many
  kp : b.kept = ks.getD n 0
  ac : ∀ s ∈ b.ss, s.1 = true → ks.getD s.2 0 = 1 ∨ ks.getD n 0 = 1 ∨ s.2 < n
structure PrK (ins many : Nat) (ks : List Int) (n : Nat) (s : Src) : Prop where
  lm : s.2 < lim ins many s
  ac : s.1 = true → ks.getD s.2 0 = 1 ∨ ks.getD n 0 = 1 ∨ s.2 < n
structure BL (H' : Hp) (bl : Addr) (ins many : Nat) (ks : List Int) (bs : List Bk) (ps : List Addr) : Prop where
  hb : H' bl = some (.lst (ps.map V.ref))
  bt : BsAt H' bs ps
  each : ∀ n b, bs[n]? = some b → BkG ins many ks n b
theorem kf_at {ks : List Int} {j : Nat} (h : j < ks.length) : atI (ks.map V.int) (j : Int) = some (.int (ks.getD j 0)) := by
  refine atI_nat ?_
  rw [List.getElem?_map, List.getElem?_eq_getElem h, List.getD_eq_getElem?_getD, List.getElem?_eq_getElem h]
  rfl
theorem BL.acyc {H' : Hp} {bl : Addr} {ins : Nat} {ks : List Int} {bs : List Bk} {ps : List Addr} (s : BL H' bl ins bs.length ks bs ps) : acyc bs := by
  intro n hn m hm
  have ml := ls_loose hm ins fun b hb => by
    obtain ⟨i, hi⟩ := List.getElem?_of_mem hb
    exact (s.each i b hi).ok
  refine ⟨ml, ?_⟩
  obtain ⟨n1, n2⟩ := List.mem_filter.mp hn
  obtain ⟨m1, m2⟩ := List.mem_filter.mp ml
  have n1 : n < bs.length := by simpa using n1
  have m1 : m < bs.length := by simpa using m1
  have en := List.getElem?_eq_getElem n1
  have em := List.getElem?_eq_getElem m1
  have gn := s.each n _ en
  have gm := s.each m _ em
  rw [loB_of en, gn.kp] at n2
  rw [loB_of em, gm.kp] at m2
  have n2 : ks.getD n 0 = 0 := by simpa using n2
  have m2 : ks.getD m 0 = 0 := by simpa using m2
  rw [lsOf_of en] at hm
  obtain ⟨r, hr, rfl⟩ := List.mem_map.mp hm
  obtain ⟨h1, h2⟩ := List.mem_filter.mp hr
  have h3 : r.1 = true := by have : r.1 = true ∧ loB bs r.2 = true := by simpa using h2
                             exact this.1
  rcases gn.ac r h1 h3 with z | z | z
  · omega
  · omega
  · exact z
theorem BL.tk {H H' : Hp} {bl : Addr} {ins many : Nat} {ks : List Int} {bs : List Bk} {ps : List Addr} (s : BL H bl ins many ks bs ps) (t : Tk H H') (h : H' bl = some (.lst (ps.map V.ref))) : BL H' bl ins many ks bs ps := ⟨h, bs_imp t s.bt, s.each⟩
structure SB (H0 H' : Hp) (Pr : Src → Prop) (j : Nat) (ys : List V) : Prop where
  ch : Ch [] H0 H'
  ex : ∃ ss, SS H' Pr ss ys ∧ ss.length ≤ j
theorem SB.add {H0 H' : Hp} {ins many i j : Nat} {ks : List Int} {ys : List V} {T : Addr} (s : SB H0 H' (PrK ins many ks i) j ys) (hT : H' T = none) (hj : j < many) (h : ks.getD j 0 = 1 ∨ ks.getD i 0 = 1 ∨ j < i) : SB H0 (upd H' T (.tup [.str "block", .int (0 + (j : Int))])) (PrK ins many ks i) (j + 1) (ys ++ [.ref T]) := by
  obtain ⟨ss, s1, s2⟩ := s.ex
  have cT : Ch [] H' (upd H' T (.tup [.str "block", .int (0 + (j : Int))])) := Ch.new hT _
  exact ⟨s.ch.trans cT, ss ++ [(true, j)], (s1.tk (tk_new cT)).snoc (s := (true, j)) (by rw [upd_same, Int.zero_add]; rfl) ⟨hj, fun _ => h⟩, by simp; exact s2⟩
theorem SB.skip {H0 H' : Hp} {Pr : Src → Prop} {j : Nat} {ys : List V} (s : SB H0 H' Pr j ys) : SB H0 H' Pr (j + 1) ys := let ⟨ss, s1, s2⟩ := s.ex; ⟨s.ch, ss, s1, by omega⟩
theorem room_at {n : Nat} (h : n ≤ 4) : atI [V.int 2, V.int 4, V.int 16, V.int 256, V.int 65536] (n : Int) = some (.int (room n)) := by
  have e5 : n = 0 ∨ n = 1 ∨ n = 2 ∨ n = 3 ∨ n = 4 := by omega
  rcases e5 with rfl | rfl | rfl | rfl | rfl <;> rfl
theorem room_pos {n : Nat} (h : n ≤ 4) : 0 < room n := by
  have e5 : n = 0 ∨ n = 1 ∨ n = 2 ∨ n = 3 ∨ n = 4 := by omega
  rcases e5 with rfl | rfl | rfl | rfl | rfl <;> decide
theorem BL.add {J : Hp} {bl T : Addr} {ins many : Nat} {ks : List Int} {bs : List Bk} {ps sps : List Addr} {b : Bk} (s : BL J bl ins many ks bs ps) (hT : J T = none) (hsp : J b.sp = some (.tup (sps.map V.ref))) (hw : WsAt J (b.ss.map srcK) sps) (g : BkG ins many ks bs.length b) :
    BL (upd (upd J T (.tup [.ref b.sp, .int b.bits, .int b.kept, .int b.first])) bl (.lst (ps.map V.ref ++ [.ref T]))) bl ins many ks (bs ++ [b]) (ps ++ [T]) := by
  have hb1 : (upd J T (.tup [.ref b.sp, .int b.bits, .int b.kept, .int b.first])) bl = some (.lst (ps.map V.ref)) := g_new hT s.hb
  have tk : Tk J (upd (upd J T (.tup [.ref b.sp, .int b.bits, .int b.kept, .int b.first])) bl (.lst (ps.map V.ref ++ [.ref T]))) := fun p xs h => tk_put hb1 p xs (g_new hT h)
  refine ⟨by rw [upd_same, List.map_append]; rfl, bs_snoc ⟨tk_put hb1 T _ upd_same, sps, tk _ _ hsp, hw.imp tk⟩ (bs_imp tk s.bt), fun n b' h => ?_⟩
  by_cases hn : n < bs.length
  · rw [List.getElem?_append_left hn] at h
    exact s.each n b' h
  · have h2 := (List.getElem?_eq_some_iff.mp h).1
    rw [List.length_append, List.length_singleton] at h2
    have en : n = bs.length := by omega
    subst en
    rw [List.getElem?_append_right (Nat.le_refl _), Nat.sub_self] at h
    cases h
    exact g
theorem bk_made {ins many i : Nat} {ks : List Int} {ss : List Src} {sp : Addr} {m n : Int} {H : Hp} {ys : List V} (s : SS H (PrK ins many ks i) ss ys) (l4 : ss.length ≤ 4) (kb : ks.getD i 0 = 0 ∨ ks.getD i 0 = 1) : BkG ins many ks i ⟨ss, m % room ss.length, ks.getD i 0, ks.getD i 0 * (n % 2), sp⟩ := by
  have rp := room_pos l4
  have h0 : 0 ≤ n % 2 := by omega
  have h1 : n % 2 < 2 := by omega
  refine ⟨⟨l4, fun r hr => (s.pr r hr).lm, Int.emod_nonneg _ (by omega), Int.emod_lt_of_pos _ rp, kb, ?_, ?_⟩, rfl, fun r hr z => (s.pr r hr).ac z⟩
  · show 0 ≤ ks.getD i 0 * (n % 2)
    rcases kb with e | e <;> rw [e] <;> omega
  · show ks.getD i 0 * (n % 2) < ks.getD i 0 + 1
    rcases kb with e | e <;> rw [e] <;> omega
structure PrO (ins many : Nat) (s : Src) : Prop where
  lm : s.2 < lim ins many s
section
variable {P : Program} {w : World} {K : PySem.W.Frag} {mg : Str → Option Value} {base : Heap} {f : Addr} {fd : FuncData} {k : Nat}
theorem gd__law_next : Nd "_law_next" := by decide +kernel
theorem l22_3 : Lc (defScope (top 22)) "_law_ins" := by decide +kernel
theorem g22__law_next : Gi (defScope (top 22)) "_law_next" := by decide +kernel
theorem v22_1 : Vs (defScope (top 22)) "_law_at" := by decide +kernel
theorem d22_1 : Nd "_law_at" := by decide +kernel
theorem c22_1 : Nc "_law_at" := by decide +kernel
theorem v22_0 : Vs (defScope (top 22)) "_law_script" := by decide +kernel
theorem d22_0 : Nd "_law_script" := by decide +kernel
theorem c22_0 : Nc "_law_script" := by decide +kernel
theorem l22_4 : Lc (defScope (top 22)) "_law_many" := by decide +kernel
theorem v22_2 : Vs (defScope (top 22)) "_law_most" := by decide +kernel
theorem d22_2 : Nd "_law_most" := by decide +kernel
theorem c22_2 : Nc "_law_most" := by decide +kernel
theorem l22_5 : Lc (defScope (top 22)) "_law_kept" := by decide +kernel
theorem g22_range : Gi (defScope (top 22)) "range" := by decide +kernel
theorem v22_4 : Vs (defScope (top 22)) "_law_many" := by decide +kernel
theorem d22_4 : Nd "_law_many" := by decide +kernel
theorem c22_4 : Nc "_law_many" := by decide +kernel
def csc22_0 : Scope := { kind := PySem.ScopeKind.function, names := [ (PySem.Str.ofString ".0", PySem.NameKind.local), (PySem.Str.ofString "_law_k", PySem.NameKind.local), (PySem.Str.ofString "_law_next", PySem.NameKind.globalImplicit), (PySem.Str.ofString "_law_at", PySem.NameKind.free), (PySem.Str.ofString "_law_script", PySem.NameKind.free)], isGenerator := false, isCoroutine := false, more := [] : PySem.Scope }
theorem cok22_0 : CompOk csc22_0 (defScope (top 22)) (["_law_k"] : List Str) (["_law_script", "_law_at", "_law_most", "_law_ins", "_law_many", "_law_kept", "_law_blocks", "_law_k", "_law_some", "_law_sources", "_law_j", "_law_room", "_law_outs"] : List Str) [0, 1] (["_law_k", "_law_script", "_law_at"] : List Str) := compOk rfl (by decide +kernel) (by decide +kernel) (by decide +kernel) (by decide +kernel) rfl (by decide +kernel)
theorem kq22_0_0 : (relab csc22_0 (defScope (top 22))).names.lookup (Str.ofString "_law_k") = some NameKind.local := by decide +kernel
theorem gq22_0__law_next : Gi (relab csc22_0 (defScope (top 22))) "_law_next" := by decide +kernel
theorem vq22_0_2 : Vs (relab csc22_0 (defScope (top 22))) "_law_at" := by decide +kernel
theorem dq22_0_2 : Nd "_law_at" := by decide +kernel
theorem cq22_0_2 : Nc "_law_at" := by decide +kernel
theorem vq22_0_1 : Vs (relab csc22_0 (defScope (top 22))) "_law_script" := by decide +kernel
theorem dq22_0_1 : Nd "_law_script" := by decide +kernel
theorem cq22_0_1 : Nc "_law_script" := by decide +kernel
theorem l22_6 : Lc (defScope (top 22)) "_law_blocks" := by decide +kernel
theorem l22_7 : Lc (defScope (top 22)) "_law_k" := by decide +kernel
theorem l22_8 : Lc (defScope (top 22)) "_law_some" := by decide +kernel
theorem v22_3 : Vs (defScope (top 22)) "_law_ins" := by decide +kernel
theorem d22_3 : Nd "_law_ins" := by decide +kernel
theorem c22_3 : Nc "_law_ins" := by decide +kernel
def csc22_1 : Scope := { kind := PySem.ScopeKind.function, names := [(PySem.Str.ofString ".0", PySem.NameKind.local), (PySem.Str.ofString "_law_j", PySem.NameKind.local)], isGenerator := false, isCoroutine := false, more := [] : PySem.Scope }
theorem cok22_1 : CompOk csc22_1 (defScope (top 22)) (["_law_j"] : List Str) (["_law_script", "_law_at", "_law_most", "_law_ins", "_law_many", "_law_kept", "_law_blocks", "_law_k", "_law_some", "_law_sources", "_law_j", "_law_room", "_law_outs"] : List Str) [] (["_law_j"] : List Str) := compOk rfl (by decide +kernel) (by decide +kernel) (by decide +kernel) (by decide +kernel) rfl (by decide +kernel)
theorem kq22_1_0 : (relab csc22_1 (defScope (top 22))).names.lookup (Str.ofString "_law_j") = some NameKind.local := by decide +kernel
theorem vq22_1_0 : Vs (relab csc22_1 (defScope (top 22))) "_law_j" := by decide +kernel
theorem dq22_1_0 : Nd "_law_j" := by decide +kernel
theorem cq22_1_0 : Nc "_law_j" := by decide +kernel
theorem v22_8 : Vs (defScope (top 22)) "_law_some" := by decide +kernel
theorem d22_8 : Nd "_law_some" := by decide +kernel
theorem c22_8 : Nc "_law_some" := by decide +kernel
def csc22_2 : Scope := { kind := PySem.ScopeKind.function, names := [ (PySem.Str.ofString ".0", PySem.NameKind.local), (PySem.Str.ofString "_law_j", PySem.NameKind.local), (PySem.Str.ofString "_law_k", PySem.NameKind.free), (PySem.Str.ofString "_law_kept", PySem.NameKind.free)], isGenerator := false, isCoroutine := false, more := [] : PySem.Scope }
theorem cok22_2 : CompOk csc22_2 (defScope (top 22)) (["_law_j"] : List Str) (["_law_script", "_law_at", "_law_most", "_law_ins", "_law_many", "_law_kept", "_law_blocks", "_law_k", "_law_some", "_law_sources", "_law_j", "_law_room", "_law_outs"] : List Str) [5, 7] (["_law_j", "_law_kept", "_law_k"] : List Str) := compOk rfl (by decide +kernel) (by decide +kernel) (by decide +kernel) (by decide +kernel) rfl (by decide +kernel)
theorem kq22_2_0 : (relab csc22_2 (defScope (top 22))).names.lookup (Str.ofString "_law_j") = some NameKind.local := by decide +kernel
theorem vq22_2_0 : Vs (relab csc22_2 (defScope (top 22))) "_law_j" := by decide +kernel
theorem dq22_2_0 : Nd "_law_j" := by decide +kernel
theorem cq22_2_0 : Nc "_law_j" := by decide +kernel
theorem vq22_2_2 : Vs (relab csc22_2 (defScope (top 22))) "_law_k" := by decide +kernel
theorem dq22_2_2 : Nd "_law_k" := by decide +kernel
theorem cq22_2_2 : Nc "_law_k" := by decide +kernel
theorem vq22_2_1 : Vs (relab csc22_2 (defScope (top 22))) "_law_kept" := by decide +kernel
theorem dq22_2_1 : Nd "_law_kept" := by decide +kernel
theorem cq22_2_1 : Nc "_law_kept" := by decide +kernel
theorem l22_9 : Lc (defScope (top 22)) "_law_sources" := by decide +kernel
theorem l22_10 : Lc (defScope (top 22)) "_law_j" := by decide +kernel
theorem g22_len : Gi (defScope (top 22)) "len" := by decide +kernel
theorem v22_9 : Vs (defScope (top 22)) "_law_sources" := by decide +kernel
theorem d22_9 : Nd "_law_sources" := by decide +kernel
theorem c22_9 : Nc "_law_sources" := by decide +kernel
theorem l22_11 : Lc (defScope (top 22)) "_law_room" := by decide +kernel
theorem v22_6 : Vs (defScope (top 22)) "_law_blocks" := by decide +kernel
theorem d22_6 : Nd "_law_blocks" := by decide +kernel
theorem c22_6 : Nc "_law_blocks" := by decide +kernel
theorem v22_5 : Vs (defScope (top 22)) "_law_kept" := by decide +kernel
theorem d22_5 : Nd "_law_kept" := by decide +kernel
theorem c22_5 : Nc "_law_kept" := by decide +kernel
theorem v22_7 : Vs (defScope (top 22)) "_law_k" := by decide +kernel
theorem d22_7 : Nd "_law_k" := by decide +kernel
theorem c22_7 : Nc "_law_k" := by decide +kernel
theorem v22_11 : Vs (defScope (top 22)) "_law_room" := by decide +kernel
theorem d22_11 : Nd "_law_room" := by decide +kernel
theorem c22_11 : Nc "_law_room" := by decide +kernel
theorem g22_tuple : Gi (defScope (top 22)) "tuple" := by decide +kernel
def csc22_3 : Scope := { kind := PySem.ScopeKind.function, names := [(PySem.Str.ofString ".0", PySem.NameKind.local), (PySem.Str.ofString "_law_j", PySem.NameKind.local)], isGenerator := false, isCoroutine := false, more := [] : PySem.Scope }
theorem cok22_3 : CompOk csc22_3 (defScope (top 22)) (["_law_j"] : List Str) (["_law_script", "_law_at", "_law_most", "_law_ins", "_law_many", "_law_kept", "_law_blocks", "_law_k", "_law_some", "_law_sources", "_law_j", "_law_room", "_law_outs"] : List Str) [] (["_law_j"] : List Str) := compOk rfl (by decide +kernel) (by decide +kernel) (by decide +kernel) (by decide +kernel) rfl (by decide +kernel)
theorem kq22_3_0 : (relab csc22_3 (defScope (top 22))).names.lookup (Str.ofString "_law_j") = some NameKind.local := by decide +kernel
theorem vq22_3_0 : Vs (relab csc22_3 (defScope (top 22))) "_law_j" := by decide +kernel
theorem dq22_3_0 : Nd "_law_j" := by decide +kernel
theorem cq22_3_0 : Nc "_law_j" := by decide +kernel
def csc22_4 : Scope := { kind := PySem.ScopeKind.function, names := [(PySem.Str.ofString ".0", PySem.NameKind.local), (PySem.Str.ofString "_law_j", PySem.NameKind.local)], isGenerator := false, isCoroutine := false, more := [] : PySem.Scope }
theorem cok22_4 : CompOk csc22_4 (defScope (top 22)) (["_law_j"] : List Str) (["_law_script", "_law_at", "_law_most", "_law_ins", "_law_many", "_law_kept", "_law_blocks", "_law_k", "_law_some", "_law_sources", "_law_j", "_law_room", "_law_outs"] : List Str) [] (["_law_j"] : List Str) := compOk rfl (by decide +kernel) (by decide +kernel) (by decide +kernel) (by decide +kernel) rfl (by decide +kernel)
theorem kq22_4_0 : (relab csc22_4 (defScope (top 22))).names.lookup (Str.ofString "_law_j") = some NameKind.local := by decide +kernel
theorem vq22_4_0 : Vs (relab csc22_4 (defScope (top 22))) "_law_j" := by decide +kernel
theorem dq22_4_0 : Nd "_law_j" := by decide +kernel
theorem cq22_4_0 : Nc "_law_j" := by decide +kernel
theorem l22_12 : Lc (defScope (top 22)) "_law_outs" := by decide +kernel
theorem v22_12 : Vs (defScope (top 22)) "_law_outs" := by decide +kernel
theorem d22_12 : Nd "_law_outs" := by decide +kernel
theorem c22_12 : Nc "_law_outs" := by decide +kernel
def spDraw (K : PySem.W.Frag) : Sp := fun vs H Q _ => ∃ (a b : Addr) (ns : List Int) (c : Int), vs = [.ref a, .ref b, .int 8] ∧ Scr K H a ns ∧ H b = some (.lst [.int c]) ∧ 0 ≤ c ∧ c < 2 ^ 50 ∧
  ∀ (wy bl ol : Addr) (ins : Nat) (bs : List Bk) (ps : List Addr) (os : List Src) (ops : List Addr) (c' : Int) (H' : Hp), DQ K H H' a b ns c' → 0 ≤ c' → c' ≤ c + 1000 → H' wy = some (.tup [.int (ins : Int), .ref bl, .ref ol]) → Pk H' bl ol ins bs ps os ops → ins ≤ 20 → bs.length ≤ 20 → os.length ≤ 20 → b ≠ bl → b ≠ ol → Q (.ref wy) H'
theorem scDraw : FnScope ["_law_script", "_law_at", "_law_most", "_law_ins", "_law_many", "_law_kept", "_law_blocks", "_law_k", "_law_some", "_law_sources", "_law_j", "_law_room", "_law_outs"] ["_law_script", "_law_at", "_law_most"] (defScope (top 22)) := ⟨rfl, rfl, rfl, by decide +kernel, rfl, by decide +kernel, by decide +kernel⟩
theorem ok_draw (F : Fun K "_law_pack" "_law_pack" (top 22) f fd) (D_law_next : DefOk P w K mg base CX0 k "_law_next" ["_law_script", "_law_at"] (spNext K)) (z_len : mg "len" = none) (z_range : mg "range" = none) (z_tuple : mg "tuple" = none) :
    FnOk P w K mg base CX0 (k + 1) f fd ["_law_script", "_law_at", "_law_most"] (spDraw K) := by
  have nd := scDraw.nd
  refine F.ok scDraw (fun vs H Q E h => by obtain ⟨a, b, ns, c, rfl, _⟩ := h; rfl) (fun cdv A outer s H vs Q E hr h => ?_)
  obtain ⟨a, b, ns, c, rfl, hS, hb, c0, c1, q⟩ := h
  refine ⟨_, (Pr.h (qpss_cons (qps_set (i := 3) nd rfl l22_3 (qpe_op op_mod (qpe_callD D_law_next hr g22__law_next pass0 (qpa_cons (qpe_var (i := 0) rfl v22_0 d22_0 c22_0) (qpa_cons (qpe_var (i := 1) rfl v22_1 d22_1 c22_1) qpa_nil se_Name) se_Name) gd__law_next) qpe_int))
 (qpss_cons (qps_set (i := 4) nd rfl l22_4 (qpe_op op_mod (qpe_callD D_law_next hr g22__law_next pass0 (qpa_cons (qpe_var (i := 0) rfl v22_0 d22_0 c22_0) (qpa_cons (qpe_var (i := 1) rfl v22_1 d22_1 c22_1) qpa_nil se_Name) se_Name) gd__law_next) (qpe_op op_add (qpe_var (i := 2) rfl v22_2 d22_2 c22_2) qpe_int)))
 (qpss_cons (qps_set (i := 5) nd rfl l22_5 (qpe_comp rfl cok22_0 (qpi_range1 g22_range z_range (qpa_cons (qpe_var (i := 4) rfl v22_4 d22_4 c22_4) qpa_nil se_Name)) (fun _ _ _ _ _ => (qpg_name (i := 0) cok22_0.nd rfl (Or.inl kq22_0_0) (Or.inr kq22_0_0))) (fun _ _ _ _ _ => qpif_nil) (fun _ _ _ _ _ => (qpe_op op_fdivW (qpe_op op_mod (qpe_callD D_law_next hr gq22_0__law_next pass0 (qpa_cons (qpe_var (i := 1) rfl vq22_0_1 dq22_0_1 cq22_0_1) (qpa_cons (qpe_var (i := 2) rfl vq22_0_2 dq22_0_2 cq22_0_2) qpa_nil se_Name) se_Name) gd__law_next) qpe_int) qpe_int))))
 (qpss_cons (qps_set (i := 6) nd rfl l22_6 (qpe_lst qpa_nil))
 (qpss_cons (qps_loop PassesOwn.never rfl (qpi_range1 g22_range z_range (qpa_cons (qpe_var (i := 4) rfl v22_4 d22_4 c22_4) qpa_nil se_Name)) (qpg_name (i := 7) nd rfl l22_7)
  (qpss_cons (qps_setC (i := 8) nd rfl l22_8 rfl cok22_1 (qpi_range1 g22_range z_range (qpa_cons (qpe_var (i := 3) rfl v22_3 d22_3 c22_3) qpa_nil se_Name)) (fun _ _ _ _ _ => (qpg_name (i := 0) cok22_1.nd rfl (Or.inl kq22_1_0) (Or.inr kq22_1_0))) (fun _ _ _ _ _ => qpif_nil) (fun _ _ _ _ _ => (qpe_tup (qpa_cons qpe_str (qpa_cons (qpe_var (i := 0) rfl vq22_1_0 dq22_1_0 cq22_1_0) qpa_nil se_Name) se_Constant))) rfl)
 (qpss_cons (qps_set (i := 8) nd rfl l22_8 (qpe_op op_cat (qpe_var (i := 8) rfl v22_8 d22_8 c22_8) (qpe_comp rfl cok22_2 (qpi_range1 g22_range z_range (qpa_cons (qpe_var (i := 4) rfl v22_4 d22_4 c22_4) qpa_nil se_Name)) (fun _ _ _ _ _ => (qpg_name (i := 0) cok22_2.nd rfl (Or.inl kq22_2_0) (Or.inr kq22_2_0))) (fun _ _ _ _ _ => (qpif_one (qPW_pt (qpw_or (qpt_cmpR op_eq (qpe_ix (ixaK_list K rfl) (qpe_var (i := 1) rfl vq22_2_1 dq22_2_1 cq22_2_1) (qpe_var (i := 0) rfl vq22_2_0 dq22_2_0 cq22_2_0) (fun _ _ => rfl)) qpe_int (nomark _)) (qpw_or (qpt_cmpR op_eq (qpe_ix (ixaK_list K rfl) (qpe_var (i := 1) rfl vq22_2_1 dq22_2_1 cq22_2_1) (qpe_var (i := 2) rfl vq22_2_2 dq22_2_2 cq22_2_2) (fun _ _ => rfl)) qpe_int (nomark _)) (qpw_or1 (qpt_cmpR op_lt (qpe_var (i := 0) rfl vq22_2_0 dq22_2_0 cq22_2_0) (qpe_var (i := 2) rfl vq22_2_2 dq22_2_2 cq22_2_2) (nomark _)))))))) (fun _ _ _ _ _ => (qpe_tup (qpa_cons qpe_str (qpa_cons (qpe_var (i := 0) rfl vq22_2_0 dq22_2_0 cq22_2_0) qpa_nil se_Name) se_Constant))))))
 (qpss_cut (qps_set (i := 9) nd rfl l22_9 (qpe_lst qpa_nil))
 (qpss_cons (qps_loop PassesOwn.never rfl (qpi_range1 g22_range z_range (qpa_cons (qpe_op op_mod (qpe_callD D_law_next hr g22__law_next pass0 (qpa_cons (qpe_var (i := 0) rfl v22_0 d22_0 c22_0) (qpa_cons (qpe_var (i := 1) rfl v22_1 d22_1 c22_1) qpa_nil se_Name) se_Name) gd__law_next) qpe_int) qpa_nil se_BinOp)) (qpg_name (i := 10) nd rfl l22_10)
  (qpss_one (qps_if (qpt_cmpR op_gt (qpe_callB call_len_seq g22_len z_len PySem.boot_len (qpa_cons (qpe_var (i := 8) rfl v22_8 d22_8 c22_8) qpa_nil se_Name) nn_len gd_len) qpe_int (nomark _))
  (qpss_one (qps_expr (qpe_bm PySem.F.plainAttrs_list PySem.F.slot_list_append PySem.F.type_list_append mt_append (qpe_var (i := 9) rfl v22_9 d22_9 c22_9) (qpa_cons (qpe_ix ixa_list (qpe_var (i := 8) rfl v22_8 d22_8 c22_8) (qpe_op op_mod (qpe_callD D_law_next hr g22__law_next pass0 (qpa_cons (qpe_var (i := 0) rfl v22_0 d22_0 c22_0) (qpa_cons (qpe_var (i := 1) rfl v22_1 d22_1 c22_1) qpa_nil se_Name) se_Name) gd__law_next) (qpe_callB call_len_seq g22_len z_len PySem.boot_len (qpa_cons (qpe_var (i := 8) rfl v22_8 d22_8 c22_8) qpa_nil se_Name) nn_len gd_len)) (fun _ _ => rfl)) qpa_nil se_Subscript))))
  qpss_nil)))
 (qpss_cons (qps_set (i := 11) nd rfl l22_11 (qpe_ix ixa_list (qpe_lst (qpa_cons qpe_int (qpa_cons qpe_int (qpa_cons qpe_int (qpa_cons qpe_int (qpa_cons qpe_int qpa_nil se_Constant) se_Constant) se_Constant) se_Constant) se_Constant)) (qpe_callB call_len_seq g22_len z_len PySem.boot_len (qpa_cons (qpe_var (i := 9) rfl v22_9 d22_9 c22_9) qpa_nil se_Name) nn_len gd_len) (fun _ _ => rfl)))
 (qpss_one (qps_expr (qpe_bm PySem.F.plainAttrs_list PySem.F.slot_list_append PySem.F.type_list_append mt_append (qpe_var (i := 6) rfl v22_6 d22_6 c22_6) (qpa_cons (qpe_tup (qpa_cons (qpe_callTy call_tuple_of g22_tuple z_tuple bo_tuple (qpa_cons (qpe_var (i := 9) rfl v22_9 d22_9 c22_9) qpa_nil se_Name) nn_tuple gd_tuple) (qpa_cons (qpe_op op_mod (qpe_callD D_law_next hr g22__law_next pass0 (qpa_cons (qpe_var (i := 0) rfl v22_0 d22_0 c22_0) (qpa_cons (qpe_var (i := 1) rfl v22_1 d22_1 c22_1) qpa_nil se_Name) se_Name) gd__law_next) (qpe_var (i := 11) rfl v22_11 d22_11 c22_11)) (qpa_cons (qpe_ix ixa_list (qpe_var (i := 5) rfl v22_5 d22_5 c22_5) (qpe_var (i := 7) rfl v22_7 d22_7 c22_7) (fun _ _ => rfl)) (qpa_cons (qpe_op op_mul (qpe_ix ixa_list (qpe_var (i := 5) rfl v22_5 d22_5 c22_5) (qpe_var (i := 7) rfl v22_7 d22_7 c22_7) (fun _ _ => rfl)) (qpe_op op_mod (qpe_callD D_law_next hr g22__law_next pass0 (qpa_cons (qpe_var (i := 0) rfl v22_0 d22_0 c22_0) (qpa_cons (qpe_var (i := 1) rfl v22_1 d22_1 c22_1) qpa_nil se_Name) se_Name) gd__law_next) qpe_int)) qpa_nil se_BinOp) se_Subscript) se_BinOp) se_Call)) qpa_nil se_Tuple))))))))))
 (qpss_cons (qps_set (i := 8) nd rfl l22_8 (qpe_op op_cat (qpe_comp rfl cok22_3 (qpi_range1 g22_range z_range (qpa_cons (qpe_var (i := 3) rfl v22_3 d22_3 c22_3) qpa_nil se_Name)) (fun _ _ _ _ _ => (qpg_name (i := 0) cok22_3.nd rfl (Or.inl kq22_3_0) (Or.inr kq22_3_0))) (fun _ _ _ _ _ => qpif_nil) (fun _ _ _ _ _ => (qpe_tup (qpa_cons qpe_str (qpa_cons (qpe_var (i := 0) rfl vq22_3_0 dq22_3_0 cq22_3_0) qpa_nil se_Name) se_Constant)))) (qpe_comp rfl cok22_4 (qpi_range1 g22_range z_range (qpa_cons (qpe_var (i := 4) rfl v22_4 d22_4 c22_4) qpa_nil se_Name)) (fun _ _ _ _ _ => (qpg_name (i := 0) cok22_4.nd rfl (Or.inl kq22_4_0) (Or.inr kq22_4_0))) (fun _ _ _ _ _ => qpif_nil) (fun _ _ _ _ _ => (qpe_tup (qpa_cons qpe_str (qpa_cons (qpe_var (i := 0) rfl vq22_4_0 dq22_4_0 cq22_4_0) qpa_nil se_Name) se_Constant))))))
 (qpss_cut (qps_set (i := 12) nd rfl l22_12 (qpe_lst qpa_nil))
 (qpss_cons (qps_loop PassesOwn.never rfl (qpi_range1 g22_range z_range (qpa_cons (qpe_op op_mod (qpe_callD D_law_next hr g22__law_next pass0 (qpa_cons (qpe_var (i := 0) rfl v22_0 d22_0 c22_0) (qpa_cons (qpe_var (i := 1) rfl v22_1 d22_1 c22_1) qpa_nil se_Name) se_Name) gd__law_next) qpe_int) qpa_nil se_BinOp)) (qpg_name (i := 7) nd rfl l22_7)
  (qpss_one (qps_if (qpt_cmpR op_gt (qpe_callB call_len_seq g22_len z_len PySem.boot_len (qpa_cons (qpe_var (i := 8) rfl v22_8 d22_8 c22_8) qpa_nil se_Name) nn_len gd_len) qpe_int (nomark _))
  (qpss_one (qps_expr (qpe_bm PySem.F.plainAttrs_list PySem.F.slot_list_append PySem.F.type_list_append mt_append (qpe_var (i := 12) rfl v22_12 d22_12 c22_12) (qpa_cons (qpe_ix ixa_list (qpe_var (i := 8) rfl v22_8 d22_8 c22_8) (qpe_op op_mod (qpe_callD D_law_next hr g22__law_next pass0 (qpa_cons (qpe_var (i := 0) rfl v22_0 d22_0 c22_0) (qpa_cons (qpe_var (i := 1) rfl v22_1 d22_1 c22_1) qpa_nil se_Name) se_Name) gd__law_next) (qpe_callB call_len_seq g22_len z_len PySem.boot_len (qpa_cons (qpe_var (i := 8) rfl v22_8 d22_8 c22_8) qpa_nil se_Name) nn_len gd_len)) (fun _ _ => rfl)) qpa_nil se_Subscript))))
  qpss_nil)))
 (qpss_one (qps_ret (qpe_tup (qpa_cons (qpe_var (i := 3) rfl v22_3 d22_3 c22_3) (qpa_cons (qpe_var (i := 6) rfl v22_6 d22_6 c22_6) (qpa_cons (qpe_var (i := 12) rfl v22_12 d22_12 c22_12) qpa_nil se_Name) se_Name) se_Name))))))))))))), ?_⟩
  (try dsimp only [cxOf])
  walk_at "rd"
  rename_i n1 G1 p1 p2 d1 e1 n2 G2 p3 p4 d2 e2
  have D2 : DQ K H G2 a b ns (c + 1 + 1) := (DQ.next (c := c) ⟨Ch.refl _ _, hS, hb⟩ d1 e1).next d2 e2
  clear d1 e1 d2 e2 p1 p2 p3 p4
  have m0 : 0 ≤ n2 % (8 + 1) := by omega
  have m1 : n2 % (8 + 1) < 9 := by omega
  refine comp_range (fun i ys σ H' => (∃ u, σ = [u, some (.ref a), some (.ref b)]) ∧ KI K H H' a b ns (c + 1 + 1) i ys) (by rw [sizeLine_eq]; omega) ⟨⟨_, rfl⟩, ⟨[], rfl, rfl, by simp⟩, by simpa using D2⟩ ?_ ?_ ?_
  · rintro i ys σ H' hi ⟨_, ⟨ks, rfl, rfl, _⟩, _⟩
    simp
  · rintro i ys σ H' hi ⟨⟨u, rfl⟩, ⟨ks, rfl, hl, hn⟩, d⟩
    obtain ⟨ch, hS', hb'⟩ := id d
    have hi9 : i < 9 := by omega
    walk_at "rd"
    rename_i n G n0 n1 d' e
    refine ⟨⟨_, rfl⟩, ⟨ks ++ [n % 3 / 2], by simp, by simp [hl], fun x hx => ?_⟩, d.next d' (by rw [e, show c + 1 + 1 + ((i + 1 : Nat) : Int) = c + 1 + 1 + (i : Int) + 1 from by omega])⟩
    rcases List.mem_append.mp hx with hx | hx
    · exact hn x hx
    · rw [List.mem_singleton.mp hx]; omega
  rintro ys σ G3 ⟨_, ⟨ks, rfl, hkl, hk01⟩, D3⟩
  obtain ⟨ins, hi⟩ : ∃ ins : Nat, n1 % 4 = (ins : Int) := ⟨(n1 % 4).toNat, by omega⟩
  obtain ⟨many, hm⟩ : ∃ many : Nat, n2 % (8 + 1) = (many : Int) := ⟨(n2 % (8 + 1)).toNat, by omega⟩
  rw [hm, Int.toNat_natCast] at hkl D3
  have i4 : ins ≤ 3 := by omega
  have m9 : many ≤ 8 := by omega
  intro kl hkl0
  have cK : Ch [] G3 (upd G3 kl (.lst (ks.map V.int))) := Ch.new hkl0 _
  have D4 := D3.new cK
  have gk4 : (upd G3 kl (.lst (ks.map V.int))) kl = some (.lst (ks.map V.int)) := upd_same
  have nkb : kl ≠ b := (ne_of_none D3.hb hkl0).symm
  show tSeq _ _ _ [some (.ref a), some (.ref b), some (.int 8), some (.int (n1 % 4)), some (.int (n2 % (8 + 1))), some (.ref kl), none, none, none, none, none, none, none] (upd G3 kl (.lst (ks.map V.int)))
  rw [hi, hm]
  generalize upd G3 kl (.lst (ks.map V.int)) = G4 at D4 gk4 ⊢
  clear cK D3 hkl0 D2 hi hm m0 m1
  walk_at "rd"
  rename_i bl hbl
  obtain ⟨hbl0, nbb⟩ := D4.free hbl
  have nkl : kl ≠ bl := ne_of_none gk4 hbl
  refine loop_range (fun i σ H' => ∃ (u7 u8 u9 u10 u11 : Option V) (bs : List Bk) (ps : List Addr) (c' : Int), σ = [some (.ref a), some (.ref b), some (.int 8), some (.int (ins : Int)), some (.int (many : Int)), some (.ref kl), some (.ref bl), u7, u8, u9, u10, u11, none] ∧ DQ K H H' a b ns c' ∧ 0 ≤ c' ∧ c' ≤ c + 20 + 10 * (i : Int) ∧ H' kl = some (.lst (ks.map V.int)) ∧ BL H' bl ins many ks bs ps ∧ bs.length = i)
    ⟨_, _, _, _, _, [], [], _, rfl, D4.new (Ch.new hbl _), by omega, by omega, g_new hbl gk4, ⟨upd_same, .nil, by simp⟩, rfl⟩ ?_ ?_
  · clear D4 gk4 hbl
    rintro i σ H1 hi ⟨u7, u8, u9, u10, u11, bs, ps, c', rfl, D5, c0', c1', gk5, B5, bi⟩
    have hi9 : i < many := by simpa using hi
    have ik := kf_at (ks := ks) (j := i) (by omega)
    walk_at "rd"
    refine comp_range (fun j ys σ H' => Ch [] H1 H' ∧ SS H' (PrK ins many ks i) ((List.range j).map fun n => (false, n)) ys ∧ ∃ u, σ = [u]) (by rw [sizeLine_eq, Int.toNat_natCast]; omega) ⟨Ch.refl _ _, .nil, _, rfl⟩ ?_ ?_ ?_
    · rintro j ys σ H' hj ⟨_, ss, _⟩
      rw [ss.len]; simp
    · rintro j ys σ H' hj ⟨c2, ss, u, rfl⟩
      have hj : j < ins := by simpa using hj
      walk_at "rd"
      rename_i T hT
      have cT : Ch [] H' (upd H' T (.tup [.str "in", .int (0 + (j : Int))])) := Ch.new hT _
      refine ⟨?_, _, rfl⟩
      rw [List.range_succ, List.map_append]
      exact (ss.tk (tk_new cT)).snoc (s := (false, j)) (by rw [upd_same, Int.zero_add]; rfl) ⟨hj, fun z => by cases z⟩
    rintro zs σ H2 ⟨c2, ss2, _⟩
    intro s1 hs1
    have cS : Ch [] H1 (upd H2 s1 (.lst zs)) := c2.trans (Ch.new hs1 _)
    have D6 := D5.new cS
    have gk6 := cS.get gk5 (by simp)
    have B6 := B5.tk (tk_new cS) (cS.get B5.hb (by simp))
    have ss6 := ss2.tk (tk_new (Ch.new (o := .lst zs) hs1))
    have gs6 : (upd H2 s1 (.lst zs)) s1 = some (.lst zs) := upd_same
    have lz := ss2.len
    rw [List.length_map, List.length_range, Int.toNat_natCast] at lz
    show tSeq _ _ _ _ (upd H2 s1 (.lst zs))
    generalize upd H2 s1 (.lst zs) = H6 at D6 gk6 B6 ss6 gs6 ⊢
    clear D5 gk5 B5 c2 ss2 hs1 cS
    walk_at "rd"
    refine comp_range (fun j ys σ H' => SB H6 H' (PrK ins many ks i) j ys ∧ ∃ u, σ = [u, some (.ref kl), some (.int (0 + (i : Int)))]) (by rw [sizeLine_eq, Int.toNat_natCast]; omega) ⟨⟨Ch.refl _ _, [], .nil, by simp⟩, _, rfl⟩ ?_ ?_ ?_
    · rintro j ys σ H' hj ⟨sb, _⟩
      obtain ⟨ss, s1, s2⟩ := sb.ex
      rw [s1.len]; exact s2
    · rintro j ys σ H' hj ⟨sb, u, rfl⟩
      have hj : j < many := by simpa using hj
      have jk : atI (ks.map V.int) (0 + (j : Int)) = some (.int (ks.getD j 0)) := by rw [Int.zero_add]; exact kf_at (by omega)
      have ik : atI (ks.map V.int) (0 + (i : Int)) = some (.int (ks.getD i 0)) := by rw [Int.zero_add]; exact ik
      have gk7 := sb.ch.get gk6 (by simp)
      walk_at "rd"
      refine ite2 (fun h => ?_) (fun h => ?_)
      · have h : ks.getD j 0 = 1 := by simpa using h
        walk_at "rd"
        exact ⟨sb.add (by assumption) hj (.inl h), _, rfl⟩
      · walk_at "rd"
        refine ite2 (fun h => ?_) (fun h => ?_)
        · have h : ks.getD i 0 = 1 := by simpa using h
          walk_at "rd"
          exact ⟨sb.add (by assumption) hj (.inr (.inl h)), _, rfl⟩
        · walk_at "rd"
          refine ite2 (fun h => ?_) (fun h => ?_)
          · have h : j < i := by have : 0 + (j : Int) < 0 + (i : Int) := by simpa using h
                                 omega
            walk_at "rd"
            exact ⟨sb.add (by assumption) hj (.inr (.inr h)), _, rfl⟩
          · exact ⟨sb.skip, _, rfl⟩
    rintro ys σ H7 ⟨sb, _⟩
    obtain ⟨ss7, s7, l7⟩ := sb.ex
    rw [Int.toNat_natCast] at l7
    intro D hD
    have cS : Ch [] H6 (upd H7 D (.lst ys)) := sb.ch.trans (Ch.new hD _)
    have D8 := D6.new cS
    have gk8 := cS.get gk6 (by simp)
    have B8 := B6.tk (tk_new cS) (cS.get B6.hb (by simp))
    have t8 := (ss6.tk (tk_new cS)).app (s7.tk (tk_new (Ch.new (o := .lst ys) hD)))
    have gs8 := cS.get gs6 (by simp)
    have gD8 : (upd H7 D (.lst ys)) D = some (.lst ys) := upd_same
    have ly := s7.len
    generalize upd H7 D (.lst ys) = H8 at D8 gk8 B8 t8 gs8 gD8 ⊢
    clear D6 gk6 B6 ss6 gs6 hD cS s7 sb
    have lyz : zs.length + ys.length ≤ 40 := by rw [lz, ly]; omega
    walk_at "rd"
    rename_i sm hsm
    refine cut_by (fun σ H' => ∃ (sl : Addr), σ = [some (.ref a), some (.ref b), some (.int 8), some (.int (ins : Int)), some (.int (many : Int)), some (.ref kl), some (.ref bl), some (.int (0 + (i : Int))), some (.ref sm), some (.ref sl), u10, u11, none] ∧ Ch [] H8 H' ∧ H' sm = some (.lst (zs ++ ys)) ∧ H' sl = some (.lst []) ∧ H8 sl = none ∧ sm ≠ sl) ?_ ?_
    · walk_at "rd"
      rename_i sl hsl
      exact ⟨freeN hsm hsl, fun z => by rw [← z, upd_same] at hsl; cases hsl⟩
    · rintro σ' H9 ⟨sl, rfl, c9, gm9, gl9, fl, nms⟩
      have D9 := D8.new c9
      have gk9 := c9.get gk8 (by simp)
      have B9 := B8.tk (tk_new c9) (c9.get B8.hb (by simp))
      have t9 := t8.tk (tk_new c9)
      obtain ⟨fl0, nsb⟩ := D8.free fl
      have nsk : kl ≠ sl := ne_of_none gk8 fl
      have nsl : bl ≠ sl := ne_of_none B8.hb fl
      have lm : (zs ++ ys).length ≤ 40 := by rw [List.length_append]; exact lyz
      generalize zs ++ ys = ws at gm9 t9 lm
      have nmb : sm ≠ b := (ne_of_none D8.hb hsm).symm
      clear D8 gk8 B8 t8 c9 gs8 gD8 hsm fl lyz
      obtain ⟨_, hS9, hb9⟩ := id D9
      walk_at "rd"
      rename_i n3 G3 q1 q2 d3 e3
      generalize hws : (List.range (ins : Int).toNat).map (fun n => ((false, n) : Src)) ++ ss7 = wss at t9
      have tk3 := tk_ch hb9 d3
      refine loop_range (fun j σ H' => ∃ (u10 : Option V) (ss : List Src) (ys : List V) (c2 : Int), σ = [some (.ref a), some (.ref b), some (.int 8), some (.int (ins : Int)), some (.int (many : Int)), some (.ref kl), some (.ref bl), some (.int (0 + (i : Int))), some (.ref sm), some (.ref sl), u10, u11, none] ∧ DQ K H H' a b ns c2 ∧ c' + 1 ≤ c2 ∧ c2 ≤ c' + 1 + (j : Int) ∧ H' kl = some (.lst (ks.map V.int)) ∧ BL H' bl ins many ks bs ps ∧ H' sm = some (.lst ws) ∧ SS H' (PrK ins many ks i) wss ws ∧ H' sl = some (.lst ys) ∧ SS H' (PrK ins many ks i) ss ys ∧ ss.length ≤ j)
        ⟨_, [], [], _, rfl, D9.next d3 e3, by omega, by omega, d3.get gk9 (by simpa using nkb), B9.tk tk3 (d3.get B9.hb (by simpa using nbb.symm)), d3.get gm9 (by simpa using nmb), t9.tk tk3, d3.get gl9 (by simpa using nsb.symm), .nil, by simp⟩ ?_ ?_
      · clear D9 gk9 B9 gm9 t9 gl9 hS9 hb9 d3 e3 tk3
        rintro j σ H1 hj ⟨u10, ss, ys, c2, rfl, DA, k0, k1, gkA, BA, gmA, tA, glA, sA, lA⟩
        obtain ⟨_, hSA, hbA⟩ := id DA
        have hj5 : j < 5 := by omega
        have lA2 := sA.len
        have lyA : ys.length < sizeLine := by rw [sizeLine_eq]; omega
        have glA' := glA
        have hbA' := hbA
        walk_at "rd"
        refine ite2 (fun h => ?_) (fun h => ?_)
        · have h : 0 < ws.length := by simpa using h
          walk_at "rd"
          rename_i n G m0 m1 d e
          have tkG := tk_ch hbA d
          obtain ⟨p, r, g1, g2, g3⟩ := (tA.tk tkG).mod h n
          have glG : G sl = some (.lst ys) := d.get glA (by simpa using nsb.symm)
          have DG := DA.next d e
          have tk2 : Tk H1 (upd G sl (.lst (ys ++ [.ref p]))) := fun q xs hq => tk_put glG q xs (tkG q xs hq)
          refine Atx.of g1 ?_
          clear glA glA' lA2
          walk_at "rd"
          exact ⟨DG.own fl0 glG nsb, by omega, by omega, g_put nsk (d.get gkA (by simpa using nkb)), BA.tk tk2 (g_put nsl (d.get BA.hb (by simpa using nbb.symm))), g_put nms (d.get gmA (by simpa using nmb)), tA.tk tk2, upd_same, (sA.tk tk2).snoc (tk_put glG p _ g2) g3, by simp; omega⟩
        · walk_at "rd"
          omega
      · clear D9 gk9 B9 gm9 t9 gl9 hS9 hb9 d3 e3 tk3
        rintro σ H1 ⟨u10, ss, ys, c2, rfl, DA, k0, k1, gkA, BA, gmA, tA, glA, sA, lA⟩
        obtain ⟨_, hSA, hbA⟩ := id DA
        have l4 : ss.length ≤ 4 := by omega
        have lA2 := sA.len
        have rt : atI [V.int 2, V.int 4, V.int 16, V.int 256, V.int 65536] (ys.length : Int) = some (.int (room ss.length)) := by rw [lA2]; exact room_at l4
        have rp := room_pos l4
        have ik0 : atI (ks.map V.int) (0 + (i : Int)) = some (.int (ks.getD i 0)) := by rw [Int.zero_add]; exact ik
        have kb : ks.getD i 0 = 0 ∨ ks.getD i 0 = 1 := hk01 _ (by rw [List.getD_eq_getElem?_getD, List.getElem?_eq_getElem (by omega)]; exact List.getElem_mem _)
        have kb0 : 0 ≤ ks.getD i 0 := by omega
        have kb1 : ks.getD i 0 ≤ 1 := by omega
        have hB := BA.hb
        have lps := Paired.length BA.bt
        have lpz : (ps.map V.ref).length < sizeLine := by rw [List.length_map, sizeLine_eq]; omega
        have hbA' := hbA
        walk_at "rd"
        rename_i rl hrl sp hsp n4 J1 a0 a1 d4 e4 n5 J2 a2 a3 d5 e5 T hT
        have cx : Ch [] H1 (upd (upd H1 rl (.lst [.int 2, .int 4, .int 16, .int 256, .int 65536])) sp (.tup ys)) := (Ch.new hrl _).trans (Ch.new hsp _)
        have DX := DA.new cx
        have DY := DX.next d4 e4
        have DZ := DY.next d5 e5
        have tk4 := tk_ch DX.hb d4
        have tk5 := tk_ch DY.hb d5
        have tkz : Tk H1 J2 := fun p xs h => tk5 p xs (tk4 p xs (tk_new cx p xs h))
        have gspz : J2 sp = some (.tup ys) := tk5 _ _ (tk4 _ _ upd_same)
        have gkz : J2 kl = some (.lst (ks.map V.int)) := d5.get (d4.get (cx.get gkA (by simp)) (by simpa using nkb)) (by simpa using nkb)
        have gbz : J2 bl = some (.lst (ps.map V.ref)) := d5.get (d4.get (cx.get hB (by simp)) (by simpa using nbb.symm)) (by simpa using nbb.symm)
        obtain ⟨qs, rfl, hw⟩ := sA.ex
        have DT := (DZ.new (Ch.new (o := .tup [.ref sp, .int (n4 % room ss.length), .int (ks.getD i 0), .int (ks.getD i 0 * (n5 % 2))]) hT)).own (zs := ps.map V.ref ++ [.ref T]) hbl0 (g_new hT gbz) nbb
        refine ⟨DT, by omega, by omega, g_put nkl (g_new hT gkz), (BA.tk tkz gbz).add (b := ⟨ss, n4 % room ss.length, ks.getD i 0, ks.getD i 0 * (n5 % 2), sp⟩) hT gspz (hw.imp tkz) ?_, by simp; omega⟩
        rw [bi]
        exact bk_made sA l4 kb
  · clear D4 gk4 hbl
    rintro σ H1 ⟨u7, u8, u9, u10, u11, bs, ps, c', rfl, D5, c0', c1', gk5, B5, bi⟩
    walk_at "rd"
    refine comp_range (fun j ys σ H' => Ch [] H1 H' ∧ SS H' (PrO ins many) ((List.range j).map fun n => (false, n)) ys ∧ ∃ u, σ = [u]) (by rw [sizeLine_eq, Int.toNat_natCast]; omega) ⟨Ch.refl _ _, .nil, _, rfl⟩ ?_ ?_ ?_
    · rintro j ys σ H' hj ⟨_, ss, _⟩
      rw [ss.len]; simp
    · rintro j ys σ H' hj ⟨c2, ss, u, rfl⟩
      have hj : j < ins := by simpa using hj
      walk_at "rd"
      rename_i T hT
      have cT : Ch [] H' (upd H' T (.tup [.str "in", .int (0 + (j : Int))])) := Ch.new hT _
      refine ⟨?_, _, rfl⟩
      rw [List.range_succ, List.map_append]
      exact (ss.tk (tk_new cT)).snoc (s := (false, j)) (by rw [upd_same, Int.zero_add]; rfl) ⟨hj⟩
    rintro zs σ H2 ⟨c2, ss2, _⟩
    intro s1 hs1
    have cS : Ch [] H1 (upd H2 s1 (.lst zs)) := c2.trans (Ch.new hs1 _)
    have D6 := D5.new cS
    have B6 := B5.tk (tk_new cS) (cS.get B5.hb (by simp))
    have ss6 := ss2.tk (tk_new (Ch.new (o := .lst zs) hs1))
    have gs6 : (upd H2 s1 (.lst zs)) s1 = some (.lst zs) := upd_same
    have lz := ss2.len
    rw [List.length_map, List.length_range, Int.toNat_natCast] at lz
    generalize upd H2 s1 (.lst zs) = H6 at D6 B6 ss6 gs6 ⊢
    clear D5 B5 c2 ss2 hs1 cS gk5
    walk_at "rd"
    refine comp_range (fun j ys σ H' => Ch [] H6 H' ∧ SS H' (PrO ins many) ((List.range j).map fun n => (true, n)) ys ∧ ∃ u, σ = [u]) (by rw [sizeLine_eq, Int.toNat_natCast]; omega) ⟨Ch.refl _ _, .nil, _, rfl⟩ ?_ ?_ ?_
    · rintro j ys σ H' hj ⟨_, ss, _⟩
      rw [ss.len]; simp
    · rintro j ys σ H' hj ⟨c2, ss, u, rfl⟩
      have hj : j < many := by simpa using hj
      walk_at "rd"
      rename_i T hT
      have cT : Ch [] H' (upd H' T (.tup [.str "block", .int (0 + (j : Int))])) := Ch.new hT _
      refine ⟨?_, _, rfl⟩
      rw [List.range_succ, List.map_append]
      exact (ss.tk (tk_new cT)).snoc (s := (true, j)) (by rw [upd_same, Int.zero_add]; rfl) ⟨hj⟩
    rintro ys σ H7 ⟨c7, s7, _⟩
    intro D hD
    have cS : Ch [] H6 (upd H7 D (.lst ys)) := c7.trans (Ch.new hD _)
    have D8 := D6.new cS
    have B8 := B6.tk (tk_new cS) (cS.get B6.hb (by simp))
    have t8 := (ss6.tk (tk_new cS)).app (s7.tk (tk_new (Ch.new (o := .lst ys) hD)))
    have gs8 := cS.get gs6 (by simp)
    have gD8 : (upd H7 D (.lst ys)) D = some (.lst ys) := upd_same
    have ly := s7.len
    rw [List.length_map, List.length_range, Int.toNat_natCast] at ly
    generalize upd H7 D (.lst ys) = H8 at D8 B8 t8 gs8 gD8 ⊢
    clear D6 B6 ss6 gs6 hD cS s7 c7
    walk_at "rd"
    rename_i sm hsm
    refine cut_by (fun σ H' => ∃ (sl : Addr), σ = [some (.ref a), some (.ref b), some (.int 8), some (.int (ins : Int)), some (.int (many : Int)), some (.ref kl), some (.ref bl), u7, some (.ref sm), u9, u10, u11, some (.ref sl)] ∧ Ch [] H8 H' ∧ H' sm = some (.lst (zs ++ ys)) ∧ H' sl = some (.lst []) ∧ H8 sl = none ∧ sm ≠ sl) ?_ ?_
    · walk_at "rd"
      rename_i sl hsl
      exact ⟨freeN hsm hsl, fun z => by rw [← z, upd_same] at hsl; cases hsl⟩
    · rintro σ' H9 ⟨sl, rfl, c9, gm9, gl9, fl, nms⟩
      have D9 := D8.new c9
      have B9 := B8.tk (tk_new c9) (c9.get B8.hb (by simp))
      have t9 := t8.tk (tk_new c9)
      obtain ⟨fl0, nsb⟩ := D8.free fl
      have nsl : bl ≠ sl := ne_of_none B8.hb fl
      have nmb : sm ≠ b := (ne_of_none D8.hb hsm).symm
      have lm : (zs ++ ys).length ≤ 40 := by rw [List.length_append]; omega
      generalize zs ++ ys = ws at gm9 t9 lm
      generalize hws : (List.range (ins : Int).toNat).map (fun n => ((false, n) : Src)) ++ (List.range (many : Int).toNat).map (fun n => ((true, n) : Src)) = wss at t9
      clear D8 B8 t8 c9 gs8 gD8 hsm fl
      obtain ⟨_, hS9, hb9⟩ := id D9
      walk_at "rd"
      rename_i n3 G3 q1 q2 d3 e3
      have tk3 := tk_ch hb9 d3
      refine loop_range (fun j σ H' => ∃ (u7 : Option V) (ss : List Src) (ys : List V) (c2 : Int), σ = [some (.ref a), some (.ref b), some (.int 8), some (.int (ins : Int)), some (.int (many : Int)), some (.ref kl), some (.ref bl), u7, some (.ref sm), u9, u10, u11, some (.ref sl)] ∧ DQ K H H' a b ns c2 ∧ c' + 1 ≤ c2 ∧ c2 ≤ c' + 1 + (j : Int) ∧ BL H' bl ins many ks bs ps ∧ H' sm = some (.lst ws) ∧ SS H' (PrO ins many) wss ws ∧ H' sl = some (.lst ys) ∧ SS H' (PrO ins many) ss ys ∧ ss.length ≤ j)
        ⟨_, [], [], _, rfl, D9.next d3 e3, by omega, by omega, B9.tk tk3 (d3.get B9.hb (by simpa using nbb.symm)), d3.get gm9 (by simpa using nmb), t9.tk tk3, d3.get gl9 (by simpa using nsb.symm), .nil, by simp⟩ ?_ ?_
      · clear D9 B9 gm9 t9 gl9 hS9 hb9 d3 e3 tk3
        rintro j σ H1 hj ⟨u7, ss, ys, c2, rfl, DA, k0, k1, BA, gmA, tA, glA, sA, lA⟩
        obtain ⟨_, hSA, hbA⟩ := id DA
        have hj5 : j < 4 := by omega
        have lA2 := sA.len
        have lyA : ys.length < sizeLine := by rw [sizeLine_eq]; omega
        have hbA' := hbA
        walk_at "rd"
        refine ite2 (fun h => ?_) (fun h => ?_)
        · have h : 0 < ws.length := by simpa using h
          walk_at "rd"
          rename_i n G m0 m1 d e
          have tkG := tk_ch hbA d
          obtain ⟨p, r, g1, g2, g3⟩ := (tA.tk tkG).mod h n
          have glG : G sl = some (.lst ys) := d.get glA (by simpa using nsb.symm)
          have DG := DA.next d e
          have tk2 : Tk H1 (upd G sl (.lst (ys ++ [.ref p]))) := fun q xs hq => tk_put glG q xs (tkG q xs hq)
          refine Atx.of g1 ?_
          clear glA lA2
          walk_at "rd"
          exact ⟨DG.own fl0 glG nsb, by omega, by omega, BA.tk tk2 (g_put nsl (d.get BA.hb (by simpa using nbb.symm))), g_put nms (d.get gmA (by simpa using nmb)), tA.tk tk2, upd_same, (sA.tk tk2).snoc (tk_put glG p _ g2) g3, by simp; omega⟩
        · walk_at "rd"
          omega
      · clear D9 B9 gm9 t9 gl9 hS9 hb9 d3 e3 tk3
        rintro σ H1 ⟨u7, ss, ys, c2, rfl, DA, k0, k1, BA, gmA, tA, glA, sA, lA⟩
        walk_at "rd"
        rename_i wy hwy
        have cW : Ch [] H1 (upd H1 wy (.tup [.int (ins : Int), .ref bl, .ref sl])) := Ch.new hwy _
        obtain ⟨qs, rfl, hw⟩ := sA.ex
        rw [Int.toNat_natCast] at bi
        subst bi
        exact q wy bl sl ins bs ps ss qs c2 _ (DA.new cW) (by omega) (by omega) upd_same (Pk.ch ⟨BA.hb, BA.bt, fun b' hb' => by
          obtain ⟨n, hn⟩ := List.getElem?_of_mem hb'
          exact (BA.each n b' hn).ok, by omega, BA.acyc, glA, hw, fun r hr => (sA.pr r hr).lm, by omega⟩ cW) (by omega) (by omega) (by omega) nbb nsb
end
end

section
theorem SS.pick {H : Hp} {Pr : Src → Prop} {ss : List Src} {ys : List V} (s : SS H Pr ss ys) (h0 : 0 < ys.length) (m : Int) : ∃ p r, atI ys (m / 3 % (ys.length : Int) * (if decide (0 < m % 3) = true then 1 else 0)) = some (.ref p) ∧ H p = some (.tup ((srcK r).map kV)) ∧ Pr r := by
  by_cases h : decide (0 < m % 3) = true
  · rw [if_pos h, Int.mul_one]
    exact s.mod h0 (m / 3)
  · rw [if_neg h, Int.mul_zero, ← Int.zero_emod (ys.length : Int)]
    exact s.mod h0 0
section
variable {P : Program} {w : World} {K : PySem.W.Frag} {mg : Str → Option Value} {base : Heap} {f : Addr} {fd : FuncData} {k : Nat}
theorem l23_2 : Lc (defScope (top 23)) "_law_ins" := by decide +kernel
theorem g23__law_next : Gi (defScope (top 23)) "_law_next" := by decide +kernel
theorem v23_1 : Vs (defScope (top 23)) "_law_at" := by decide +kernel
theorem d23_1 : Nd "_law_at" := by decide +kernel
theorem c23_1 : Nc "_law_at" := by decide +kernel
theorem v23_0 : Vs (defScope (top 23)) "_law_script" := by decide +kernel
theorem d23_0 : Nd "_law_script" := by decide +kernel
theorem c23_0 : Nc "_law_script" := by decide +kernel
theorem l23_3 : Lc (defScope (top 23)) "_law_many" := by decide +kernel
theorem l23_4 : Lc (defScope (top 23)) "_law_kept" := by decide +kernel
theorem g23_range : Gi (defScope (top 23)) "range" := by decide +kernel
theorem v23_3 : Vs (defScope (top 23)) "_law_many" := by decide +kernel
theorem d23_3 : Nd "_law_many" := by decide +kernel
theorem c23_3 : Nc "_law_many" := by decide +kernel
def csc23_0 : Scope := { kind := PySem.ScopeKind.function, names := [ (PySem.Str.ofString ".0", PySem.NameKind.local), (PySem.Str.ofString "_law_k", PySem.NameKind.local), (PySem.Str.ofString "_law_next", PySem.NameKind.globalImplicit), (PySem.Str.ofString "_law_at", PySem.NameKind.free), (PySem.Str.ofString "_law_script", PySem.NameKind.free)], isGenerator := false, isCoroutine := false, more := [] : PySem.Scope }
theorem cok23_0 : CompOk csc23_0 (defScope (top 23)) (["_law_k"] : List Str) (["_law_script", "_law_at", "_law_ins", "_law_many", "_law_kept", "_law_blocks", "_law_k", "_law_some", "_law_sources", "_law_j", "_law_m", "_law_room", "_law_outs"] : List Str) [0, 1] (["_law_k", "_law_script", "_law_at"] : List Str) := compOk rfl (by decide +kernel) (by decide +kernel) (by decide +kernel) (by decide +kernel) rfl (by decide +kernel)
theorem kq23_0_0 : (relab csc23_0 (defScope (top 23))).names.lookup (Str.ofString "_law_k") = some NameKind.local := by decide +kernel
theorem gq23_0__law_next : Gi (relab csc23_0 (defScope (top 23))) "_law_next" := by decide +kernel
theorem vq23_0_2 : Vs (relab csc23_0 (defScope (top 23))) "_law_at" := by decide +kernel
theorem dq23_0_2 : Nd "_law_at" := by decide +kernel
theorem cq23_0_2 : Nc "_law_at" := by decide +kernel
theorem vq23_0_1 : Vs (relab csc23_0 (defScope (top 23))) "_law_script" := by decide +kernel
theorem dq23_0_1 : Nd "_law_script" := by decide +kernel
theorem cq23_0_1 : Nc "_law_script" := by decide +kernel
theorem l23_5 : Lc (defScope (top 23)) "_law_blocks" := by decide +kernel
theorem l23_6 : Lc (defScope (top 23)) "_law_k" := by decide +kernel
theorem l23_7 : Lc (defScope (top 23)) "_law_some" := by decide +kernel
theorem v23_2 : Vs (defScope (top 23)) "_law_ins" := by decide +kernel
theorem d23_2 : Nd "_law_ins" := by decide +kernel
theorem c23_2 : Nc "_law_ins" := by decide +kernel
def csc23_1 : Scope := { kind := PySem.ScopeKind.function, names := [(PySem.Str.ofString ".0", PySem.NameKind.local), (PySem.Str.ofString "_law_j", PySem.NameKind.local)], isGenerator := false, isCoroutine := false, more := [] : PySem.Scope }
theorem cok23_1 : CompOk csc23_1 (defScope (top 23)) (["_law_j"] : List Str) (["_law_script", "_law_at", "_law_ins", "_law_many", "_law_kept", "_law_blocks", "_law_k", "_law_some", "_law_sources", "_law_j", "_law_m", "_law_room", "_law_outs"] : List Str) [] (["_law_j"] : List Str) := compOk rfl (by decide +kernel) (by decide +kernel) (by decide +kernel) (by decide +kernel) rfl (by decide +kernel)
theorem kq23_1_0 : (relab csc23_1 (defScope (top 23))).names.lookup (Str.ofString "_law_j") = some NameKind.local := by decide +kernel
theorem vq23_1_0 : Vs (relab csc23_1 (defScope (top 23))) "_law_j" := by decide +kernel
theorem dq23_1_0 : Nd "_law_j" := by decide +kernel
theorem cq23_1_0 : Nc "_law_j" := by decide +kernel
theorem v23_7 : Vs (defScope (top 23)) "_law_some" := by decide +kernel
theorem d23_7 : Nd "_law_some" := by decide +kernel
theorem c23_7 : Nc "_law_some" := by decide +kernel
def csc23_2 : Scope := { kind := PySem.ScopeKind.function, names := [ (PySem.Str.ofString ".0", PySem.NameKind.local), (PySem.Str.ofString "_law_j", PySem.NameKind.local), (PySem.Str.ofString "_law_k", PySem.NameKind.free), (PySem.Str.ofString "_law_kept", PySem.NameKind.free)], isGenerator := false, isCoroutine := false, more := [] : PySem.Scope }
theorem cok23_2 : CompOk csc23_2 (defScope (top 23)) (["_law_j"] : List Str) (["_law_script", "_law_at", "_law_ins", "_law_many", "_law_kept", "_law_blocks", "_law_k", "_law_some", "_law_sources", "_law_j", "_law_m", "_law_room", "_law_outs"] : List Str) [4, 6] (["_law_j", "_law_kept", "_law_k"] : List Str) := compOk rfl (by decide +kernel) (by decide +kernel) (by decide +kernel) (by decide +kernel) rfl (by decide +kernel)
theorem kq23_2_0 : (relab csc23_2 (defScope (top 23))).names.lookup (Str.ofString "_law_j") = some NameKind.local := by decide +kernel
theorem vq23_2_0 : Vs (relab csc23_2 (defScope (top 23))) "_law_j" := by decide +kernel
theorem dq23_2_0 : Nd "_law_j" := by decide +kernel
theorem cq23_2_0 : Nc "_law_j" := by decide +kernel
theorem vq23_2_2 : Vs (relab csc23_2 (defScope (top 23))) "_law_k" := by decide +kernel
theorem dq23_2_2 : Nd "_law_k" := by decide +kernel
theorem cq23_2_2 : Nc "_law_k" := by decide +kernel
theorem vq23_2_1 : Vs (relab csc23_2 (defScope (top 23))) "_law_kept" := by decide +kernel
theorem dq23_2_1 : Nd "_law_kept" := by decide +kernel
theorem cq23_2_1 : Nc "_law_kept" := by decide +kernel
theorem l23_8 : Lc (defScope (top 23)) "_law_sources" := by decide +kernel
theorem l23_9 : Lc (defScope (top 23)) "_law_j" := by decide +kernel
theorem l23_10 : Lc (defScope (top 23)) "_law_m" := by decide +kernel
theorem v23_8 : Vs (defScope (top 23)) "_law_sources" := by decide +kernel
theorem d23_8 : Nd "_law_sources" := by decide +kernel
theorem c23_8 : Nc "_law_sources" := by decide +kernel
theorem v23_10 : Vs (defScope (top 23)) "_law_m" := by decide +kernel
theorem d23_10 : Nd "_law_m" := by decide +kernel
theorem c23_10 : Nc "_law_m" := by decide +kernel
theorem g23_len : Gi (defScope (top 23)) "len" := by decide +kernel
theorem g23_int : Gi (defScope (top 23)) "int" := by decide +kernel
theorem l23_11 : Lc (defScope (top 23)) "_law_room" := by decide +kernel
theorem v23_5 : Vs (defScope (top 23)) "_law_blocks" := by decide +kernel
theorem d23_5 : Nd "_law_blocks" := by decide +kernel
theorem c23_5 : Nc "_law_blocks" := by decide +kernel
theorem v23_4 : Vs (defScope (top 23)) "_law_kept" := by decide +kernel
theorem d23_4 : Nd "_law_kept" := by decide +kernel
theorem c23_4 : Nc "_law_kept" := by decide +kernel
theorem v23_6 : Vs (defScope (top 23)) "_law_k" := by decide +kernel
theorem d23_6 : Nd "_law_k" := by decide +kernel
theorem c23_6 : Nc "_law_k" := by decide +kernel
theorem v23_11 : Vs (defScope (top 23)) "_law_room" := by decide +kernel
theorem d23_11 : Nd "_law_room" := by decide +kernel
theorem c23_11 : Nc "_law_room" := by decide +kernel
theorem g23_tuple : Gi (defScope (top 23)) "tuple" := by decide +kernel
def csc23_3 : Scope := { kind := PySem.ScopeKind.function, names := [(PySem.Str.ofString ".0", PySem.NameKind.local), (PySem.Str.ofString "_law_j", PySem.NameKind.local)], isGenerator := false, isCoroutine := false, more := [] : PySem.Scope }
theorem cok23_3 : CompOk csc23_3 (defScope (top 23)) (["_law_j"] : List Str) (["_law_script", "_law_at", "_law_ins", "_law_many", "_law_kept", "_law_blocks", "_law_k", "_law_some", "_law_sources", "_law_j", "_law_m", "_law_room", "_law_outs"] : List Str) [] (["_law_j"] : List Str) := compOk rfl (by decide +kernel) (by decide +kernel) (by decide +kernel) (by decide +kernel) rfl (by decide +kernel)
theorem kq23_3_0 : (relab csc23_3 (defScope (top 23))).names.lookup (Str.ofString "_law_j") = some NameKind.local := by decide +kernel
theorem vq23_3_0 : Vs (relab csc23_3 (defScope (top 23))) "_law_j" := by decide +kernel
theorem dq23_3_0 : Nd "_law_j" := by decide +kernel
theorem cq23_3_0 : Nc "_law_j" := by decide +kernel
def csc23_4 : Scope := { kind := PySem.ScopeKind.function, names := [(PySem.Str.ofString ".0", PySem.NameKind.local), (PySem.Str.ofString "_law_j", PySem.NameKind.local)], isGenerator := false, isCoroutine := false, more := [] : PySem.Scope }
theorem cok23_4 : CompOk csc23_4 (defScope (top 23)) (["_law_j"] : List Str) (["_law_script", "_law_at", "_law_ins", "_law_many", "_law_kept", "_law_blocks", "_law_k", "_law_some", "_law_sources", "_law_j", "_law_m", "_law_room", "_law_outs"] : List Str) [] (["_law_j"] : List Str) := compOk rfl (by decide +kernel) (by decide +kernel) (by decide +kernel) (by decide +kernel) rfl (by decide +kernel)
theorem kq23_4_0 : (relab csc23_4 (defScope (top 23))).names.lookup (Str.ofString "_law_j") = some NameKind.local := by decide +kernel
theorem vq23_4_0 : Vs (relab csc23_4 (defScope (top 23))) "_law_j" := by decide +kernel
theorem dq23_4_0 : Nd "_law_j" := by decide +kernel
theorem cq23_4_0 : Nc "_law_j" := by decide +kernel
theorem l23_12 : Lc (defScope (top 23)) "_law_outs" := by decide +kernel
theorem v23_12 : Vs (defScope (top 23)) "_law_outs" := by decide +kernel
theorem d23_12 : Nd "_law_outs" := by decide +kernel
theorem c23_12 : Nc "_law_outs" := by decide +kernel
def spGreat (K : PySem.W.Frag) : Sp := fun vs H Q _ => ∃ (a b : Addr) (ns : List Int) (c : Int), vs = [.ref a, .ref b] ∧ Scr K H a ns ∧ H b = some (.lst [.int c]) ∧ 0 ≤ c ∧ c < 2 ^ 50 ∧
  ∀ (wy bl ol : Addr) (ins : Nat) (bs : List Bk) (ps : List Addr) (os : List Src) (ops : List Addr) (c' : Int) (H' : Hp), DQ K H H' a b ns c' → 0 ≤ c' → c' ≤ c + 1000 → H' wy = some (.tup [.int (ins : Int), .ref bl, .ref ol]) → Pk H' bl ol ins bs ps os ops → ins ≤ 20 → bs.length ≤ 20 → os.length ≤ 20 → b ≠ bl → b ≠ ol → Q (.ref wy) H'
theorem scGreat : FnScope ["_law_script", "_law_at", "_law_ins", "_law_many", "_law_kept", "_law_blocks", "_law_k", "_law_some", "_law_sources", "_law_j", "_law_m", "_law_room", "_law_outs"] ["_law_script", "_law_at"] (defScope (top 23)) := ⟨rfl, rfl, rfl, by decide +kernel, rfl, by decide +kernel, by decide +kernel⟩
theorem ok_great (F : Fun K "_law_great" "_law_great" (top 23) f fd) (D_law_next : DefOk P w K mg base CX0 k "_law_next" ["_law_script", "_law_at"] (spNext K)) (z_len : mg "len" = none) (z_range : mg "range" = none) (z_tuple : mg "tuple" = none) (z_int : mg "int" = none) :
    FnOk P w K mg base CX0 (k + 1) f fd ["_law_script", "_law_at"] (spGreat K) := by
  have nd := scGreat.nd
  refine F.ok scGreat (fun vs H Q E h => by obtain ⟨a, b, ns, c, rfl, _⟩ := h; rfl) (fun cdv A outer s H vs Q E hr h => ?_)
  obtain ⟨a, b, ns, c, rfl, hS, hb, c0, c1, q⟩ := h
  refine ⟨_, (Pr.h (qpss_cons (qps_set (i := 2) nd rfl l23_2 (qpe_op op_add qpe_int (qpe_op op_mod (qpe_callD D_law_next hr g23__law_next pass0 (qpa_cons (qpe_var (i := 0) rfl v23_0 d23_0 c23_0) (qpa_cons (qpe_var (i := 1) rfl v23_1 d23_1 c23_1) qpa_nil se_Name) se_Name) gd__law_next) qpe_int)))
 (qpss_cons (qps_set (i := 3) nd rfl l23_3 (qpe_op op_add qpe_int (qpe_op op_mod (qpe_callD D_law_next hr g23__law_next pass0 (qpa_cons (qpe_var (i := 0) rfl v23_0 d23_0 c23_0) (qpa_cons (qpe_var (i := 1) rfl v23_1 d23_1 c23_1) qpa_nil se_Name) se_Name) gd__law_next) qpe_int)))
 (qpss_cons (qps_set (i := 4) nd rfl l23_4 (qpe_comp rfl cok23_0 (qpi_range1 g23_range z_range (qpa_cons (qpe_var (i := 3) rfl v23_3 d23_3 c23_3) qpa_nil se_Name)) (fun _ _ _ _ _ => (qpg_name (i := 0) cok23_0.nd rfl (Or.inl kq23_0_0) (Or.inr kq23_0_0))) (fun _ _ _ _ _ => qpif_nil) (fun _ _ _ _ _ => (qpe_op op_fdivW (qpe_op op_mod (qpe_callD D_law_next hr gq23_0__law_next pass0 (qpa_cons (qpe_var (i := 1) rfl vq23_0_1 dq23_0_1 cq23_0_1) (qpa_cons (qpe_var (i := 2) rfl vq23_0_2 dq23_0_2 cq23_0_2) qpa_nil se_Name) se_Name) gd__law_next) qpe_int) qpe_int))))
 (qpss_cons (qps_set (i := 5) nd rfl l23_5 (qpe_lst qpa_nil))
 (qpss_cons (qps_loop PassesOwn.never rfl (qpi_range1 g23_range z_range (qpa_cons (qpe_var (i := 3) rfl v23_3 d23_3 c23_3) qpa_nil se_Name)) (qpg_name (i := 6) nd rfl l23_6)
  (qpss_cons (qps_setC (i := 7) nd rfl l23_7 rfl cok23_1 (qpi_range1 g23_range z_range (qpa_cons (qpe_var (i := 2) rfl v23_2 d23_2 c23_2) qpa_nil se_Name)) (fun _ _ _ _ _ => (qpg_name (i := 0) cok23_1.nd rfl (Or.inl kq23_1_0) (Or.inr kq23_1_0))) (fun _ _ _ _ _ => qpif_nil) (fun _ _ _ _ _ => (qpe_tup (qpa_cons qpe_str (qpa_cons (qpe_var (i := 0) rfl vq23_1_0 dq23_1_0 cq23_1_0) qpa_nil se_Name) se_Constant))) rfl)
 (qpss_cons (qps_set (i := 7) nd rfl l23_7 (qpe_op op_cat (qpe_var (i := 7) rfl v23_7 d23_7 c23_7) (qpe_comp rfl cok23_2 (qpi_range1 g23_range z_range (qpa_cons (qpe_var (i := 3) rfl v23_3 d23_3 c23_3) qpa_nil se_Name)) (fun _ _ _ _ _ => (qpg_name (i := 0) cok23_2.nd rfl (Or.inl kq23_2_0) (Or.inr kq23_2_0))) (fun _ _ _ _ _ => (qpif_one (qPW_pt (qpw_or (qpt_cmpR op_eq (qpe_ix (ixaK_list K rfl) (qpe_var (i := 1) rfl vq23_2_1 dq23_2_1 cq23_2_1) (qpe_var (i := 0) rfl vq23_2_0 dq23_2_0 cq23_2_0) (fun _ _ => rfl)) qpe_int (nomark _)) (qpw_or (qpt_cmpR op_eq (qpe_ix (ixaK_list K rfl) (qpe_var (i := 1) rfl vq23_2_1 dq23_2_1 cq23_2_1) (qpe_var (i := 2) rfl vq23_2_2 dq23_2_2 cq23_2_2) (fun _ _ => rfl)) qpe_int (nomark _)) (qpw_or1 (qpt_cmpR op_lt (qpe_var (i := 0) rfl vq23_2_0 dq23_2_0 cq23_2_0) (qpe_var (i := 2) rfl vq23_2_2 dq23_2_2 cq23_2_2) (nomark _)))))))) (fun _ _ _ _ _ => (qpe_tup (qpa_cons qpe_str (qpa_cons (qpe_var (i := 0) rfl vq23_2_0 dq23_2_0 cq23_2_0) qpa_nil se_Name) se_Constant))))))
 (qpss_cut (qps_set (i := 8) nd rfl l23_8 (qpe_lst qpa_nil))
 (qpss_cons (qps_loop PassesOwn.never rfl (qpi_range1 g23_range z_range (qpa_cons (qpe_op op_add qpe_int (qpe_op op_mod (qpe_callD D_law_next hr g23__law_next pass0 (qpa_cons (qpe_var (i := 0) rfl v23_0 d23_0 c23_0) (qpa_cons (qpe_var (i := 1) rfl v23_1 d23_1 c23_1) qpa_nil se_Name) se_Name) gd__law_next) qpe_int)) qpa_nil se_BinOp)) (qpg_name (i := 9) nd rfl l23_9)
  (qpss_cons (qps_set (i := 10) nd rfl l23_10 (qpe_callD D_law_next hr g23__law_next pass0 (qpa_cons (qpe_var (i := 0) rfl v23_0 d23_0 c23_0) (qpa_cons (qpe_var (i := 1) rfl v23_1 d23_1 c23_1) qpa_nil se_Name) se_Name) gd__law_next))
 (qpss_one (qps_expr (qpe_bm PySem.F.plainAttrs_list PySem.F.slot_list_append PySem.F.type_list_append mt_append (qpe_var (i := 8) rfl v23_8 d23_8 c23_8) (qpa_cons (qpe_ix ixa_list (qpe_var (i := 7) rfl v23_7 d23_7 c23_7) (qpe_op op_mul (qpe_op op_mod (qpe_op op_fdivW (qpe_var (i := 10) rfl v23_10 d23_10 c23_10) qpe_int) (qpe_callB call_len_seq g23_len z_len PySem.boot_len (qpa_cons (qpe_var (i := 7) rfl v23_7 d23_7 c23_7) qpa_nil se_Name) nn_len gd_len)) (qpe_callTy call_int1 g23_int z_int bo_int (qpa_cons (qpe_cmpR op_gt (qpe_op op_mod (qpe_var (i := 10) rfl v23_10 d23_10 c23_10) qpe_int) qpe_int (nomark _)) qpa_nil se_Compare) nn_int gd_int)) (fun _ _ => rfl)) qpa_nil se_Subscript))))))
 (qpss_cons (qps_set (i := 11) nd rfl l23_11 (qpe_ix ixa_list (qpe_lst (qpa_cons qpe_int (qpa_cons qpe_int (qpa_cons qpe_int (qpa_cons qpe_int (qpa_cons qpe_int qpa_nil se_Constant) se_Constant) se_Constant) se_Constant) se_Constant)) (qpe_callB call_len_seq g23_len z_len PySem.boot_len (qpa_cons (qpe_var (i := 8) rfl v23_8 d23_8 c23_8) qpa_nil se_Name) nn_len gd_len) (fun _ _ => rfl)))
 (qpss_one (qps_expr (qpe_bm PySem.F.plainAttrs_list PySem.F.slot_list_append PySem.F.type_list_append mt_append (qpe_var (i := 5) rfl v23_5 d23_5 c23_5) (qpa_cons (qpe_tup (qpa_cons (qpe_callTy call_tuple_of g23_tuple z_tuple bo_tuple (qpa_cons (qpe_var (i := 8) rfl v23_8 d23_8 c23_8) qpa_nil se_Name) nn_tuple gd_tuple) (qpa_cons (qpe_op op_mod (qpe_callD D_law_next hr g23__law_next pass0 (qpa_cons (qpe_var (i := 0) rfl v23_0 d23_0 c23_0) (qpa_cons (qpe_var (i := 1) rfl v23_1 d23_1 c23_1) qpa_nil se_Name) se_Name) gd__law_next) (qpe_var (i := 11) rfl v23_11 d23_11 c23_11)) (qpa_cons (qpe_ix ixa_list (qpe_var (i := 4) rfl v23_4 d23_4 c23_4) (qpe_var (i := 6) rfl v23_6 d23_6 c23_6) (fun _ _ => rfl)) (qpa_cons (qpe_op op_mul (qpe_ix ixa_list (qpe_var (i := 4) rfl v23_4 d23_4 c23_4) (qpe_var (i := 6) rfl v23_6 d23_6 c23_6) (fun _ _ => rfl)) (qpe_op op_mod (qpe_callD D_law_next hr g23__law_next pass0 (qpa_cons (qpe_var (i := 0) rfl v23_0 d23_0 c23_0) (qpa_cons (qpe_var (i := 1) rfl v23_1 d23_1 c23_1) qpa_nil se_Name) se_Name) gd__law_next) qpe_int)) qpa_nil se_BinOp) se_Subscript) se_BinOp) se_Call)) qpa_nil se_Tuple))))))))))
 (qpss_cons (qps_set (i := 7) nd rfl l23_7 (qpe_op op_cat (qpe_comp rfl cok23_3 (qpi_range1 g23_range z_range (qpa_cons (qpe_var (i := 2) rfl v23_2 d23_2 c23_2) qpa_nil se_Name)) (fun _ _ _ _ _ => (qpg_name (i := 0) cok23_3.nd rfl (Or.inl kq23_3_0) (Or.inr kq23_3_0))) (fun _ _ _ _ _ => qpif_nil) (fun _ _ _ _ _ => (qpe_tup (qpa_cons qpe_str (qpa_cons (qpe_var (i := 0) rfl vq23_3_0 dq23_3_0 cq23_3_0) qpa_nil se_Name) se_Constant)))) (qpe_comp rfl cok23_4 (qpi_range1 g23_range z_range (qpa_cons (qpe_var (i := 3) rfl v23_3 d23_3 c23_3) qpa_nil se_Name)) (fun _ _ _ _ _ => (qpg_name (i := 0) cok23_4.nd rfl (Or.inl kq23_4_0) (Or.inr kq23_4_0))) (fun _ _ _ _ _ => qpif_nil) (fun _ _ _ _ _ => (qpe_tup (qpa_cons qpe_str (qpa_cons (qpe_var (i := 0) rfl vq23_4_0 dq23_4_0 cq23_4_0) qpa_nil se_Name) se_Constant))))))
 (qpss_cut (qps_set (i := 12) nd rfl l23_12 (qpe_lst qpa_nil))
 (qpss_cons (qps_loop PassesOwn.never rfl (qpi_range1 g23_range z_range (qpa_cons (qpe_op op_add qpe_int (qpe_op op_mod (qpe_callD D_law_next hr g23__law_next pass0 (qpa_cons (qpe_var (i := 0) rfl v23_0 d23_0 c23_0) (qpa_cons (qpe_var (i := 1) rfl v23_1 d23_1 c23_1) qpa_nil se_Name) se_Name) gd__law_next) qpe_int)) qpa_nil se_BinOp)) (qpg_name (i := 6) nd rfl l23_6)
  (qpss_cons (qps_set (i := 10) nd rfl l23_10 (qpe_callD D_law_next hr g23__law_next pass0 (qpa_cons (qpe_var (i := 0) rfl v23_0 d23_0 c23_0) (qpa_cons (qpe_var (i := 1) rfl v23_1 d23_1 c23_1) qpa_nil se_Name) se_Name) gd__law_next))
 (qpss_one (qps_expr (qpe_bm PySem.F.plainAttrs_list PySem.F.slot_list_append PySem.F.type_list_append mt_append (qpe_var (i := 12) rfl v23_12 d23_12 c23_12) (qpa_cons (qpe_ix ixa_list (qpe_var (i := 7) rfl v23_7 d23_7 c23_7) (qpe_op op_mul (qpe_op op_mod (qpe_op op_fdivW (qpe_var (i := 10) rfl v23_10 d23_10 c23_10) qpe_int) (qpe_callB call_len_seq g23_len z_len PySem.boot_len (qpa_cons (qpe_var (i := 7) rfl v23_7 d23_7 c23_7) qpa_nil se_Name) nn_len gd_len)) (qpe_callTy call_int1 g23_int z_int bo_int (qpa_cons (qpe_cmpR op_gt (qpe_op op_mod (qpe_var (i := 10) rfl v23_10 d23_10 c23_10) qpe_int) qpe_int (nomark _)) qpa_nil se_Compare) nn_int gd_int)) (fun _ _ => rfl)) qpa_nil se_Subscript))))))
 (qpss_one (qps_ret (qpe_tup (qpa_cons (qpe_var (i := 2) rfl v23_2 d23_2 c23_2) (qpa_cons (qpe_var (i := 5) rfl v23_5 d23_5 c23_5) (qpa_cons (qpe_var (i := 12) rfl v23_12 d23_12 c23_12) qpa_nil se_Name) se_Name) se_Name))))))))))))), ?_⟩
  (try dsimp only [cxOf])
  walk_at "rd"
  rename_i n1 G1 p1 p2 d1 e1 n2 G2 p3 p4 d2 e2
  have D2 : DQ K H G2 a b ns (c + 1 + 1) := (DQ.next (c := c) ⟨Ch.refl _ _, hS, hb⟩ d1 e1).next d2 e2
  clear d1 e1 d2 e2 p1 p2 p3 p4
  have m0 : 0 ≤ 7 + n2 % 6 := by omega
  have m1 : 7 + n2 % 6 < 13 := by omega
  refine comp_range (fun i ys σ H' => (∃ u, σ = [u, some (.ref a), some (.ref b)]) ∧ KI K H H' a b ns (c + 1 + 1) i ys) (by rw [sizeLine_eq]; omega) ⟨⟨_, rfl⟩, ⟨[], rfl, rfl, by simp⟩, by simpa using D2⟩ ?_ ?_ ?_
  · rintro i ys σ H' hi ⟨_, ⟨ks, rfl, rfl, _⟩, _⟩
    simp
  · rintro i ys σ H' hi ⟨⟨u, rfl⟩, ⟨ks, rfl, hl, hn⟩, d⟩
    obtain ⟨ch, hS', hb'⟩ := id d
    have hi9 : i < 13 := by omega
    walk_at "rd"
    rename_i n G n0 n1 d' e
    refine ⟨⟨_, rfl⟩, ⟨ks ++ [n % 3 / 2], by simp, by simp [hl], fun x hx => ?_⟩, d.next d' (by rw [e, show c + 1 + 1 + ((i + 1 : Nat) : Int) = c + 1 + 1 + (i : Int) + 1 from by omega])⟩
    rcases List.mem_append.mp hx with hx | hx
    · exact hn x hx
    · rw [List.mem_singleton.mp hx]; omega
  rintro ys σ G3 ⟨_, ⟨ks, rfl, hkl, hk01⟩, D3⟩
  obtain ⟨ins, hi⟩ : ∃ ins : Nat, 7 + n1 % 6 = (ins : Int) := ⟨(7 + n1 % 6).toNat, by omega⟩
  obtain ⟨many, hm⟩ : ∃ many : Nat, 7 + n2 % 6 = (many : Int) := ⟨(7 + n2 % 6).toNat, by omega⟩
  rw [hm, Int.toNat_natCast] at hkl D3
  have i4 : ins ≤ 12 := by omega
  have m9 : many ≤ 12 := by omega
  have i7 : 7 ≤ ins := by omega
  intro kl hkl0
  have cK : Ch [] G3 (upd G3 kl (.lst (ks.map V.int))) := Ch.new hkl0 _
  have D4 := D3.new cK
  have gk4 : (upd G3 kl (.lst (ks.map V.int))) kl = some (.lst (ks.map V.int)) := upd_same
  have nkb : kl ≠ b := (ne_of_none D3.hb hkl0).symm
  show tSeq _ _ _ [some (.ref a), some (.ref b), some (.int (7 + n1 % 6)), some (.int (7 + n2 % 6)), some (.ref kl), none, none, none, none, none, none, none, none] (upd G3 kl (.lst (ks.map V.int)))
  rw [hi, hm]
  generalize upd G3 kl (.lst (ks.map V.int)) = G4 at D4 gk4 ⊢
  clear cK D3 hkl0 D2 hi hm m0 m1
  walk_at "rd"
  rename_i bl hbl
  obtain ⟨hbl0, nbb⟩ := D4.free hbl
  have nkl : kl ≠ bl := ne_of_none gk4 hbl
  refine loop_range (fun i σ H' => ∃ (u7 u8 u9 u10 um u11 : Option V) (bs : List Bk) (ps : List Addr) (c' : Int), σ = [some (.ref a), some (.ref b), some (.int (ins : Int)), some (.int (many : Int)), some (.ref kl), some (.ref bl), u7, u8, u9, u10, um, u11, none] ∧ DQ K H H' a b ns c' ∧ 0 ≤ c' ∧ c' ≤ c + 20 + 10 * (i : Int) ∧ H' kl = some (.lst (ks.map V.int)) ∧ BL H' bl ins many ks bs ps ∧ bs.length = i)
    ⟨_, _, _, _, _, _, [], [], _, rfl, D4.new (Ch.new hbl _), by omega, by omega, g_new hbl gk4, ⟨upd_same, .nil, by simp⟩, rfl⟩ ?_ ?_
  · clear D4 gk4 hbl
    rintro i σ H1 hi ⟨u7, u8, u9, u10, um, u11, bs, ps, c', rfl, D5, c0', c1', gk5, B5, bi⟩
    have hi9 : i < many := by simpa using hi
    have ik := kf_at (ks := ks) (j := i) (by omega)
    walk_at "rd"
    refine comp_range (fun j ys σ H' => Ch [] H1 H' ∧ SS H' (PrK ins many ks i) ((List.range j).map fun n => (false, n)) ys ∧ ∃ u, σ = [u]) (by rw [sizeLine_eq, Int.toNat_natCast]; omega) ⟨Ch.refl _ _, .nil, _, rfl⟩ ?_ ?_ ?_
    · rintro j ys σ H' hj ⟨_, ss, _⟩
      rw [ss.len]; simp
    · rintro j ys σ H' hj ⟨c2, ss, u, rfl⟩
      have hj : j < ins := by simpa using hj
      walk_at "rd"
      rename_i T hT
      have cT : Ch [] H' (upd H' T (.tup [.str "in", .int (0 + (j : Int))])) := Ch.new hT _
      refine ⟨?_, _, rfl⟩
      rw [List.range_succ, List.map_append]
      exact (ss.tk (tk_new cT)).snoc (s := (false, j)) (by rw [upd_same, Int.zero_add]; rfl) ⟨hj, fun z => by cases z⟩
    rintro zs σ H2 ⟨c2, ss2, _⟩
    intro s1 hs1
    have cS : Ch [] H1 (upd H2 s1 (.lst zs)) := c2.trans (Ch.new hs1 _)
    have D6 := D5.new cS
    have gk6 := cS.get gk5 (by simp)
    have B6 := B5.tk (tk_new cS) (cS.get B5.hb (by simp))
    have ss6 := ss2.tk (tk_new (Ch.new (o := .lst zs) hs1))
    have gs6 : (upd H2 s1 (.lst zs)) s1 = some (.lst zs) := upd_same
    have lz := ss2.len
    rw [List.length_map, List.length_range, Int.toNat_natCast] at lz
    show tSeq _ _ _ _ (upd H2 s1 (.lst zs))
    generalize upd H2 s1 (.lst zs) = H6 at D6 gk6 B6 ss6 gs6 ⊢
    clear D5 gk5 B5 c2 ss2 hs1 cS
    walk_at "rd"
    refine comp_range (fun j ys σ H' => SB H6 H' (PrK ins many ks i) j ys ∧ ∃ u, σ = [u, some (.ref kl), some (.int (0 + (i : Int)))]) (by rw [sizeLine_eq, Int.toNat_natCast]; omega) ⟨⟨Ch.refl _ _, [], .nil, by simp⟩, _, rfl⟩ ?_ ?_ ?_
    · rintro j ys σ H' hj ⟨sb, _⟩
      obtain ⟨ss, s1, s2⟩ := sb.ex
      rw [s1.len]; exact s2
    · rintro j ys σ H' hj ⟨sb, u, rfl⟩
      have hj : j < many := by simpa using hj
      have jk : atI (ks.map V.int) (0 + (j : Int)) = some (.int (ks.getD j 0)) := by rw [Int.zero_add]; exact kf_at (by omega)
      have ik : atI (ks.map V.int) (0 + (i : Int)) = some (.int (ks.getD i 0)) := by rw [Int.zero_add]; exact ik
      have gk7 := sb.ch.get gk6 (by simp)
      walk_at "rd"
      refine ite2 (fun h => ?_) (fun h => ?_)
      · have h : ks.getD j 0 = 1 := by simpa using h
        walk_at "rd"
        exact ⟨sb.add (by assumption) hj (.inl h), _, rfl⟩
      · walk_at "rd"
        refine ite2 (fun h => ?_) (fun h => ?_)
        · have h : ks.getD i 0 = 1 := by simpa using h
          walk_at "rd"
          exact ⟨sb.add (by assumption) hj (.inr (.inl h)), _, rfl⟩
        · walk_at "rd"
          refine ite2 (fun h => ?_) (fun h => ?_)
          · have h : j < i := by have : 0 + (j : Int) < 0 + (i : Int) := by simpa using h
                                 omega
            walk_at "rd"
            exact ⟨sb.add (by assumption) hj (.inr (.inr h)), _, rfl⟩
          · exact ⟨sb.skip, _, rfl⟩
    rintro ys σ H7 ⟨sb, _⟩
    obtain ⟨ss7, s7, l7⟩ := sb.ex
    rw [Int.toNat_natCast] at l7
    intro D hD
    have cS : Ch [] H6 (upd H7 D (.lst ys)) := sb.ch.trans (Ch.new hD _)
    have D8 := D6.new cS
    have gk8 := cS.get gk6 (by simp)
    have B8 := B6.tk (tk_new cS) (cS.get B6.hb (by simp))
    have t8 := (ss6.tk (tk_new cS)).app (s7.tk (tk_new (Ch.new (o := .lst ys) hD)))
    have gs8 := cS.get gs6 (by simp)
    have gD8 : (upd H7 D (.lst ys)) D = some (.lst ys) := upd_same
    have ly := s7.len
    generalize upd H7 D (.lst ys) = H8 at D8 gk8 B8 t8 gs8 gD8 ⊢
    clear D6 gk6 B6 ss6 gs6 hD cS s7 sb
    have lyz : zs.length + ys.length ≤ 40 := by rw [lz, ly]; omega
    walk_at "rd"
    rename_i sm hsm
    refine cut_by (fun σ H' => ∃ (sl : Addr), σ = [some (.ref a), some (.ref b), some (.int (ins : Int)), some (.int (many : Int)), some (.ref kl), some (.ref bl), some (.int (0 + (i : Int))), some (.ref sm), some (.ref sl), u10, um, u11, none] ∧ Ch [] H8 H' ∧ H' sm = some (.lst (zs ++ ys)) ∧ H' sl = some (.lst []) ∧ H8 sl = none ∧ sm ≠ sl) ?_ ?_
    · walk_at "rd"
      rename_i sl hsl
      exact ⟨freeN hsm hsl, fun z => by rw [← z, upd_same] at hsl; cases hsl⟩
    · rintro σ' H9 ⟨sl, rfl, c9, gm9, gl9, fl, nms⟩
      have D9 := D8.new c9
      have gk9 := c9.get gk8 (by simp)
      have B9 := B8.tk (tk_new c9) (c9.get B8.hb (by simp))
      have t9 := t8.tk (tk_new c9)
      obtain ⟨fl0, nsb⟩ := D8.free fl
      have nsk : kl ≠ sl := ne_of_none gk8 fl
      have nsl : bl ≠ sl := ne_of_none B8.hb fl
      have lm : (zs ++ ys).length ≤ 40 := by rw [List.length_append]; exact lyz
      have lm0 : 0 < (zs ++ ys).length := by rw [List.length_append]; omega
      generalize zs ++ ys = ws at gm9 t9 lm lm0
      have nmb : sm ≠ b := (ne_of_none D8.hb hsm).symm
      clear D8 gk8 B8 t8 c9 gs8 gD8 hsm fl lyz
      obtain ⟨_, hS9, hb9⟩ := id D9
      walk_at "rd"
      rename_i n3 G3 q1 q2 d3 e3
      generalize hws : (List.range (ins : Int).toNat).map (fun n => ((false, n) : Src)) ++ ss7 = wss at t9
      have tk3 := tk_ch hb9 d3
      refine loop_range (fun j σ H' => ∃ (u10 um : Option V) (ss : List Src) (ys : List V) (c2 : Int), σ = [some (.ref a), some (.ref b), some (.int (ins : Int)), some (.int (many : Int)), some (.ref kl), some (.ref bl), some (.int (0 + (i : Int))), some (.ref sm), some (.ref sl), u10, um, u11, none] ∧ DQ K H H' a b ns c2 ∧ c' + 1 ≤ c2 ∧ c2 ≤ c' + 1 + (j : Int) ∧ H' kl = some (.lst (ks.map V.int)) ∧ BL H' bl ins many ks bs ps ∧ H' sm = some (.lst ws) ∧ SS H' (PrK ins many ks i) wss ws ∧ H' sl = some (.lst ys) ∧ SS H' (PrK ins many ks i) ss ys ∧ ss.length ≤ j)
        ⟨_, _, [], [], _, rfl, D9.next d3 e3, by omega, by omega, d3.get gk9 (by simpa using nkb), B9.tk tk3 (d3.get B9.hb (by simpa using nbb.symm)), d3.get gm9 (by simpa using nmb), t9.tk tk3, d3.get gl9 (by simpa using nsb.symm), .nil, by simp⟩ ?_ ?_
      · clear D9 gk9 B9 gm9 t9 gl9 hS9 hb9 d3 e3 tk3
        rintro j σ H1 hj ⟨u10, um, ss, ys, c2, rfl, DA, k0, k1, gkA, BA, gmA, tA, glA, sA, lA⟩
        obtain ⟨_, hSA, hbA⟩ := id DA
        have hj5 : j < 4 := by omega
        have lA2 := sA.len
        have lyA : ys.length < sizeLine := by rw [sizeLine_eq]; omega
        have glA' := glA
        have hbA' := hbA
        walk_at "rd"
        · rename_i n G m0 m1 d e
          have tkG := tk_ch hbA d
          obtain ⟨p, r, g1, g2, g3⟩ := (tA.tk tkG).pick lm0 n
          have glG : G sl = some (.lst ys) := d.get glA (by simpa using nsb.symm)
          have DG := DA.next d e
          have tk2 : Tk H1 (upd G sl (.lst (ys ++ [.ref p]))) := fun q xs hq => tk_put glG q xs (tkG q xs hq)
          refine Atx.of g1 ?_
          clear glA glA' lA2
          walk_at "rd"
          exact ⟨DG.own fl0 glG nsb, by omega, by omega, g_put nsk (d.get gkA (by simpa using nkb)), BA.tk tk2 (g_put nsl (d.get BA.hb (by simpa using nbb.symm))), g_put nms (d.get gmA (by simpa using nmb)), tA.tk tk2, upd_same, (sA.tk tk2).snoc (tk_put glG p _ g2) g3, by simp; omega⟩
      · clear D9 gk9 B9 gm9 t9 gl9 hS9 hb9 d3 e3 tk3
        rintro σ H1 ⟨u10, um, ss, ys, c2, rfl, DA, k0, k1, gkA, BA, gmA, tA, glA, sA, lA⟩
        obtain ⟨_, hSA, hbA⟩ := id DA
        have l4 : ss.length ≤ 4 := by omega
        have lA2 := sA.len
        have rt : atI [V.int 2, V.int 4, V.int 16, V.int 256, V.int 65536] (ys.length : Int) = some (.int (room ss.length)) := by rw [lA2]; exact room_at l4
        have rp := room_pos l4
        have ik0 : atI (ks.map V.int) (0 + (i : Int)) = some (.int (ks.getD i 0)) := by rw [Int.zero_add]; exact ik
        have kb : ks.getD i 0 = 0 ∨ ks.getD i 0 = 1 := hk01 _ (by rw [List.getD_eq_getElem?_getD, List.getElem?_eq_getElem (by omega)]; exact List.getElem_mem _)
        have kb0 : 0 ≤ ks.getD i 0 := by omega
        have kb1 : ks.getD i 0 ≤ 1 := by omega
        have hB := BA.hb
        have lps := Paired.length BA.bt
        have lpz : (ps.map V.ref).length < sizeLine := by rw [List.length_map, sizeLine_eq]; omega
        have hbA' := hbA
        walk_at "rd"
        rename_i rl hrl sp hsp n4 J1 a0 a1 d4 e4 n5 J2 a2 a3 d5 e5 T hT
        have cx : Ch [] H1 (upd (upd H1 rl (.lst [.int 2, .int 4, .int 16, .int 256, .int 65536])) sp (.tup ys)) := (Ch.new hrl _).trans (Ch.new hsp _)
        have DX := DA.new cx
        have DY := DX.next d4 e4
        have DZ := DY.next d5 e5
        have tk4 := tk_ch DX.hb d4
        have tk5 := tk_ch DY.hb d5
        have tkz : Tk H1 J2 := fun p xs h => tk5 p xs (tk4 p xs (tk_new cx p xs h))
        have gspz : J2 sp = some (.tup ys) := tk5 _ _ (tk4 _ _ upd_same)
        have gkz : J2 kl = some (.lst (ks.map V.int)) := d5.get (d4.get (cx.get gkA (by simp)) (by simpa using nkb)) (by simpa using nkb)
        have gbz : J2 bl = some (.lst (ps.map V.ref)) := d5.get (d4.get (cx.get hB (by simp)) (by simpa using nbb.symm)) (by simpa using nbb.symm)
        obtain ⟨qs, rfl, hw⟩ := sA.ex
        have DT := (DZ.new (Ch.new (o := .tup [.ref sp, .int (n4 % room ss.length), .int (ks.getD i 0), .int (ks.getD i 0 * (n5 % 2))]) hT)).own (zs := ps.map V.ref ++ [.ref T]) hbl0 (g_new hT gbz) nbb
        refine ⟨DT, by omega, by omega, g_put nkl (g_new hT gkz), (BA.tk tkz gbz).add (b := ⟨ss, n4 % room ss.length, ks.getD i 0, ks.getD i 0 * (n5 % 2), sp⟩) hT gspz (hw.imp tkz) ?_, by simp; omega⟩
        rw [bi]
        exact bk_made sA l4 kb
  · clear D4 gk4 hbl
    rintro σ H1 ⟨u7, u8, u9, u10, um, u11, bs, ps, c', rfl, D5, c0', c1', gk5, B5, bi⟩
    walk_at "rd"
    refine comp_range (fun j ys σ H' => Ch [] H1 H' ∧ SS H' (PrO ins many) ((List.range j).map fun n => (false, n)) ys ∧ ∃ u, σ = [u]) (by rw [sizeLine_eq, Int.toNat_natCast]; omega) ⟨Ch.refl _ _, .nil, _, rfl⟩ ?_ ?_ ?_
    · rintro j ys σ H' hj ⟨_, ss, _⟩
      rw [ss.len]; simp
    · rintro j ys σ H' hj ⟨c2, ss, u, rfl⟩
      have hj : j < ins := by simpa using hj
      walk_at "rd"
      rename_i T hT
      have cT : Ch [] H' (upd H' T (.tup [.str "in", .int (0 + (j : Int))])) := Ch.new hT _
      refine ⟨?_, _, rfl⟩
      rw [List.range_succ, List.map_append]
      exact (ss.tk (tk_new cT)).snoc (s := (false, j)) (by rw [upd_same, Int.zero_add]; rfl) ⟨hj⟩
    rintro zs σ H2 ⟨c2, ss2, _⟩
    intro s1 hs1
    have cS : Ch [] H1 (upd H2 s1 (.lst zs)) := c2.trans (Ch.new hs1 _)
    have D6 := D5.new cS
    have B6 := B5.tk (tk_new cS) (cS.get B5.hb (by simp))
    have ss6 := ss2.tk (tk_new (Ch.new (o := .lst zs) hs1))
    have gs6 : (upd H2 s1 (.lst zs)) s1 = some (.lst zs) := upd_same
    have lz := ss2.len
    rw [List.length_map, List.length_range, Int.toNat_natCast] at lz
    generalize upd H2 s1 (.lst zs) = H6 at D6 B6 ss6 gs6 ⊢
    clear D5 B5 c2 ss2 hs1 cS gk5
    walk_at "rd"
    refine comp_range (fun j ys σ H' => Ch [] H6 H' ∧ SS H' (PrO ins many) ((List.range j).map fun n => (true, n)) ys ∧ ∃ u, σ = [u]) (by rw [sizeLine_eq, Int.toNat_natCast]; omega) ⟨Ch.refl _ _, .nil, _, rfl⟩ ?_ ?_ ?_
    · rintro j ys σ H' hj ⟨_, ss, _⟩
      rw [ss.len]; simp
    · rintro j ys σ H' hj ⟨c2, ss, u, rfl⟩
      have hj : j < many := by simpa using hj
      walk_at "rd"
      rename_i T hT
      have cT : Ch [] H' (upd H' T (.tup [.str "block", .int (0 + (j : Int))])) := Ch.new hT _
      refine ⟨?_, _, rfl⟩
      rw [List.range_succ, List.map_append]
      exact (ss.tk (tk_new cT)).snoc (s := (true, j)) (by rw [upd_same, Int.zero_add]; rfl) ⟨hj⟩
    rintro ys σ H7 ⟨c7, s7, _⟩
    intro D hD
    have cS : Ch [] H6 (upd H7 D (.lst ys)) := c7.trans (Ch.new hD _)
    have D8 := D6.new cS
    have B8 := B6.tk (tk_new cS) (cS.get B6.hb (by simp))
    have t8 := (ss6.tk (tk_new cS)).app (s7.tk (tk_new (Ch.new (o := .lst ys) hD)))
    have gs8 := cS.get gs6 (by simp)
    have gD8 : (upd H7 D (.lst ys)) D = some (.lst ys) := upd_same
    have ly := s7.len
    rw [List.length_map, List.length_range, Int.toNat_natCast] at ly
    generalize upd H7 D (.lst ys) = H8 at D8 B8 t8 gs8 gD8 ⊢
    clear D6 B6 ss6 gs6 hD cS s7 c7
    walk_at "rd"
    rename_i sm hsm
    refine cut_by (fun σ H' => ∃ (sl : Addr), σ = [some (.ref a), some (.ref b), some (.int (ins : Int)), some (.int (many : Int)), some (.ref kl), some (.ref bl), u7, some (.ref sm), u9, u10, um, u11, some (.ref sl)] ∧ Ch [] H8 H' ∧ H' sm = some (.lst (zs ++ ys)) ∧ H' sl = some (.lst []) ∧ H8 sl = none ∧ sm ≠ sl) ?_ ?_
    · walk_at "rd"
      rename_i sl hsl
      exact ⟨freeN hsm hsl, fun z => by rw [← z, upd_same] at hsl; cases hsl⟩
    · rintro σ' H9 ⟨sl, rfl, c9, gm9, gl9, fl, nms⟩
      have D9 := D8.new c9
      have B9 := B8.tk (tk_new c9) (c9.get B8.hb (by simp))
      have t9 := t8.tk (tk_new c9)
      obtain ⟨fl0, nsb⟩ := D8.free fl
      have nsl : bl ≠ sl := ne_of_none B8.hb fl
      have nmb : sm ≠ b := (ne_of_none D8.hb hsm).symm
      have lm : (zs ++ ys).length ≤ 40 := by rw [List.length_append]; omega
      have lm0 : 0 < (zs ++ ys).length := by rw [List.length_append]; omega
      generalize zs ++ ys = ws at gm9 t9 lm lm0
      generalize hws : (List.range (ins : Int).toNat).map (fun n => ((false, n) : Src)) ++ (List.range (many : Int).toNat).map (fun n => ((true, n) : Src)) = wss at t9
      clear D8 B8 t8 c9 gs8 gD8 hsm fl
      obtain ⟨_, hS9, hb9⟩ := id D9
      walk_at "rd"
      rename_i n3 G3 q1 q2 d3 e3
      have tk3 := tk_ch hb9 d3
      refine loop_range (fun j σ H' => ∃ (u7 um : Option V) (ss : List Src) (ys : List V) (c2 : Int), σ = [some (.ref a), some (.ref b), some (.int (ins : Int)), some (.int (many : Int)), some (.ref kl), some (.ref bl), u7, some (.ref sm), u9, u10, um, u11, some (.ref sl)] ∧ DQ K H H' a b ns c2 ∧ c' + 1 ≤ c2 ∧ c2 ≤ c' + 1 + (j : Int) ∧ BL H' bl ins many ks bs ps ∧ H' sm = some (.lst ws) ∧ SS H' (PrO ins many) wss ws ∧ H' sl = some (.lst ys) ∧ SS H' (PrO ins many) ss ys ∧ ss.length ≤ j)
        ⟨_, _, [], [], _, rfl, D9.next d3 e3, by omega, by omega, B9.tk tk3 (d3.get B9.hb (by simpa using nbb.symm)), d3.get gm9 (by simpa using nmb), t9.tk tk3, d3.get gl9 (by simpa using nsb.symm), .nil, by simp⟩ ?_ ?_
      · clear D9 B9 gm9 t9 gl9 hS9 hb9 d3 e3 tk3
        rintro j σ H1 hj ⟨u7, um, ss, ys, c2, rfl, DA, k0, k1, BA, gmA, tA, glA, sA, lA⟩
        obtain ⟨_, hSA, hbA⟩ := id DA
        have hj5 : j < 12 := by omega
        have lA2 := sA.len
        have lyA : ys.length < sizeLine := by rw [sizeLine_eq]; omega
        have hbA' := hbA
        walk_at "rd"
        · rename_i n G m0 m1 d e
          have tkG := tk_ch hbA d
          obtain ⟨p, r, g1, g2, g3⟩ := (tA.tk tkG).pick lm0 n
          have glG : G sl = some (.lst ys) := d.get glA (by simpa using nsb.symm)
          have DG := DA.next d e
          have tk2 : Tk H1 (upd G sl (.lst (ys ++ [.ref p]))) := fun q xs hq => tk_put glG q xs (tkG q xs hq)
          refine Atx.of g1 ?_
          clear glA lA2
          walk_at "rd"
          exact ⟨DG.own fl0 glG nsb, by omega, by omega, BA.tk tk2 (g_put nsl (d.get BA.hb (by simpa using nbb.symm))), g_put nms (d.get gmA (by simpa using nmb)), tA.tk tk2, upd_same, (sA.tk tk2).snoc (tk_put glG p _ g2) g3, by simp; omega⟩
      · clear D9 B9 gm9 t9 gl9 hS9 hb9 d3 e3 tk3
        rintro σ H1 ⟨u7, um, ss, ys, c2, rfl, DA, k0, k1, BA, gmA, tA, glA, sA, lA⟩
        walk_at "rd"
        rename_i wy hwy
        have cW : Ch [] H1 (upd H1 wy (.tup [.int (ins : Int), .ref bl, .ref sl])) := Ch.new hwy _
        obtain ⟨qs, rfl, hw⟩ := sA.ex
        rw [Int.toNat_natCast] at bi
        subst bi
        exact q wy bl sl ins bs ps ss qs c2 _ (DA.new cW) (by omega) (by omega) upd_same (Pk.ch ⟨BA.hb, BA.bt, fun b' hb' => by
          obtain ⟨n, hn⟩ := List.getElem?_of_mem hb'
          exact (BA.each n b' hn).ok, by omega, BA.acyc, glA, hw, fun r hr => (sA.pr r hr).lm, by omega⟩ cW) (by omega) (by omega) (by omega) nbb nsb
end
end

section
structure EnP (H : Hp) (e : Wr × Wr) (t : Addr) : Prop where
  ex : ∃ p q : Addr, H t = some (.tup [.ref p, .ref q]) ∧ H p = some (.tup (e.1.map kV)) ∧ H q = some (.tup (e.2.map kV))
abbrev EnAt (H : Hp) : List (Wr × Wr) → List Addr → Prop := Paired (EnP H)
theorem en_tk {H H' : Hp} (h : Tk H H') : ∀ {es : List (Wr × Wr)} {ts : List Addr}, EnAt H es ts → EnAt H' es ts
  | _, _, .nil => .nil
  | _, _, .cons ⟨p, q, a, b, c⟩ t => .cons ⟨p, q, h _ _ a, h _ _ b, h _ _ c⟩ (en_tk h t)
theorem en_snoc {H : Hp} {e : Wr × Wr} {t : Addr} (h : EnP H e t) : ∀ {es : List (Wr × Wr)} {ts : List Addr}, EnAt H es ts → EnAt H (es ++ [e]) (ts ++ [t])
  | _, _, .nil => .cons h .nil
  | _, _, .cons a t => .cons a (en_snoc h t)
theorem en_get {H : Hp} : ∀ {es : List (Wr × Wr)} {ts : List Addr}, EnAt H es ts → ∀ (i : Nat) (x : V), (ts.map V.ref)[i]? = some x → ∃ t e, x = .ref t ∧ es[i]? = some e ∧ EnP H e t
  | _, _, .nil, i, x, h => by simp at h
  | e :: es, t :: ts, .cons a r, 0, x, h => ⟨t, e, by simpa using h.symm, rfl, a⟩
  | e :: es, t :: ts, .cons a r, i + 1, x, h => by
    obtain ⟨t', e', e1, e2, e3⟩ := en_get r i x (by simpa using h)
    exact ⟨t', e', e1, by simpa using e2, e3⟩
structure EL (H H' : Hp) (el : Addr) (es : List (Wr × Wr)) : Prop where
  ch : Ch [] H H'
  fr : H el = none
  ex : ∃ ts : List Addr, H' el = some (.lst (ts.map V.ref)) ∧ EnAt H' es ts
theorem EL.add {H H1 : Hp} {el p r T : Addr} {es : List (Wr × Wr)} {ts : List Addr} {e : Wr × Wr} (c : Ch [] H H1) (fr : H el = none) (g : H1 el = some (.lst (ts.map V.ref))) (en : EnAt H1 es ts) (hp : H1 p = some (.tup (e.1.map kV))) (hr : H1 r = none) (hT : (upd H1 r (.tup (e.2.map kV))) T = none) :
    EL H (upd (upd (upd H1 r (.tup (e.2.map kV))) T (.tup [.ref p, .ref r])) el (.lst (ts.map V.ref ++ [.ref T]))) el (es ++ [e]) := by
  have c2 : Ch [] H1 (upd (upd H1 r (.tup (e.2.map kV))) T (.tup [.ref p, .ref r])) := (Ch.new hr _).trans (Ch.new hT _)
  have g2 := c2.get g (by simp)
  have tk : Tk (upd (upd H1 r (.tup (e.2.map kV))) T (.tup [.ref p, .ref r])) (upd (upd (upd H1 r (.tup (e.2.map kV))) T (.tup [.ref p, .ref r])) el (.lst (ts.map V.ref ++ [.ref T]))) := tk_put g2
  exact ⟨Ch.own fr (c.trans c2), fr, ts ++ [T], by rw [upd_same, List.map_append]; rfl, en_snoc ⟨p, r, tk _ _ upd_same, tk _ _ (c2.get hp (by simp)), tk _ _ (g_new hT upd_same)⟩ (en_tk (fun a xs h => tk a xs (tk_new c2 a xs h)) en)⟩
theorem sg_put {H0 H : Hp} {r : Addr} {us xs zs : List V} (h0 : H0 r = some (.lst us)) (hr : H r = some (.lst xs)) : ∀ {es : List (Wr × List Wr)} {ts : List Addr}, SgAt H0 H es ts → SgAt H0 (upd H r (.lst zs)) es ts
  | _, _, .nil => .nil
  | _, _, .cons ⟨p, a, qs, g1, g2, g3, g4, g5⟩ t => .cons ⟨p, a, qs, tk_put hr _ _ g1, tk_put hr _ _ g2, g_put (fun z => by rw [z, h0] at g5; cases g5) g3, g4.imp (tk_put hr), g5⟩ (sg_put h0 hr t)
theorem sg_rebase {H H0 H' : Hp} (c : Ch [] H H0) : ∀ {es : List (Wr × List Wr)} {ts : List Addr}, SgAt H0 H' es ts → SgAt H H' es ts
  | _, _, .nil => .nil
  | _, _, .cons ⟨p, a, qs, g1, g2, g3, g4, g5⟩ t => .cons ⟨p, a, qs, g1, g2, g3, g4, chFree c g5⟩ (sg_rebase c t)
theorem has_iff (es : List (Wr × Wr)) (k : Wr) : hasK es k = decide (0 < (sinksOf es k).length) := by
  unfold hasK sinksOf
  rw [List.length_map]
  induction es with
  | nil => rfl
  | cons e es ih =>
    rw [List.any_cons, List.filter_cons, ih]
    by_cases h : e.1 = k
    · simp [h]
    · simp [h]
theorem sinks_take {es : List (Wr × Wr)} {i : Nat} {e : Wr × Wr} (k : Wr) (h : es[i]? = some e) : sinksOf (es.take (i + 1)) k = sinksOf (es.take i) k ++ if e.1 = k then [e.2] else [] := by
  unfold sinksOf
  rw [List.take_add_one, h, List.filter_append, List.map_append]
  congr 1
  show ([e].filter fun e => decide (e.1 = k)).map (·.2) = _
  by_cases z : e.1 = k
  · simp [z]
  · simp [z]
theorem sca_keys (k : Wr) : ScaL (k.map kV) := ⟨fun x hx => by
  obtain ⟨y, _, rfl⟩ := List.mem_map.mp hx
  cases y with
  | inl i => exact .inl ⟨i, rfl⟩
  | inr x => exact .inr ⟨x, rfl⟩⟩
section
variable {P : Program} {w : World} {K : PySem.W.Frag} {mg : Str → Option Value} {base : Heap} {f : Addr} {fd : FuncData} {k : Nat}
theorem l24_1 : Lc (defScope (top 24)) "_law_ends" := by decide +kernel
theorem g24_range : Gi (defScope (top 24)) "range" := by decide +kernel
theorem g24_len : Gi (defScope (top 24)) "len" := by decide +kernel
theorem v24_0 : Vs (defScope (top 24)) "_law_pack_here" := by decide +kernel
theorem d24_0 : Nd "_law_pack_here" := by decide +kernel
theorem c24_0 : Nc "_law_pack_here" := by decide +kernel
theorem l24_2 : Lc (defScope (top 24)) "_law_k" := by decide +kernel
theorem v24_2 : Vs (defScope (top 24)) "_law_k" := by decide +kernel
theorem d24_2 : Nd "_law_k" := by decide +kernel
theorem c24_2 : Nc "_law_k" := by decide +kernel
theorem l24_3 : Lc (defScope (top 24)) "_law_j" := by decide +kernel
theorem v24_1 : Vs (defScope (top 24)) "_law_ends" := by decide +kernel
theorem d24_1 : Nd "_law_ends" := by decide +kernel
theorem c24_1 : Nc "_law_ends" := by decide +kernel
theorem v24_3 : Vs (defScope (top 24)) "_law_j" := by decide +kernel
theorem d24_3 : Nd "_law_j" := by decide +kernel
theorem c24_3 : Nc "_law_j" := by decide +kernel
theorem l24_4 : Lc (defScope (top 24)) "_law_signals_here" := by decide +kernel
def csc24_0 : Scope := { kind := PySem.ScopeKind.function, names := [(PySem.Str.ofString ".0", PySem.NameKind.local), (PySem.Str.ofString "_law_k", PySem.NameKind.local)], isGenerator := false, isCoroutine := false, more := [] : PySem.Scope }
theorem cok24_0 : CompOk csc24_0 (defScope (top 24)) (["_law_k"] : List Str) (["_law_pack_here", "_law_ends", "_law_k", "_law_j", "_law_signals_here", "_law_source", "_law_sinks"] : List Str) [] (["_law_k"] : List Str) := compOk rfl (by decide +kernel) (by decide +kernel) (by decide +kernel) (by decide +kernel) rfl (by decide +kernel)
theorem kq24_0_0 : (relab csc24_0 (defScope (top 24))).names.lookup (Str.ofString "_law_k") = some NameKind.local := by decide +kernel
theorem vq24_0_0 : Vs (relab csc24_0 (defScope (top 24))) "_law_k" := by decide +kernel
theorem dq24_0_0 : Nd "_law_k" := by decide +kernel
theorem cq24_0_0 : Nc "_law_k" := by decide +kernel
def csc24_1 : Scope := { kind := PySem.ScopeKind.function, names := [(PySem.Str.ofString ".0", PySem.NameKind.local), (PySem.Str.ofString "_law_k", PySem.NameKind.local)], isGenerator := false, isCoroutine := false, more := [] : PySem.Scope }
theorem cok24_1 : CompOk csc24_1 (defScope (top 24)) (["_law_k"] : List Str) (["_law_pack_here", "_law_ends", "_law_k", "_law_j", "_law_signals_here", "_law_source", "_law_sinks"] : List Str) [] (["_law_k"] : List Str) := compOk rfl (by decide +kernel) (by decide +kernel) (by decide +kernel) (by decide +kernel) rfl (by decide +kernel)
theorem kq24_1_0 : (relab csc24_1 (defScope (top 24))).names.lookup (Str.ofString "_law_k") = some NameKind.local := by decide +kernel
theorem vq24_1_0 : Vs (relab csc24_1 (defScope (top 24))) "_law_k" := by decide +kernel
theorem dq24_1_0 : Nd "_law_k" := by decide +kernel
theorem cq24_1_0 : Nc "_law_k" := by decide +kernel
theorem l24_5 : Lc (defScope (top 24)) "_law_source" := by decide +kernel
theorem l24_6 : Lc (defScope (top 24)) "_law_sinks" := by decide +kernel
def csc24_2 : Scope := { kind := PySem.ScopeKind.function, names := [ (PySem.Str.ofString ".0", PySem.NameKind.local), (PySem.Str.ofString "_law_one", PySem.NameKind.local), (PySem.Str.ofString "_law_sink", PySem.NameKind.local), (PySem.Str.ofString "_law_source", PySem.NameKind.free)], isGenerator := false, isCoroutine := false, more := [] : PySem.Scope }
theorem cok24_2 : CompOk csc24_2 (defScope (top 24)) (["_law_one", "_law_sink"] : List Str) (["_law_pack_here", "_law_ends", "_law_k", "_law_j", "_law_signals_here", "_law_source", "_law_sinks"] : List Str) [5] (["_law_one", "_law_sink", "_law_source"] : List Str) := compOk rfl (by decide +kernel) (by decide +kernel) (by decide +kernel) (by decide +kernel) rfl (by decide +kernel)
theorem kq24_2_1 : (relab csc24_2 (defScope (top 24))).names.lookup (Str.ofString "_law_sink") = some NameKind.local := by decide +kernel
theorem kq24_2_0 : (relab csc24_2 (defScope (top 24))).names.lookup (Str.ofString "_law_one") = some NameKind.local := by decide +kernel
theorem vq24_2_0 : Vs (relab csc24_2 (defScope (top 24))) "_law_one" := by decide +kernel
theorem dq24_2_0 : Nd "_law_one" := by decide +kernel
theorem cq24_2_0 : Nc "_law_one" := by decide +kernel
theorem vq24_2_2 : Vs (relab csc24_2 (defScope (top 24))) "_law_source" := by decide +kernel
theorem dq24_2_2 : Nd "_law_source" := by decide +kernel
theorem cq24_2_2 : Nc "_law_source" := by decide +kernel
theorem vq24_2_1 : Vs (relab csc24_2 (defScope (top 24))) "_law_sink" := by decide +kernel
theorem dq24_2_1 : Nd "_law_sink" := by decide +kernel
theorem cq24_2_1 : Nc "_law_sink" := by decide +kernel
theorem v24_6 : Vs (defScope (top 24)) "_law_sinks" := by decide +kernel
theorem d24_6 : Nd "_law_sinks" := by decide +kernel
theorem c24_6 : Nc "_law_sinks" := by decide +kernel
theorem v24_4 : Vs (defScope (top 24)) "_law_signals_here" := by decide +kernel
theorem d24_4 : Nd "_law_signals_here" := by decide +kernel
theorem c24_4 : Nc "_law_signals_here" := by decide +kernel
theorem v24_5 : Vs (defScope (top 24)) "_law_source" := by decide +kernel
theorem d24_5 : Nd "_law_source" := by decide +kernel
theorem c24_5 : Nc "_law_source" := by decide +kernel
def spLSig : Sp := fun vs H Q _ => ∃ (wy bl ol : Addr) (ins : Nat) (bs : List Bk) (ps : List Addr) (os : List Src) (ops : List Addr), vs = [.ref wy] ∧ H wy = some (.tup [.int (ins : Int), .ref bl, .ref ol]) ∧ Pk H bl ol ins bs ps os ops ∧ ins ≤ 20 ∧ bs.length ≤ 20 ∧ os.length ≤ 20 ∧
  ∀ D ts H', Ch [] H H' → H D = none → H' D = some (.lst (ts.map V.ref)) → SgAt H H' (sigOf (endsB bs ++ endsO os) ins bs.length) ts → Q (.ref D) H'
theorem scLSig : FnScope ["_law_pack_here", "_law_ends", "_law_k", "_law_j", "_law_signals_here", "_law_source", "_law_sinks"] ["_law_pack_here"] (defScope (top 24)) := ⟨rfl, rfl, rfl, by decide +kernel, rfl, by decide +kernel, by decide +kernel⟩
theorem ok_lsig (F : Fun K "_law_signals" "_law_signals" (top 24) f fd) (z_len : mg "len" = none) (z_range : mg "range" = none) : FnOk P w K mg base CX0 (k + 1) f fd ["_law_pack_here"] spLSig := by
  have nd := scLSig.nd
  refine F.ok scLSig (fun vs H Q E h => by obtain ⟨wy, bl, ol, ins, bs, ps, os, ops, rfl, _⟩ := h; rfl) (fun cdv A outer s H vs Q E hr h => ?_)
  obtain ⟨wy, bl, ol, ins, bs, ps, os, ops, rfl, hw, pk, hi, hb, ho, q⟩ := h
  have hbl := pk.hb
  have hol := pk.ho
  have lp := Paired.length pk.bt
  have lo := Paired.length pk.ow
  rw [List.length_map] at lo
  refine ⟨_, (Pr.h (qpss_cons (qps_set (i := 1) nd rfl l24_1 (qpe_lst qpa_nil))
 (qpss_cons (qps_loop PassesOwn.never rfl (qpi_range1 g24_range z_range (qpa_cons (qpe_callB call_len_seq g24_len z_len PySem.boot_len (qpa_cons (qpe_ix ixa_tup (qpe_var (i := 0) rfl v24_0 d24_0 c24_0) qpe_int (fun _ _ => rfl)) qpa_nil se_Subscript) nn_len gd_len) qpa_nil se_Call)) (qpg_name (i := 2) nd rfl l24_2)
  (qpss_one (qps_loop PassesOwn.never rfl (qpi_range1 g24_range z_range (qpa_cons (qpe_callB call_len_seq g24_len z_len PySem.boot_len (qpa_cons (qpe_ix ixa_tup (qpe_ix ixa_list (qpe_ix ixa_tup (qpe_var (i := 0) rfl v24_0 d24_0 c24_0) qpe_int (fun _ _ => rfl)) (qpe_var (i := 2) rfl v24_2 d24_2 c24_2) (fun _ _ => rfl)) qpe_int (fun _ _ => rfl)) qpa_nil se_Subscript) nn_len gd_len) qpa_nil se_Call)) (qpg_name (i := 3) nd rfl l24_3)
  (qpss_one (qps_expr (qpe_bm PySem.F.plainAttrs_list PySem.F.slot_list_append PySem.F.type_list_append mt_append (qpe_var (i := 1) rfl v24_1 d24_1 c24_1) (qpa_cons (qpe_tup (qpa_cons (qpe_ix ixa_tup (qpe_ix ixa_tup (qpe_ix ixa_list (qpe_ix ixa_tup (qpe_var (i := 0) rfl v24_0 d24_0 c24_0) qpe_int (fun _ _ => rfl)) (qpe_var (i := 2) rfl v24_2 d24_2 c24_2) (fun _ _ => rfl)) qpe_int (fun _ _ => rfl)) (qpe_var (i := 3) rfl v24_3 d24_3 c24_3) (fun _ _ => rfl)) (qpa_cons (qpe_tup (qpa_cons qpe_str (qpa_cons (qpe_var (i := 2) rfl v24_2 d24_2 c24_2) (qpa_cons (qpe_var (i := 3) rfl v24_3 d24_3 c24_3) qpa_nil se_Name) se_Name) se_Constant)) qpa_nil se_Tuple) se_Subscript)) qpa_nil se_Tuple)))))))
 (qpss_cons (qps_loop PassesOwn.never rfl (qpi_range1 g24_range z_range (qpa_cons (qpe_callB call_len_seq g24_len z_len PySem.boot_len (qpa_cons (qpe_ix ixa_tup (qpe_var (i := 0) rfl v24_0 d24_0 c24_0) qpe_int (fun _ _ => rfl)) qpa_nil se_Subscript) nn_len gd_len) qpa_nil se_Call)) (qpg_name (i := 2) nd rfl l24_2)
  (qpss_one (qps_expr (qpe_bm PySem.F.plainAttrs_list PySem.F.slot_list_append PySem.F.type_list_append mt_append (qpe_var (i := 1) rfl v24_1 d24_1 c24_1) (qpa_cons (qpe_tup (qpa_cons (qpe_ix ixa_list (qpe_ix ixa_tup (qpe_var (i := 0) rfl v24_0 d24_0 c24_0) qpe_int (fun _ _ => rfl)) (qpe_var (i := 2) rfl v24_2 d24_2 c24_2) (fun _ _ => rfl)) (qpa_cons (qpe_tup (qpa_cons qpe_str (qpa_cons (qpe_var (i := 2) rfl v24_2 d24_2 c24_2) qpa_nil se_Name) se_Constant)) qpa_nil se_Tuple) se_Subscript)) qpa_nil se_Tuple)))))
 (qpss_cons (qps_set (i := 4) nd rfl l24_4 (qpe_lst qpa_nil))
 (qpss_cons (qps_loop PassesOwn.never rfl (qpi_list (qpe_op op_cat (qpe_comp rfl cok24_0 (qpi_range1 g24_range z_range (qpa_cons (qpe_ix ixa_tup (qpe_var (i := 0) rfl v24_0 d24_0 c24_0) qpe_int (fun _ _ => rfl)) qpa_nil se_Subscript)) (fun _ _ _ _ _ => (qpg_name (i := 0) cok24_0.nd rfl (Or.inl kq24_0_0) (Or.inr kq24_0_0))) (fun _ _ _ _ _ => qpif_nil) (fun _ _ _ _ _ => (qpe_tup (qpa_cons qpe_str (qpa_cons (qpe_var (i := 0) rfl vq24_0_0 dq24_0_0 cq24_0_0) qpa_nil se_Name) se_Constant)))) (qpe_comp rfl cok24_1 (qpi_range1 g24_range z_range (qpa_cons (qpe_callB call_len_seq g24_len z_len PySem.boot_len (qpa_cons (qpe_ix ixa_tup (qpe_var (i := 0) rfl v24_0 d24_0 c24_0) qpe_int (fun _ _ => rfl)) qpa_nil se_Subscript) nn_len gd_len) qpa_nil se_Call)) (fun _ _ _ _ _ => (qpg_name (i := 0) cok24_1.nd rfl (Or.inl kq24_1_0) (Or.inr kq24_1_0))) (fun _ _ _ _ _ => qpif_nil) (fun _ _ _ _ _ => (qpe_tup (qpa_cons qpe_str (qpa_cons (qpe_var (i := 0) rfl vq24_1_0 dq24_1_0 cq24_1_0) qpa_nil se_Name) se_Constant)))))) (qpg_name (i := 5) nd rfl l24_5)
  (qpss_cons (qps_setC (i := 6) nd rfl l24_6 rfl cok24_2 (qpi_list (qpe_var (i := 1) rfl v24_1 d24_1 c24_1)) (fun _ _ _ _ _ => (qpg_tupK K 2 rfl rfl (qpgs_cons (qpg_name (i := 0) cok24_2.nd rfl (Or.inl kq24_2_0) (Or.inr kq24_2_0)) (qpgs_cons (qpg_name (i := 1) cok24_2.nd rfl (Or.inl kq24_2_1) (Or.inr kq24_2_1)) qpgs_nil)))) (fun _ _ _ _ _ => (qpif_one (qpt_cmpR (op_eqT hr.units) (qpe_var (i := 0) rfl vq24_2_0 dq24_2_0 cq24_2_0) (qpe_var (i := 2) rfl vq24_2_2 dq24_2_2 cq24_2_2) (nomark _)))) (fun _ _ _ _ _ => (qpe_var (i := 1) rfl vq24_2_1 dq24_2_1 cq24_2_1)) rfl)
 (qpss_one (qps_if (qpt_cmpR op_gt (qpe_callB call_len_seq g24_len z_len PySem.boot_len (qpa_cons (qpe_var (i := 6) rfl v24_6 d24_6 c24_6) qpa_nil se_Name) nn_len gd_len) qpe_int (nomark _))
  (qpss_one (qps_expr (qpe_bm PySem.F.plainAttrs_list PySem.F.slot_list_append PySem.F.type_list_append mt_append (qpe_var (i := 4) rfl v24_4 d24_4 c24_4) (qpa_cons (qpe_tup (qpa_cons (qpe_var (i := 5) rfl v24_5 d24_5 c24_5) (qpa_cons (qpe_var (i := 6) rfl v24_6 d24_6 c24_6) qpa_nil se_Name) se_Name)) qpa_nil se_Tuple))))
  qpss_nil))))
 (qpss_one (qps_ret (qpe_var (i := 4) rfl v24_4 d24_4 c24_4))))))))), ?_⟩
  (try dsimp only [cxOf])
  walk_at "rd"
  rename_i el hel
  refine loop_range (fun i σ H' => ∃ u2 u3, σ = [some (.ref wy), some (.ref el), u2, u3, none, none, none] ∧ EL H H' el (endsB (bs.take i))) ⟨_, _, rfl, Ch.new hel _, hel, [], upd_same, .nil⟩ ?_ ?_
  · rintro i σ H1 hi ⟨u2, u3, rfl, e1⟩
    have hib : i < bs.length := by rw [lp]; simpa using hi
    obtain ⟨p, b, k1, k2, ⟨k3, sps, k4, k5⟩⟩ := bs_at pk.bt i hib
    have k1 : atI (ps.map V.ref) (0 + (i : Int)) = some (.ref p) := by rw [Int.zero_add]; exact k1
    have lsp := Paired.length k5
    rw [List.length_map] at lsp
    have b4 := (pk.ok b (List.mem_of_getElem? k2)).s4
    have hw1 := e1.ch.get hw (by simp)
    have hbl1 := e1.ch.get hbl (by simp)
    have k31 := e1.ch.get k3 (by simp)
    have k41 := e1.ch.get k4 (by simp)
    rw [endsB_take k2]
    have le1 := endsB_len (bs := bs.take i) fun b hb => (pk.ok b (List.mem_of_mem_take hb)).s4
    rw [List.length_take] at le1
    generalize endsB (bs.take i) = es at e1 le1 ⊢
    walk_at "rd"
    refine loop_range (fun j σ H' => ∃ u3, σ = [some (.ref wy), some (.ref el), some (.int (0 + (i : Int))), u3, none, none, none] ∧ EL H H' el (es ++ endsAt i (b.ss.take j))) ⟨_, rfl, by rw [List.take_zero]; simpa [endsAt] using e1⟩ ?_ ?_
    · clear hw1 hbl1 k31 k41
      rintro j σ H2 hj ⟨u3, rfl, e2⟩
      have hj : j < sps.length := by simpa using hj
      obtain ⟨pl, kx, z1, z2, z3⟩ := ws_get k5 j _ (List.getElem?_eq_getElem (by rw [List.length_map]; exact hj))
      rw [List.getElem?_map] at z2
      obtain ⟨sr, es', rfl⟩ := Option.map_eq_some_iff.mp z2
      have jk : atI (sps.map V.ref) (0 + (j : Int)) = some (.ref pl) := by rw [Int.zero_add, ← z1]; exact atI_nat (List.getElem?_eq_getElem (by rw [List.length_map]; exact hj))
      rw [endsAt_take es', ← List.append_assoc]
      have le2 : (es ++ endsAt i (b.ss.take j)).length ≤ 200 := by rw [List.length_append, endsAt_len, List.length_take]; omega
      generalize es ++ endsAt i (b.ss.take j) = ee at e2 le2 ⊢
      obtain ⟨ch2, fr2, ts, gt, en⟩ := e2
      have hw1 := ch2.get hw (by simp)
      have hbl1 := ch2.get hbl (by simp)
      have k31 := ch2.get k3 (by simp)
      have k41 := ch2.get k4 (by simp)
      have lt := Paired.length en
      have ltz : (ts.map V.ref).length < sizeLine := by rw [List.length_map, sizeLine_eq]; omega
      walk_at "rd"
      rename_i r hr T hT
      have := EL.add (e := (srcK sr, sinkB i j)) (p := pl) ch2 fr2 gt en (ch2.get z3 (by simp)) hr (T := T) (by
        have : (sinkB i j).map kV = [V.str "block", .int (0 + (i : Int)), .int (0 + (j : Int))] := by rw [Int.zero_add, Int.zero_add]; rfl
        show (upd H2 r (.tup ((sinkB i j).map kV))) T = none
        rw [this]; exact hT)
      have e3 : (sinkB i j).map kV = [V.str "block", .int (0 + (i : Int)), .int (0 + (j : Int))] := by rw [Int.zero_add, Int.zero_add]; rfl
      rw [show ((srcK sr, sinkB i j) : Wr × Wr).2.map kV = (sinkB i j).map kV from rfl, e3] at this
      exact this
    · rintro σ H2 ⟨u3, rfl, e2⟩
      have : (Int.toNat ((sps.map V.ref).length : Int)) = b.ss.length := by rw [Int.toNat_natCast, List.length_map, lsp]
      rw [this, List.take_length] at e2
      exact ⟨_, _, rfl, e2⟩
  · rintro σ H1 ⟨u2, u3, rfl, e1⟩
    have : (Int.toNat ((ps.map V.ref).length : Int)) = bs.length := by rw [Int.toNat_natCast, List.length_map, lp]
    rw [this, List.take_length] at e1
    have le1 := endsB_len (bs := bs) fun b hb => (pk.ok b hb).s4
    generalize endsB bs = es at e1 le1 q
    have hw1 := e1.ch.get hw (by simp)
    have hol1 := e1.ch.get hol (by simp)
    walk_at "rd"
    refine loop_range (fun j σ H' => ∃ u2, σ = [some (.ref wy), some (.ref el), u2, u3, none, none, none] ∧ EL H H' el (es ++ endsO (os.take j))) ⟨_, rfl, by rw [List.take_zero]; simpa [endsO] using e1⟩ ?_ ?_
    · clear hw1 hol1
      rintro j σ H2 hj ⟨u2, rfl, e2⟩
      have hj : j < ops.length := by simpa using hj
      obtain ⟨pl, kx, z1, z2, z3⟩ := ws_get pk.ow j _ (List.getElem?_eq_getElem (by rw [List.length_map]; exact hj))
      rw [List.getElem?_map] at z2
      obtain ⟨sr, es', rfl⟩ := Option.map_eq_some_iff.mp z2
      have jk : atI (ops.map V.ref) (0 + (j : Int)) = some (.ref pl) := by rw [Int.zero_add, ← z1]; exact atI_nat (List.getElem?_eq_getElem (by rw [List.length_map]; exact hj))
      rw [endsO_take es', ← List.append_assoc]
      have le2 : (es ++ endsO (os.take j)).length ≤ 200 := by rw [List.length_append, endsO_len, List.length_take]; omega
      generalize es ++ endsO (os.take j) = ee at e2 le2 ⊢
      obtain ⟨ch2, fr2, ts, gt, en⟩ := e2
      have hw1 := ch2.get hw (by simp)
      have hol1 := ch2.get hol (by simp)
      have lt := Paired.length en
      have ltz : (ts.map V.ref).length < sizeLine := by rw [List.length_map, sizeLine_eq]; omega
      walk_at "rd"
      rename_i r hr T hT
      have e3 : (sinkO j).map kV = [V.str "out", .int (0 + (j : Int))] := by rw [Int.zero_add]; rfl
      have := EL.add (e := (srcK sr, sinkO j)) (p := pl) ch2 fr2 gt en (ch2.get z3 (by simp)) hr (T := T) (by
        show (upd H2 r (.tup ((sinkO j).map kV))) T = none
        rw [e3]; exact hT)
      rw [show ((srcK sr, sinkO j) : Wr × Wr).2.map kV = (sinkO j).map kV from rfl, e3] at this
      exact this
    · rintro σ H2 ⟨u2, rfl, e2⟩
      have : (Int.toNat ((ops.map V.ref).length : Int)) = os.length := by rw [Int.toNat_natCast, List.length_map, lo]
      rw [this, List.take_length] at e2
      have le2 : (es ++ endsO os).length ≤ 200 := by rw [List.length_append, endsO_len]; omega
      generalize es ++ endsO os = ee at e2 le2 q
      clear e1 hw1 hol1
      obtain ⟨ch2, fr2, ts, gt, en⟩ := e2
      have hw2 := ch2.get hw (by simp)
      have hbl2 := ch2.get hbl (by simp)
      walk_at "rd"
      rename_i sh hsh
      have c3 : Ch [] H2 (upd H2 sh (.lst [])) := Ch.new hsh _
      have gh3 : (upd H2 sh (.lst [])) sh = some (.lst []) := upd_same
      have ch3 := ch2.trans c3
      have gt3 := c3.get gt (by simp)
      have en3 := en_tk (tk_new c3) en
      have hw3 := c3.get hw2 (by simp)
      have hbl3 := c3.get hbl2 (by simp)
      have nes : el ≠ sh := ne_of_none gt hsh
      have hsh0 : H sh = none := chFree ch2 hsh
      generalize upd H2 sh (.lst []) = H3 at gh3 ch3 gt3 en3 hw3 hbl3 ⊢
      clear ch2 gt en hw2 hbl2 hsh c3
      refine comp_range (fun j ys σ H' => Ch [] H3 H' ∧ SS H' (PrO ins bs.length) ((List.range j).map fun n => (false, n)) ys ∧ ∃ u, σ = [u]) (by rw [sizeLine_eq, Int.toNat_natCast]; omega) ⟨Ch.refl _ _, .nil, _, rfl⟩ ?_ ?_ ?_
      · rintro j ys σ H' hj ⟨_, ss, _⟩
        rw [ss.len]; simp
      · rintro j ys σ H' hj ⟨c2, ss, u, rfl⟩
        have hj : j < ins := by simpa using hj
        walk_at "rd"
        rename_i T hT
        have cT : Ch [] H' (upd H' T (.tup [.str "in", .int (0 + (j : Int))])) := Ch.new hT _
        refine ⟨?_, _, rfl⟩
        rw [List.range_succ, List.map_append]
        exact (ss.tk (tk_new cT)).snoc (s := (false, j)) (by rw [upd_same, Int.zero_add]; rfl) ⟨hj⟩
      rintro zs σ H4 ⟨c4, ss4, _⟩
      intro D1 hD1
      have cS : Ch [] H3 (upd H4 D1 (.lst zs)) := c4.trans (Ch.new hD1 _)
      have ss5 := ss4.tk (tk_new (Ch.new (o := .lst zs) hD1))
      have gz5 : (upd H4 D1 (.lst zs)) D1 = some (.lst zs) := upd_same
      have lz := ss4.len
      rw [List.length_map, List.length_range, Int.toNat_natCast] at lz
      have hw5 := cS.get hw3 (by simp)
      have hbl5 := cS.get hbl3 (by simp)
      generalize upd H4 D1 (.lst zs) = H5 at cS ss5 gz5 hw5 hbl5 ⊢
      clear c4 ss4 hD1 hw3 hbl3
      walk_at "rd"
      refine comp_range (fun j ys σ H' => Ch [] H5 H' ∧ SS H' (PrO ins bs.length) ((List.range j).map fun n => (true, n)) ys ∧ ∃ u, σ = [u]) (by rw [sizeLine_eq, Int.toNat_natCast]; rw [List.length_map]; omega) ⟨Ch.refl _ _, .nil, _, rfl⟩ ?_ ?_ ?_
      · rintro j ys σ H' hj ⟨_, ss, _⟩
        rw [ss.len]; simp
      · rintro j ys σ H' hj ⟨c2, ss, u, rfl⟩
        have hj : j < bs.length := by rw [lp]; simpa using hj
        walk_at "rd"
        rename_i T hT
        have cT : Ch [] H' (upd H' T (.tup [.str "block", .int (0 + (j : Int))])) := Ch.new hT _
        refine ⟨?_, _, rfl⟩
        rw [List.range_succ, List.map_append]
        exact (ss.tk (tk_new cT)).snoc (s := (true, j)) (by rw [upd_same, Int.zero_add]; rfl) ⟨hj⟩
      rintro ys σ H6 ⟨c6, s6, _⟩
      intro D2 hD2
      have cT : Ch [] H5 (upd H6 D2 (.lst ys)) := c6.trans (Ch.new hD2 _)
      have t7 := (ss5.tk (tk_new cT)).app (s6.tk (tk_new (Ch.new (o := .lst ys) hD2)))
      have gz7 := cT.get gz5 (by simp)
      have gy7 : (upd H6 D2 (.lst ys)) D2 = some (.lst ys) := upd_same
      have ly := s6.len
      rw [List.length_map, List.length_range, Int.toNat_natCast, List.length_map, ← lp] at ly
      have c37 := cS.trans cT
      generalize upd H6 D2 (.lst ys) = H7 at cT t7 gz7 gy7 c37 ⊢
      clear c6 s6 hD2 cS cT ss5 gz5 hw5 hbl5
      walk_at "rd"
      rename_i sx hsx
      have c8 : Ch [] H3 (upd H7 sx (.lst (zs ++ ys))) := c37.trans (Ch.new hsx _)
      have gx8 : (upd H7 sx (.lst (zs ++ ys))) sx = some (.lst (zs ++ ys)) := upd_same
      have t8 := t7.tk (tk_new (Ch.new (o := .lst (zs ++ ys)) hsx))
      have gh8 := c8.get gh3 (by simp)
      have gt8 := c8.get gt3 (by simp)
      have en8 := en_tk (tk_new c8) en3
      have ch8 := ch3.trans c8
      have nxs : sx ≠ sh := (ne_of_none (c37.get gh3 (by simp)) hsx).symm
      have kc8 : KC (upd H7 sx (.lst (zs ++ ys))) (allK ins bs.length) (zs ++ ys) := ⟨by
        obtain ⟨qs, e, w⟩ := t8.ex
        refine ⟨qs, e, ?_⟩
        unfold allK
        rw [List.map_append, List.map_map, List.map_map, Int.toNat_natCast, Int.toNat_natCast, List.length_map, ← lp] at w
        exact w⟩
      have lzy : (zs ++ ys).length ≤ 40 := by rw [List.length_append]; omega
      generalize upd H7 sx (.lst (zs ++ ys)) = H8 at c8 gx8 gh8 gt8 en8 ch8 kc8 ⊢
      generalize zs ++ ys = xx at gx8 kc8 lzy
      clear t8 t7 gz7 gy7 c37 hsx gh3 gt3 en3 ch3 c8
      have lk := kc8.len
      unfold sigOf at q
      generalize allK ins bs.length = ak at kc8 lk q
      have lts := Paired.length en8
      refine loop_list (xs := xx) (fun i σ H' => ∃ (u5 u6 : Option V) (ts' : List Addr), σ = [some (.ref wy), some (.ref el), u2, u3, some (.ref sh), u5, u6] ∧ Ch [sh] H8 H' ∧ H' sh = some (.lst (ts'.map V.ref)) ∧ SgAt H8 H' (((ak.take i).filter (hasK ee)).map fun k => (k, sinksOf ee k)) ts' ∧ ts'.length ≤ i) ⟨_, _, [], rfl, Ch.refl _ _, gh8, .nil, by simp⟩ ?_ ?_ ?_
      · rintro i σ H' hi ⟨_, _, _, rfl, c, _⟩
        exact SqL.of (c.get gx8 (by simpa using nxs))
      · rintro i z σ H' hz ⟨u5, u6, ts', rfl, c, gh, sg, lt⟩
        obtain ⟨p, k, rfl, g1, g2⟩ := kc8.get hz
        have hi : i < xx.length := (List.getElem?_eq_some_iff.mp hz).1
        have tk := tk_ch gh8 c
        have g3 := tk _ _ g2
        have gt9 : H' el = some (.lst (ts.map V.ref)) := c.get gt8 (by simpa using nes)
        have en9 := en_tk tk en8
        have sck := sca_keys k
        walk_at "rd"
        refine comp_list (ts.map V.ref) (fun j ys σ H'' => H'' = H' ∧ KC H' (sinksOf (ee.take j) k) ys ∧ ∃ u v, σ = [u, v, some (.ref p)]) (by rw [sizeLine_eq, List.length_map]; omega) ⟨rfl, ⟨[], rfl, .nil⟩, _, _, rfl⟩ ?_ ?_ ?_
        · rintro j ys σ H'' hj ⟨rfl, kc, _⟩
          refine ⟨?_, SqL.of gt9⟩
          rw [kc.len]
          exact Nat.le_trans (sinks_len _ _) (by rw [List.length_take]; omega)
        · rintro j ys σ H'' z hz ⟨rfl, kc, u, v, rfl⟩
          obtain ⟨t, e, rfl, w1, ⟨p1, q1, w2, w3, w4⟩⟩ := en_get en9 j z hz
          have sce := sca_keys e.1
          rw [sinks_take k w1]
          walk_at "rd"
          refine ite2 (fun h => ?_) (fun h => ?_)
          · have h : e.1 = k := kVs_inj (of_decide_eq_true h)
            walk_at "rd"
            rw [if_pos h]
            exact ⟨kc.snoc w4, _, _, rfl⟩
          · have h : ¬ e.1 = k := fun z => h (by rw [z]; simp)
            rw [if_neg h, List.append_nil]
            exact ⟨rfl, kc, _, _, rfl⟩
        rintro ys σ H'' ⟨rfl, kc, _⟩
        rw [List.length_map, ← lts, List.take_length] at kc
        intro sk hsk
        have cK : Ch [] H'' (upd H'' sk (.lst ys)) := Ch.new hsk _
        have kc2 := kc.ch cK
        have gsk : (upd H'' sk (.lst ys)) sk = some (.lst ys) := upd_same
        have ghk := cK.get gh (by simp)
        have sgk := sg_ch cK sg
        have g3k := cK.get g3 (by simp)
        have c8k : Ch [sh] H8 (upd H'' sk (.lst ys)) := c.trans cK.wk
        have fsk : H8 sk = none := by
          have ne : sk ≠ sh := (ne_of_none gh hsk).symm
          cases e : H8 sk with
          | none => rfl
          | some o => rw [c.get e (by simpa using ne)] at hsk; cases hsk
        generalize upd H'' sk (.lst ys) = H9 at kc2 gsk ghk sgk g3k c8k ⊢
        have lys := kc2.len
        have ltz : (ts'.map V.ref).length < sizeLine := by rw [List.length_map, sizeLine_eq]; omega
        have nks : sh ≠ sk := ne_of_none gh8 fsk
        have hki := has_iff ee k
        rw [← lys] at hki
        rw [List.take_add_one, g1, List.filter_append, List.map_append]
        clear gh g3 gt9 en9 c cK hsk kc sg
        walk_at "rd"
        refine ite2 (fun h => ?_) (fun h => ?_)
        · have h : 0 < ys.length := by simpa using h
          rw [decide_eq_true h] at hki
          have ef : ((some k).toList.filter (hasK ee)).map (fun k => (k, sinksOf ee k)) = [(k, sinksOf ee k)] := by
            rw [show (some k).toList = [k] from rfl, List.filter_cons, if_pos hki]; rfl
          rw [ef]
          obtain ⟨qs, eqs, hws⟩ := kc2.ex
          have gsq : H9 sk = some (.lst (qs.map V.ref)) := by rw [gsk, eqs]
          walk_at "rd"
          rename_i T hT
          have cT : Ch [] H9 (upd H9 T (.tup [.ref p, .ref sk])) := Ch.new hT _
          have ghT := cT.get ghk (by simp)
          exact ⟨(show _ = some (HO.lst ((ts' ++ [T]).map V.ref)) from by rw [upd_same, List.map_append]; rfl), sg_put gh8 ghT (sg_snoc ⟨p, sk, qs, upd_same, cT.get g3k (by simp), cT.get gsq (by simp), hws.ch cT, fsk⟩ (sg_ch cT sgk)), by simp; omega⟩
        · have h : ¬ 0 < ys.length := by simpa using h
          rw [decide_eq_false h] at hki
          have ef : ((some k).toList.filter (hasK ee)).map (fun k => (k, sinksOf ee k)) = [] := by
            rw [show (some k).toList = [k] from rfl, List.filter_cons, if_neg (by rw [hki]; decide)]; rfl
          rw [ef, List.append_nil]
          walk_at "rd"
          omega
      · rintro σ H' ⟨u5, u6, ts', rfl, c, gh, sg, lt⟩
        rw [lk, List.take_length] at sg
        walk_at "rd"
        refine q sh ts' _ (fun b o e n => ?_) hsh0 gh (sg_rebase ch8 sg)
        exact c.get (ch8.get e n) (by simpa using fun z => by rw [z, hsh0] at e; cases e)
end
end

section
theorem scr_chg {K : PySem.W.Frag} {H H' : Hp} {a r : Addr} {ns : List Int} {o : HO} (S : Scr K H a ns) (hr : H r = some o) (no : ∀ o' xs, o ≠ .frz o' (.lst xs)) (c : Ch [r] H H') : Scr K H' a ns := by
  refine ⟨S.1, ?_⟩
  rcases S.2 with ⟨o', h⟩ | h
  · exact .inl ⟨o', c.get h (by
      simp only [List.mem_singleton]
      intro z
      rw [z, hr] at h
      exact no _ _ (Option.some.inj h))⟩
  · exact .inr h
theorem Ch.inst {H : Hp} {x dx C : Addr} (hx : H x = none) (hd : H dx = none) (n : dx ≠ x) : Ch [] H (upd (upd H dx (.own x)) x (.ins C dx [])) := (Ch.new hd _).trans (Ch.new (by rw [upd_ne n.symm]; exact hx) _)
theorem PackAt.ch {C : Addr} {H H' : Hp} {x : Addr} {ins : Nat} {tb to : Addr} {bs : List Bk} {ps : List Addr} {os : List Src} {ops : List Addr} (s : PackAt C H x ins tb to bs ps os ops) (c : Ch [] H H') : PackAt C H' x ins tb to bs ps os ops :=
  ⟨s.ob.imp fun _ h => c.get h (by simp), c.get s.tb (by simp), bs_ch c s.bt, c.get s.to (by simp), s.ow.ch c⟩
theorem eqv_keys (n : Nat) (H : Hp) : ∀ k : Wr, Paired (Eqv (n + 1) H) (k.map kV) (k.map kV)
  | [] => .nil
  | x :: k => .cons (.inl ⟨x, rfl, rfl⟩) (eqv_keys n H k)
theorem eqv_tup {n : Nat} {H : Hp} {p r : Addr} {k : Wr} (l : k.length ≤ 300) (h1 : H p = some (.tup (k.map kV))) (h2 : H r = some (.tup (k.map kV))) : Eqv (n + 2) H (.ref p) (.ref r) := .inr (.inl ⟨p, r, _, _, rfl, rfl, h1, h2, eqv_keys n H k, by simpa using l⟩)
theorem eqv_ws {n : Nat} {H : Hp} : ∀ {ks : List Wr} {ps rs : List Addr}, (∀ k ∈ ks, k.length ≤ 300) → WsAt H ks ps → WsAt H ks rs → Paired (Eqv (n + 2) H) (ps.map V.ref) (rs.map V.ref)
  | _, _, _, _, .nil, .nil => .nil
  | _, _, _, l, .cons a t, .cons b r => .cons (eqv_tup (l _ (by simp)) a b) (eqv_ws (fun k hk => l k (by simp [hk])) t r)
structure Sml (e : Wr × List Wr) : Prop where
  k : e.1.length ≤ 300
  s : ∀ x ∈ e.2, x.length ≤ 300
  l : e.2.length ≤ 300
theorem eqv_sg {H H0 H1 : Hp} : ∀ {es : List (Wr × List Wr)} {ts rs : List Addr}, (∀ e ∈ es, Sml e) → SgAt H0 H es ts → SgAt H1 H es rs → Paired (Eqv 4 H) (ts.map V.ref) (rs.map V.ref)
  | _, _, _, _, .nil, .nil => .nil
  | e :: _, t :: _, r :: _, l, .cons ⟨p, a, qs, g1, g2, g3, g4, _⟩ ta, .cons ⟨p', a', qs', h1, h2, h3, h4, _⟩ tb => by
    obtain ⟨l1, l2, l3⟩ := l e (by simp)
    have z := Paired.length g4
    refine .cons ?_ (eqv_sg (fun e he => l e (by simp [he])) ta tb)
    refine .inr (.inl ⟨t, r, _, _, rfl, rfl, g1, h1, .cons (eqv_tup l1 g2 h2) (.cons ?_ .nil), by simp⟩)
    exact .inr (.inr ⟨a, a', _, _, rfl, rfl, g3, h3, eqv_ws l2 g4 h4, by rw [List.length_map]; omega⟩)
theorem sml_all {ins : Nat} {bs : List Bk} {os : List Src} (l1 : (endsB bs ++ endsO os).length ≤ 300) : ∀ e ∈ sigOf (endsB bs ++ endsO os) ins bs.length, Sml e := by
  intro e he
  unfold sigOf at he
  obtain ⟨k, hk, rfl⟩ := List.mem_map.mp he
  refine ⟨?_, fun x hx => ?_, Nat.le_trans (sinks_len _ _) l1⟩
  · have := (List.mem_filter.mp hk).1
    unfold allK at this
    rcases List.mem_append.mp this with z | z <;> obtain ⟨j, _, rfl⟩ := List.mem_map.mp z <;> exact (by decide : 2 ≤ 300)
  · unfold sinksOf at hx
    obtain ⟨y, hy, rfl⟩ := List.mem_map.mp hx
    have := (List.mem_filter.mp hy).1
    rcases List.mem_append.mp this with z | z
    · unfold endsB at z
      obtain ⟨q, _, z⟩ := List.mem_flatMap.mp z
      unfold endsAt at z
      obtain ⟨r, _, rfl⟩ := List.mem_map.mp z
      exact (by decide : 3 ≤ 300)
    · unfold endsO at z
      obtain ⟨r, _, rfl⟩ := List.mem_map.mp z
      exact (by decide : 2 ≤ 300)
theorem eqd_bs {H : Hp} : ∀ {bs : List Bk} {ps rs : List Addr}, BsAt H bs ps → BsAt H bs rs → Paired (EqD H) (ps.map V.ref) (rs.map V.ref)
  | _, _, _, .nil, .nil => .nil
  | b :: _, p :: _, r :: _, .cons x t, .cons y u => .cons (.inr ⟨p, r, _, rfl, rfl, x.at_, y.at_, fun z hz => by
      simp only [List.mem_cons, List.not_mem_nil, or_false] at hz
      rcases hz with rfl | rfl | rfl | rfl
      · exact .inr ⟨_, rfl⟩
      · exact .inl ⟨_, rfl⟩
      · exact .inl ⟨_, rfl⟩
      · exact .inl ⟨_, rfl⟩⟩) (eqd_bs t u)
theorem eqd_refs (H : Hp) : ∀ ps : List Addr, Paired (EqD H) (ps.map V.ref) (ps.map V.ref)
  | [] => .nil
  | p :: ps => .cons (.inl ⟨rfl, .inr ⟨p, rfl⟩⟩) (eqd_refs H ps)
structure AP (H5 H' : Hp) (D : Addr) (i : Nat) (ts : List Addr) : Prop where
  h : ∀ t ∈ ts, ∃ (p a : Addr) (zs : List V), H' t = some (.tup [.ref p, .ref a]) ∧ H' a = some (.lst zs) ∧ zs.length ≤ 300 + i ∧ H5 a = none ∧ a ≠ D
theorem ap_of {H5 H : Hp} {D : Addr} : ∀ {es : List (Wr × List Wr)} {ts : List Addr}, (∀ e ∈ es, Sml e) → SgAt H5 H es ts → SgNe H ts D → AP H5 H D 0 ts
  | _, _, _, .nil, _ => ⟨fun t ht => by simp at ht⟩
  | e :: _, _, l, .cons ⟨p, a, qs, g1, g2, g3, g4, g5⟩ r, n => ⟨fun t ht => by
    rcases List.mem_cons.mp ht with rfl | ht
    · have z := Paired.length g4
      have := (l e (by simp)).l
      exact ⟨p, a, _, g1, g3, by rw [List.length_map]; omega, g5, n t (by simp) p a g1⟩
    · exact (ap_of (fun e he => l e (by simp [he])) r (fun t ht => n t (by simp [ht]))).h t ht⟩
theorem AP.add {H5 H' : Hp} {D a : Addr} {i : Nat} {ts : List Addr} {zs : List V} {v : V} (s : AP H5 H' D i ts) (ha : H' a = some (.lst zs)) (hl : zs.length ≤ 300 + i) : AP H5 (upd H' a (.lst (zs ++ [v]))) D (i + 1) ts := ⟨fun t ht => by
  obtain ⟨p, a', zs', g1, g2, g3, g4, g5⟩ := s.h t ht
  by_cases e : a' = a
  · subst e
    rw [ha] at g2
    cases g2
    exact ⟨p, a', zs ++ [v], tk_put ha _ _ g1, upd_same, by simp; omega, g4, g5⟩
  · exact ⟨p, a', zs', tk_put ha _ _ g1, g_put e g2, by omega, g4, g5⟩⟩
theorem Pk.tk {H H' : Hp} {bl ol bl' ol' : Addr} {ins : Nat} {bs : List Bk} {ps : List Addr} {os : List Src} {ops : List Addr} (s : Pk H bl ol ins bs ps os ops) (t : Tk H H') (h1 : H' bl' = some (.lst (ps.map V.ref))) (h2 : H' ol' = some (.lst (ops.map V.ref))) : Pk H' bl' ol' ins bs ps os ops :=
  ⟨h1, bs_imp t s.bt, s.ok, s.bl, s.ac, h2, s.ow.imp t, s.oo, s.ol⟩
structure PH (K : PySem.W.Frag) (H1 H' : Hp) (a b : Addr) (ns : List Int) (c : Int) (wy bl ol : Addr) (ins : Nat) (bs : List Bk) (ps : List Addr) (os : List Src) (ops : List Addr) : Prop where
  d : ∃ c', DQ K H1 H' a b ns c' ∧ 0 ≤ c' ∧ c' ≤ c + 3000
  hw : H' wy = some (.tup [.int (ins : Int), .ref bl, .ref ol])
  pk : Pk H' bl ol ins bs ps os ops
  i20 : ins ≤ 20
  b20 : bs.length ≤ 20
  o20 : os.length ≤ 20
  nb : b ≠ bl
  no : b ≠ ol
theorem AP.ch {H5 H' H'' : Hp} {D : Addr} {i : Nat} {ts : List Addr} (s : AP H5 H' D i ts) (c : Ch [] H' H'') : AP H5 H'' D i ts := ⟨fun t ht => by
  obtain ⟨p, a', zs', g1, g2, g3, g4, g5⟩ := s.h t ht
  exact ⟨p, a', zs', c.get g1 (by simp), c.get g2 (by simp), g3, g4, g5⟩⟩
theorem sig_few {es : List (Wr × Wr)} {ins many : Nat} {H0 H : Hp} {ts : List Addr} (s : SgAt H0 H (sigOf es ins many) ts) (h : ins + many ≤ 300) : ts.length ≤ 300 := by
  rw [← Paired.length s]
  unfold sigOf
  rw [List.length_map]
  refine Nat.le_trans (List.length_filter_le _ _) ?_
  unfold allK
  rw [List.length_append, List.length_map, List.length_map, List.length_range, List.length_range]
  exact h
section
variable {P : Program} {w : World} {K : PySem.W.Frag} {mg : Str → Option Value} {base : Heap} {f : Addr} {fd : FuncData} {k : Nat}
theorem gd__law_pack : Nd "_law_pack" := by decide +kernel
theorem gd__law_great : Nd "_law_great" := by decide +kernel
theorem gd_Pack : Nd "Pack" := by decide +kernel
theorem gd__law_signals : Nd "_law_signals" := by decide +kernel
theorem gd_signals_of : Nd "signals_of" := by decide +kernel
theorem l25_1 : Lc (defScope (top 25)) "_law_at" := by decide +kernel
theorem g25_range : Gi (defScope (top 25)) "range" := by decide +kernel
theorem l25_2 : Lc (defScope (top 25)) "_law_k" := by decide +kernel
theorem l25_3 : Lc (defScope (top 25)) "_law_pack_here" := by decide +kernel
theorem g25__law_pack : Gi (defScope (top 25)) "_law_pack" := by decide +kernel
theorem v25_1 : Vs (defScope (top 25)) "_law_at" := by decide +kernel
theorem d25_1 : Nd "_law_at" := by decide +kernel
theorem c25_1 : Nc "_law_at" := by decide +kernel
theorem v25_0 : Vs (defScope (top 25)) "_law_script" := by decide +kernel
theorem d25_0 : Nd "_law_script" := by decide +kernel
theorem c25_0 : Nc "_law_script" := by decide +kernel
theorem g25__law_next : Gi (defScope (top 25)) "_law_next" := by decide +kernel
theorem g25__law_great : Gi (defScope (top 25)) "_law_great" := by decide +kernel
theorem l25_4 : Lc (defScope (top 25)) "_law_own" := by decide +kernel
theorem g25_Pack : Gi (defScope (top 25)) "Pack" := by decide +kernel
theorem g25_list : Gi (defScope (top 25)) "list" := by decide +kernel
theorem v25_3 : Vs (defScope (top 25)) "_law_pack_here" := by decide +kernel
theorem d25_3 : Nd "_law_pack_here" := by decide +kernel
theorem c25_3 : Nc "_law_pack_here" := by decide +kernel
theorem l25_5 : Lc (defScope (top 25)) "_law_due" := by decide +kernel
theorem g25__law_signals : Gi (defScope (top 25)) "_law_signals" := by decide +kernel
theorem l25_6 : Lc (defScope (top 25)) "_law_found" := by decide +kernel
theorem g25_signals_of : Gi (defScope (top 25)) "signals_of" := by decide +kernel
theorem v25_4 : Vs (defScope (top 25)) "_law_own" := by decide +kernel
theorem d25_4 : Nd "_law_own" := by decide +kernel
theorem c25_4 : Nc "_law_own" := by decide +kernel
theorem g25__law_same : Gi (defScope (top 25)) "_law_same" := by decide +kernel
theorem v25_5 : Vs (defScope (top 25)) "_law_due" := by decide +kernel
theorem d25_5 : Nd "_law_due" := by decide +kernel
theorem c25_5 : Nc "_law_due" := by decide +kernel
theorem v25_6 : Vs (defScope (top 25)) "_law_found" := by decide +kernel
theorem d25_6 : Nd "_law_found" := by decide +kernel
theorem c25_6 : Nc "_law_found" := by decide +kernel
theorem l25_8 : Lc (defScope (top 25)) "_law_sinks" := by decide +kernel
theorem l25_7 : Lc (defScope (top 25)) "_law_source" := by decide +kernel
theorem v25_8 : Vs (defScope (top 25)) "_law_sinks" := by decide +kernel
theorem d25_8 : Nd "_law_sinks" := by decide +kernel
theorem c25_8 : Nc "_law_sinks" := by decide +kernel
theorem g25_tuple : Gi (defScope (top 25)) "tuple" := by decide +kernel
def spLaw (K : PySem.W.Frag) : Sp := fun vs H Q _ => ∃ (a : Addr) (ns : List Int), vs = [.ref a] ∧ Scr K H a ns ∧ ∀ H', Q (.bl true) H'
structure LC (K : PySem.W.Frag) (H' : Hp) (a b : Addr) (ns : List Int) (c : Int) (i : Nat) : Prop where
  hb : H' b = some (.lst [.int c])
  sc : Scr K H' a ns
  lo : 0 ≤ c
  hi : c ≤ 5000 * (i : Int)
theorem scLaw : FnScope ["_law_script", "_law_at", "_law_k", "_law_pack_here", "_law_own", "_law_due", "_law_found", "_law_source", "_law_sinks"] ["_law_script"] (defScope (top 25)) := ⟨rfl, rfl, rfl, by decide +kernel, rfl, by decide +kernel, by decide +kernel⟩
theorem ok_law {C : Addr} (F : Fun K "law" "law" (top 25) f fd) (cl : Cls K C) (nB : NoAttr K C "blocks") (nO : NoAttr K C "outs") (D_law_next : DefOk P w K mg base CX0 (k + 1) "_law_next" ["_law_script", "_law_at"] (spNext K)) (D_law_pack : DefOk P w K mg base CX0 (k + 1) "_law_pack" ["_law_script", "_law_at", "_law_most"] (spDraw K)) (D_law_great : DefOk P w K mg base CX0 (k + 1) "_law_great" ["_law_script", "_law_at"] (spGreat K)) (D_law_signals : DefOk P w K mg base CX0 (k + 1) "_law_signals" ["_law_pack_here"] spLSig)
    (Dsignals_of : DefOk P w K mg base CX0 (k + 1) "signals_of" ["pack"] (spSig C)) (D_law_same : DefOk P w K mg base CX0 (k + 1) "_law_same" ["_law_found", "_law_due"] (spSame 5)) (MkPack : MakeOk P w K mg base CX0 k C "Pack" ["self", "ins", "blocks", "outs"] (spPack C))
    (z_range : mg "range" = none) (z_list : mg "list" = none) (z_tuple : mg "tuple" = none) :
    FnOk P w K mg base CX0 (k + 2) f fd ["_law_script"] (spLaw K) := by
  have nd := scLaw.nd
  refine F.ok scLaw (fun vs H Q E h => by obtain ⟨a, ns, rfl, _⟩ := h; rfl) (fun cdv A outer s H vs Q E hr h => ?_)
  obtain ⟨a, ns, rfl, hS, q⟩ := h
  have hrm := hr
  have hu := hu_of hr
  refine ⟨_, (Pr.h (qpss_cons (qps_set (i := 1) nd rfl l25_1 (qpe_lst (qpa_cons qpe_int qpa_nil se_Constant)))
 (qpss_cons (qps_loop PassesOwn.never rfl (qpi_range1 g25_range z_range (qpa_cons qpe_int qpa_nil se_Constant)) (qpg_name (i := 2) nd rfl l25_2)
  (qpss_cons (qps_set (i := 3) nd rfl l25_3 (qpe_callD D_law_pack hr g25__law_pack pass0 (qpa_cons (qpe_var (i := 0) rfl v25_0 d25_0 c25_0) (qpa_cons (qpe_var (i := 1) rfl v25_1 d25_1 c25_1) (qpa_cons qpe_int qpa_nil se_Constant) se_Name) se_Name) gd__law_pack))
 (qpss_cut (qps_if (qpt_cmpR op_eq (qpe_op op_mod (qpe_callD D_law_next hr g25__law_next pass0 (qpa_cons (qpe_var (i := 0) rfl v25_0 d25_0 c25_0) (qpa_cons (qpe_var (i := 1) rfl v25_1 d25_1 c25_1) qpa_nil se_Name) se_Name) gd__law_next) qpe_int) qpe_int (nomark _))
  (qpss_one (qps_set (i := 3) nd rfl l25_3 (qpe_callD D_law_great hr g25__law_great pass0 (qpa_cons (qpe_var (i := 0) rfl v25_0 d25_0 c25_0) (qpa_cons (qpe_var (i := 1) rfl v25_1 d25_1 c25_1) qpa_nil se_Name) se_Name) gd__law_great)))
  qpss_nil)
 (qpss_cons (qps_set (i := 4) nd rfl l25_4 (qpe_makeD MkPack hrm g25_Pack pass0 (qpa_cons (qpe_ix ixa_tup (qpe_var (i := 3) rfl v25_3 d25_3 c25_3) qpe_int (fun _ _ => rfl)) (qpa_cons (qpe_callTy call_list_of g25_list z_list bo_list (qpa_cons (qpe_ix ixa_tup (qpe_var (i := 3) rfl v25_3 d25_3 c25_3) qpe_int (fun _ _ => rfl)) qpa_nil se_Subscript) nn_list gd_list) (qpa_cons (qpe_callTy call_list_of g25_list z_list bo_list (qpa_cons (qpe_ix ixa_tup (qpe_var (i := 3) rfl v25_3 d25_3 c25_3) qpe_int (fun _ _ => rfl)) qpa_nil se_Subscript) nn_list gd_list) qpa_nil se_Call) se_Call) se_Subscript) gd_Pack))
 (qpss_cons (qps_set (i := 5) nd rfl l25_5 (qpe_callD D_law_signals hr g25__law_signals pass0 (qpa_cons (qpe_var (i := 3) rfl v25_3 d25_3 c25_3) qpa_nil se_Name) gd__law_signals))
 (qpss_cons (qps_set (i := 6) nd rfl l25_6 (qpe_callD Dsignals_of hr g25_signals_of pass0 (qpa_cons (qpe_var (i := 4) rfl v25_4 d25_4 c25_4) qpa_nil se_Name) gd_signals_of))
 (qpss_cons (qps_if (qpt_not (qpt_val (qpe_callD D_law_same hr g25__law_same pass0 (qpa_cons (qpe_var (i := 6) rfl v25_6 d25_6 c25_6) (qpa_cons (qpe_var (i := 5) rfl v25_5 d25_5 c25_5) qpa_nil se_Name) se_Name) gd__law_same)))
  (qpss_one (qps_ret qpe_bl))
  qpss_nil)
 (qpss_cons (qps_loop PassesOwn.never rfl (qpi_list (qpe_var (i := 6) rfl v25_6 d25_6 c25_6)) (qpg_tup rfl (qpgs_cons (qpg_name (i := 7) nd rfl l25_7) (qpgs_cons (qpg_name (i := 8) nd rfl l25_8) qpgs_nil)))
  (qpss_one (qps_expr (qpe_bm PySem.F.plainAttrs_list PySem.F.slot_list_append PySem.F.type_list_append mt_append (qpe_var (i := 8) rfl v25_8 d25_8 c25_8) (qpa_cons qpe_int qpa_nil se_Constant)))))
 (qpss_cons (qps_expr (qpe_clear (qpe_var (i := 6) rfl v25_6 d25_6 c25_6)))
 (qpss_one (qps_if (qPW_pt (qpw_or (qpt_not (qpt_val (qpe_callD D_law_same hr g25__law_same pass0 (qpa_cons (qpe_callD Dsignals_of hr g25_signals_of pass0 (qpa_cons (qpe_var (i := 4) rfl v25_4 d25_4 c25_4) qpa_nil se_Name) gd_signals_of) (qpa_cons (qpe_var (i := 5) rfl v25_5 d25_5 c25_5) qpa_nil se_Name) se_Call) gd__law_same))) (qpw_or (qpt_cmpR (op_neD hr.units) (qpe_fld (qpe_var (i := 4) rfl v25_4 d25_4 c25_4) rfl) (qpe_callTy call_tuple_of g25_tuple z_tuple bo_tuple (qpa_cons (qpe_ix ixa_tup (qpe_var (i := 3) rfl v25_3 d25_3 c25_3) qpe_int (fun _ _ => rfl)) qpa_nil se_Subscript) nn_tuple gd_tuple) (nomark _)) (qpw_or1 (qpt_cmpR (op_neD hr.units) (qpe_fld (qpe_var (i := 4) rfl v25_4 d25_4 c25_4) rfl) (qpe_callTy call_tuple_of g25_tuple z_tuple bo_tuple (qpa_cons (qpe_ix ixa_tup (qpe_var (i := 3) rfl v25_3 d25_3 c25_3) qpe_int (fun _ _ => rfl)) qpa_nil se_Subscript) nn_tuple gd_tuple) (nomark _))))))
  (qpss_one (qps_ret qpe_bl))
  qpss_nil)))))))))))
 (qpss_one (qps_ret qpe_bl))))), ?_⟩
  (try dsimp only [cxOf])
  walk_at "rd"
  rename_i b hb
  refine loop_range (fun i σ H' => ∃ (c : Int) (u1 u2 u3 u4 u5 u6 u7 : Option V), σ = [some (.ref a), some (.ref b), u1, u2, u3, u4, u5, u6, u7] ∧ LC K H' a b ns c i) ⟨0, _, _, _, _, _, _, _, rfl, upd_same, hS.same (Ch.new hb _), by omega, by omega⟩ ?_ ?_
  · rintro i σ H1 hi ⟨c, u1, u2, u3, u4, u5, u6, u7, rfl, l⟩
    have hi4 : i < 3 := hi
    obtain ⟨lb, ls, l0, l1⟩ := l
    have l2 : c < 2 ^ 50 := by omega
    walk_at "rd"
    rename_i wy bl ol ins bs ps os ops c1 H2 d2 z1 z2 hw2 pk2 i2 b2 o2 nb2 no2
    obtain ⟨_, hS2, hb2⟩ := id d2
    refine cut_by (fun σ H' => ∃ (wy bl ol : Addr) (ins : Nat) (bs : List Bk) (ps : List Addr) (os : List Src) (ops : List Addr), σ = [some (.ref a), some (.ref b), some (.int (0 + (i : Int))), some (.ref wy), u3, u4, u5, u6, u7] ∧ PH K H1 H' a b ns c wy bl ol ins bs ps os ops) ?_ ?_
    · walk_at "rd"
      rename_i n H3 n0 n1 d3 e3
      have D3 := d2.next d3 e3
      obtain ⟨_, hS3, hb3⟩ := id D3
      have z3 : 0 ≤ c1 + 1 := by omega
      have z4 : c1 + 1 < 2 ^ 50 := by omega
      refine ite2 (fun hc => ?_) (fun hc => ?_)
      · walk_at "rd"
        rename_i wy' bl' ol' ins' bs' ps' os' ops' c2 H4 d4 y1 y2 hw4 pk4 i4 b4 o4 nb4 no4
        exact ⟨⟨c2, ⟨D3.ch.trans d4.ch, d4.hS, d4.hb⟩, y1, by omega⟩, hw4, pk4, i4, b4, o4, nb4, no4⟩
      · walk_at "rd"
        have tk := tk_ch hb2 d3
        exact ⟨⟨c1 + 1, D3, z3, by omega⟩, tk _ _ hw2, pk2.tk tk (d3.get pk2.hb (by simpa using nb2.symm)) (d3.get pk2.ho (by simpa using no2.symm)), i2, b2, o2, nb2, no2⟩
    · clear d2 z1 z2 hw2 pk2 i2 b2 o2 nb2 no2 hS2 hb2 lb ls
      rintro σ' H3 ⟨wy, bl, ol, ins, bs, ps, os, ops, rfl, ⟨c', D3, y0, y1⟩, hw3, pk3, i3, b3, o3, nb3, no3⟩
      have hbl := pk3.hb
      have hol := pk3.ho
      obtain ⟨_, hS3, hb3⟩ := id D3
      walk_at "rd"
      rename_i k1 f1 k2 f2 x dx hx hdx ndx
      have ci := Ch.inst (C := C) hx hdx ndx
      have c4 : Ch [] H3 (upd (upd (upd (upd H3 k1 (.lst (ps.map V.ref))) k2 (.lst (ops.map V.ref))) dx (.own x)) x (.ins C dx [])) := ((Ch.new f1 _).trans (Ch.new f2 _)).trans ci
      have gx4 : (upd (upd (upd (upd H3 k1 (.lst (ps.map V.ref))) k2 (.lst (ops.map V.ref))) dx (.own x)) x (.ins C dx [])) x = some (.ins C dx []) := upd_same
      have pk4 := pk3.tk (tk_new c4) (ci.get (g_new f2 upd_same) (by simp)) (ci.get (upd_same (H := upd H3 k1 (.lst (ps.map V.ref))) (a := k2) (o := .lst (ops.map V.ref))) (by simp))
      refine ⟨pk4, fun tb to ps' H4 c5 pa4 => ⟨rfl, ?_⟩⟩
      have nx : ∀ {r : Addr} {o : HO}, H3 r = some o → (∀ d fs, o ≠ .ins C d fs) → H4 r = some o := fun {r o} h n => c5.get (c4.get h (by simp)) (by simpa using ne_of (c4.get h (by simp)) gx4 (n _ _))
      have hw4 := nx hw3 (by intro _ _ z; cases z)
      have hb4 := nx hb3 (by intro _ _ z; cases z)
      have pk5 : Pk H4 bl ol ins bs ps os ops := pk3.tk (fun p xs h => nx h (by intro _ _ z; cases z)) (nx hbl (by intro _ _ z; cases z)) (nx hol (by intro _ _ z; cases z))
      have hS4 := scr_chg (hS3.same c4) gx4 (by intro _ _ z; cases z) c5
      have lE : (endsB bs ++ endsO os).length ≤ 300 := by
        have := endsB_len (bs := bs) fun b hb => (pk3.ok b hb).s4
        rw [List.length_append, endsO_len]; omega
      have sml := sml_all (ins := ins) lE
      have okb := pk3.ok
      have oob := pk3.oo
      clear hw3 pk3 hbl hol hS3 hb3 D3 f1 f2 hx hdx ndx ci c4 gx4 pk4 c5 nx
      walk_at "rd"
      rename_i du ts H5 c5 f5 g5 sg5
      have pa5 := pa4.ch c5
      refine ⟨pa5, okb, oob, b3, i3, o3, fun fo ts2 H6 c6 f6 g6 sg6 ne6 => ?_⟩
      have lS : ts2.length ≤ 300 := sig_few sg6 (by omega)
      have ev : EqvS 5 H6 (.ref fo) (.ref du) := ⟨.inr (.inr ⟨fo, du, _, _, rfl, rfl, g6, c6.get g5 (by simp), eqv_sg sml sg6 (sg_ch c6 sg5), by rw [List.length_map]; exact lS⟩)⟩
      have ap6 := ap_of sml sg6 ne6
      have hw5 := c5.get hw4 (by simp)
      have hb5 := c5.get hb4 (by simp)
      have hS5 := hS4.same c5
      have pk6 := pk5.ch c5
      clear pa4 hw4 hb4 hS4 pk5 c5 f5 ne6
      walk_at "rd"
      rename_i H7 c7
      refine loop_list (xs := ts2.map V.ref) (fun j σ H' => ∃ u7 u8, σ = [some (.ref a), some (.ref b), some (.int (0 + (i : Int))), some (.ref wy), some (.ref x), some (.ref du), some (.ref fo), u7, u8] ∧ Ch [] H5 H' ∧ H' fo = some (.lst (ts2.map V.ref)) ∧ AP H5 H' fo j ts2) ⟨_, _, rfl, c6.trans c7, c7.get g6 (by simp), ap6.ch c7⟩ ?_ ?_ ?_
      · rintro j σ H' hj ⟨_, _, rfl, _, g, _⟩
        exact SqL.of g
      · clear g6 ev ap6 c6 sg6 c7
        rintro j z σ H' hz ⟨u7, u8, rfl, c, g, ap⟩
        obtain ⟨t, ht, rfl⟩ := List.mem_map.mp (List.mem_of_getElem? hz)
        have hj : j < ts2.length := by have := (List.getElem?_eq_some_iff.mp hz).1; rwa [List.length_map] at this
        obtain ⟨p, a', zs, g1, g2, g3, g4, g5'⟩ := ap.h t ht
        have lz : zs.length < sizeLine := by rw [sizeLine_eq]; omega
        walk_at "rd"
        exact ap.add g2 g3
      · clear g6 ev ap6 c6 sg6 c7
        rintro σ H' ⟨u7, u8, rfl, c, g, _⟩
        have c8 : Ch [] H5 (upd H' fo (.lst [])) := Ch.own f6 c
        have pa8 := pa5.ch c8
        have gd8 := c8.get g5 (by simp)
        have sg8 := sg_ch c8 sg5
        have hw8 := c8.get hw5 (by simp)
        have hb8 := c8.get hb5 (by simp)
        have hS8 := hS5.same c8
        have pk8 := pk6.ch c8
        have hx' := g
        obtain ⟨H8, e8⟩ : ∃ H8, upd H' fo (.lst []) = H8 := ⟨_, rfl⟩
        rw [e8] at pa8 gd8 sg8 hw8 hb8 hS8 pk8
        refine ⟨_, rfl, .inl ⟨rfl, _, SqL.of g⟩, fo, _, rfl, rfl, g, ?_⟩
        rw [e8]
        clear e8 c8 c g hx' pa5 g5 sg5 hw5 hb5 hS5 pk6 f6
        walk_at "rd"
        rename_i D3 ts3 H9 c9 f9 g9 sg9 ne9
        refine ⟨⟨.inr (.inr ⟨D3, du, _, _, rfl, rfl, g9, c9.get gd8 (by simp), eqv_sg sml sg9 (sg_ch c9 sg8), by rw [List.length_map]; exact sig_few sg9 (by omega)⟩)⟩, fun H10 c10 => ?_⟩
        have cA := c9.trans c10
        have paA := pa8.ch cA
        obtain ⟨⟨dx', hxA⟩, htb, bt, hto, ow⟩ := paA
        have hwA := cA.get hw8 (by simp)
        have hbA := cA.get hb8 (by simp)
        have hSA := hS8.same cA
        have pkA := pk8.ch cA
        have hblA := pkA.hb
        have holA := pkA.ho
        have fb := fldsP_blocks ins tb to
        have fo' := fldsP_outs ins tb to
        clear pa8 gd8 sg8 hw8 hb8 hS8 pk8 c9 f9 g9 sg9 ne9 c10 cA sml
        walk_at "rd"
        rename_i tn htn
        have cn : Ch [] H10 (upd H10 tn (.tup (ps.map V.ref))) := Ch.new htn _
        refine ⟨eqd_bs (bs_ch cn bt) (bs_ch cn pkA.bt), ?_⟩
        walk_at "rd"
        rename_i tm htm
        refine ⟨eqd_refs _ ops, ?_⟩
        have cm : Ch [] H10 (upd (upd H10 tn (.tup (ps.map V.ref))) tm (.tup (ops.map V.ref))) := cn.trans (Ch.new htm _)
        walk_at "rd"
        exact ⟨cm.get hbA (by simp), hSA.same cm, y0, by omega⟩
  · rintro σ H' ⟨c, _, _, _, _, _, _, _, rfl, l⟩
    walk_at "rd"
    exact q _
end
end

section
theorem all_mk {l : PySem.W.OpenLaw} {w : World} {K : PySem.W.Frag} {h : Heap} {mg : Str → Option Value} {fa CF : Addr} (X : K.In h) (G : h.Ns mainGlobals mg) (hfa : mg "law" = some (.ref fa))
    {f0 : Addr} {od0 an0 : Option Addr} {sl0 : Array (Option Value)} {oc0 kV0 dc0 pm0 cd0 ct0 : Value}
    {f1 : Addr} {od1 an1 : Option Addr} {sl1 : Array (Option Value)} {oc1 kV1 dc1 pm1 cd1 ct1 : Value}
    {f2 : Addr} {od2 an2 : Option Addr} {sl2 : Array (Option Value)} {oc2 kV2 dc2 pm2 cd2 ct2 : Value}
    {f3 : Addr} {od3 an3 : Option Addr} {sl3 : Array (Option Value)} {oc3 kV3 dc3 pm3 cd3 ct3 : Value}
    {f4 : Addr} {od4 an4 : Option Addr} {sl4 : Array (Option Value)} {oc4 kV4 dc4 pm4 cd4 ct4 : Value}
    {f5 : Addr} {od5 an5 : Option Addr} {sl5 : Array (Option Value)} {oc5 kV5 dc5 pm5 cd5 ct5 : Value}
    {f6 : Addr} {od6 an6 : Option Addr} {sl6 : Array (Option Value)} {oc6 kV6 dc6 pm6 cd6 ct6 : Value}
    {f7 : Addr} {od7 an7 : Option Addr} {sl7 : Array (Option Value)} {oc7 kV7 dc7 pm7 cd7 ct7 : Value}
    {f8 : Addr} {od8 an8 : Option Addr} {sl8 : Array (Option Value)} {oc8 kV8 dc8 pm8 cd8 ct8 : Value}
    {f9 : Addr} {od9 an9 : Option Addr} {sl9 : Array (Option Value)} {oc9 kV9 dc9 pm9 cd9 ct9 : Value}
    {f10 : Addr} {od10 an10 : Option Addr} {sl10 : Array (Option Value)} {oc10 kV10 dc10 pm10 cd10 ct10 : Value}
    {f11 : Addr} {od11 an11 : Option Addr} {sl11 : Array (Option Value)} {oc11 kV11 dc11 pm11 cd11 ct11 : Value}
    {f12 : Addr} {od12 an12 : Option Addr} {sl12 : Array (Option Value)} {oc12 kV12 dc12 pm12 cd12 ct12 : Value}
    {f13 : Addr} {od13 an13 : Option Addr} {sl13 : Array (Option Value)} {oc13 kV13 dc13 pm13 cd13 ct13 : Value}
    {f14 : Addr} {od14 an14 : Option Addr} {sl14 : Array (Option Value)} {oc14 kV14 dc14 pm14 cd14 ct14 : Value}
    {f15 : Addr} {od15 an15 : Option Addr} {sl15 : Array (Option Value)} {oc15 kV15 dc15 pm15 cd15 ct15 : Value}
    {f16 : Addr} {od16 an16 : Option Addr} {sl16 : Array (Option Value)} {oc16 kV16 dc16 pm16 cd16 ct16 : Value}
    {f17 : Addr} {od17 an17 : Option Addr} {sl17 : Array (Option Value)} {oc17 kV17 dc17 pm17 cd17 ct17 : Value}
    (aF : PySem.W.nsIn K mainGlobals "Pack" = some (some (.ref CF)))
    (a0 : PySem.W.nsIn K mainGlobals "is_whole" = some (some (.ref f0))) (l0 : K.lookup f0 = some ⟨oc0, od0, .func (PySem.W.fnOf "is_whole" "is_whole" (defArgs (top 4)) (defBody (top 4)) (defScope (top 4)) .none kV0 dc0 pm0 an0 cd0 ct0), sl0⟩) (c0 : PySem.W.codeIn K cd0 "is_whole" = true) (k0 : PySem.W.keepIn K (.ref f0) = true)
    (a1 : PySem.W.nsIn K mainGlobals "is_below" = some (some (.ref f1))) (l1 : K.lookup f1 = some ⟨oc1, od1, .func (PySem.W.fnOf "is_below" "is_below" (defArgs (top 5)) (defBody (top 5)) (defScope (top 5)) .none kV1 dc1 pm1 an1 cd1 ct1), sl1⟩) (c1 : PySem.W.codeIn K cd1 "is_below" = true) (k1 : PySem.W.keepIn K (.ref f1) = true)
    (a2 : PySem.W.nsIn K mainGlobals "is_listed" = some (some (.ref f2))) (l2 : K.lookup f2 = some ⟨oc2, od2, .func (PySem.W.fnOf "is_listed" "is_listed" (defArgs (top 6)) (defBody (top 6)) (defScope (top 6)) .none kV2 dc2 pm2 an2 cd2 ct2), sl2⟩) (c2 : PySem.W.codeIn K cd2 "is_listed" = true) (k2 : PySem.W.keepIn K (.ref f2) = true)
    (a3 : PySem.W.nsIn K mainGlobals "is_place" = some (some (.ref f3))) (l3 : K.lookup f3 = some ⟨oc3, od3, .func (PySem.W.fnOf "is_place" "is_place" (defArgs (top 7)) (defBody (top 7)) (defScope (top 7)) .none kV3 dc3 pm3 an3 cd3 ct3), sl3⟩) (c3 : PySem.W.codeIn K cd3 "is_place" = true) (k3 : PySem.W.keepIn K (.ref f3) = true)
    (a4 : PySem.W.nsIn K mainGlobals "signals_of" = some (some (.ref f4))) (l4 : K.lookup f4 = some ⟨oc4, od4, .func (PySem.W.fnOf "signals_of" "signals_of" (defArgs (top 9)) (defBody (top 9)) (defScope (top 9)) .none kV4 dc4 pm4 an4 cd4 ct4), sl4⟩) (c4 : PySem.W.codeIn K cd4 "signals_of" = true) (k4 : PySem.W.keepIn K (.ref f4) = true)
    (a5 : PySem.W.nsIn K mainGlobals "is_table" = some (some (.ref f5))) (l5 : K.lookup f5 = some ⟨oc5, od5, .func (PySem.W.fnOf "is_table" "is_table" (defArgs (top 11)) (defBody (top 11)) (defScope (top 11)) .none kV5 dc5 pm5 an5 cd5 ct5), sl5⟩) (c5 : PySem.W.codeIn K cd5 "is_table" = true) (k5 : PySem.W.keepIn K (.ref f5) = true)
    (a6 : PySem.W.nsIn K mainGlobals "is_block" = some (some (.ref f6))) (l6 : K.lookup f6 = some ⟨oc6, od6, .func (PySem.W.fnOf "is_block" "is_block" (defArgs (top 13)) (defBody (top 13)) (defScope (top 13)) .none kV6 dc6 pm6 an6 cd6 ct6), sl6⟩) (c6 : PySem.W.codeIn K cd6 "is_block" = true) (k6 : PySem.W.keepIn K (.ref f6) = true)
    (a7 : PySem.W.nsIn K mainGlobals "loose_sources" = some (some (.ref f7))) (l7 : K.lookup f7 = some ⟨oc7, od7, .func (PySem.W.fnOf "loose_sources" "loose_sources" (defArgs (top 14)) (defBody (top 14)) (defScope (top 14)) .none kV7 dc7 pm7 an7 cd7 ct7), sl7⟩) (c7 : PySem.W.codeIn K cd7 "loose_sources" = true) (k7 : PySem.W.keepIn K (.ref f7) = true)
    (a8 : PySem.W.nsIn K mainGlobals "loose_order" = some (some (.ref f8))) (l8 : K.lookup f8 = some ⟨oc8, od8, .func (PySem.W.fnOf "loose_order" "loose_order" (defArgs (top 15)) (defBody (top 15)) (defScope (top 15)) .none kV8 dc8 pm8 an8 cd8 ct8), sl8⟩) (c8 : PySem.W.codeIn K cd8 "loose_order" = true) (k8 : PySem.W.keepIn K (.ref f8) = true)
    (a9 : PySem.W.nsIn K mainGlobals "has_ring" = some (some (.ref f9))) (l9 : K.lookup f9 = some ⟨oc9, od9, .func (PySem.W.fnOf "has_ring" "has_ring" (defArgs (top 16)) (defBody (top 16)) (defScope (top 16)) .none kV9 dc9 pm9 an9 cd9 ct9), sl9⟩) (c9 : PySem.W.codeIn K cd9 "has_ring" = true) (k9 : PySem.W.keepIn K (.ref f9) = true)
    (a10 : PySem.W.nsIn K mainGlobals "ask_pack" = some (some (.ref f10))) (l10 : K.lookup f10 = some ⟨oc10, od10, .func (PySem.W.fnOf "ask_pack" "ask_pack" (defArgs (top 17)) (defBody (top 17)) (defScope (top 17)) .none kV10 dc10 pm10 an10 cd10 ct10), sl10⟩) (c10 : PySem.W.codeIn K cd10 "ask_pack" = true) (k10 : PySem.W.keepIn K (.ref f10) = true)
    (a11 : PySem.W.nsIn K mainGlobals "_law_next" = some (some (.ref f11))) (l11 : K.lookup f11 = some ⟨oc11, od11, .func (PySem.W.fnOf "_law_next" "_law_next" (defArgs (top 20)) (defBody (top 20)) (defScope (top 20)) .none kV11 dc11 pm11 an11 cd11 ct11), sl11⟩) (c11 : PySem.W.codeIn K cd11 "_law_next" = true) (k11 : PySem.W.keepIn K (.ref f11) = true)
    (a12 : PySem.W.nsIn K mainGlobals "_law_same" = some (some (.ref f12))) (l12 : K.lookup f12 = some ⟨oc12, od12, .func (PySem.W.fnOf "_law_same" "_law_same" (defArgs (top 21)) (defBody (top 21)) (defScope (top 21)) .none kV12 dc12 pm12 an12 cd12 ct12), sl12⟩) (c12 : PySem.W.codeIn K cd12 "_law_same" = true) (k12 : PySem.W.keepIn K (.ref f12) = true)
    (a13 : PySem.W.nsIn K mainGlobals "_law_pack" = some (some (.ref f13))) (l13 : K.lookup f13 = some ⟨oc13, od13, .func (PySem.W.fnOf "_law_pack" "_law_pack" (defArgs (top 22)) (defBody (top 22)) (defScope (top 22)) .none kV13 dc13 pm13 an13 cd13 ct13), sl13⟩) (c13 : PySem.W.codeIn K cd13 "_law_pack" = true) (k13 : PySem.W.keepIn K (.ref f13) = true)
    (a14 : PySem.W.nsIn K mainGlobals "_law_great" = some (some (.ref f14))) (l14 : K.lookup f14 = some ⟨oc14, od14, .func (PySem.W.fnOf "_law_great" "_law_great" (defArgs (top 23)) (defBody (top 23)) (defScope (top 23)) .none kV14 dc14 pm14 an14 cd14 ct14), sl14⟩) (c14 : PySem.W.codeIn K cd14 "_law_great" = true) (k14 : PySem.W.keepIn K (.ref f14) = true)
    (a15 : PySem.W.nsIn K mainGlobals "_law_signals" = some (some (.ref f15))) (l15 : K.lookup f15 = some ⟨oc15, od15, .func (PySem.W.fnOf "_law_signals" "_law_signals" (defArgs (top 24)) (defBody (top 24)) (defScope (top 24)) .none kV15 dc15 pm15 an15 cd15 ct15), sl15⟩) (c15 : PySem.W.codeIn K cd15 "_law_signals" = true) (k15 : PySem.W.keepIn K (.ref f15) = true)
    (a16 : PySem.W.nsIn K mainGlobals "law" = some (some (.ref f16))) (l16 : K.lookup f16 = some ⟨oc16, od16, .func (PySem.W.fnOf "law" "law" (defArgs (top 25)) (defBody (top 25)) (defScope (top 25)) .none kV16 dc16 pm16 an16 cd16 ct16), sl16⟩) (c16 : PySem.W.codeIn K cd16 "law" = true) (k16 : PySem.W.keepIn K (.ref f16) = true)
    (a17 : PySem.W.findIn K (.ref CF) "__init__" = some (some (.ref f17))) (l17 : K.lookup f17 = some ⟨oc17, od17, .func (PySem.W.fnOf "__init__" "Pack.__init__" (defArgs (inClass (top 18) 0)) (defBody (inClass (top 18) 0)) (defScope (inClass (top 18) 0)) .none kV17 dc17 pm17 an17 cd17 ct17), sl17⟩) (c17 : PySem.W.codeIn K cd17 "Pack.__init__" = true) (k17 : PySem.W.keepIn K (.ref f17) = true) (i17 : PySem.W.isFn K (.ref f17) = true)
    (pgF : PySem.W.plainGet K CF Str.empty = true) (hdF : PySem.W.hasDictIn K CF = true) (poF : PySem.W.plainOver K CF = true) (saF : PySem.W.findIn K (.ref CF) "__setattr__" = some (some (.builtin "object.__setattr__"))) (mkF : PySem.W.makesIn K CF = true) (kcF : PySem.W.keepIn K (.ref CF) = true)
    (nF_ins : PySem.W.findIn K (.ref CF) "ins" = some none)
    (nF_blocks : PySem.W.findIn K (.ref CF) "blocks" = some none)
    (nF_outs : PySem.W.findIn K (.ref CF) "outs" = some none)
    (z_len : PySem.W.nsIn K mainGlobals "len" = some none)
    (z_range : PySem.W.nsIn K mainGlobals "range" = some none)
    (z_int : PySem.W.nsIn K mainGlobals "int" = some none)
    (z_str : PySem.W.nsIn K mainGlobals "str" = some none)
    (z_isinstance : PySem.W.nsIn K mainGlobals "isinstance" = some none)
    (z_zip : PySem.W.nsIn K mainGlobals "zip" = some none)
    (z_list : PySem.W.nsIn K mainGlobals "list" = some none)
    (z_tuple : PySem.W.nsIn K mainGlobals "tuple" = some none)
    (z_dict : PySem.W.nsIn K mainGlobals "dict" = some none)
    (z_bool : PySem.W.nsIn K mainGlobals "bool" = some none)
    (z_all : PySem.W.nsIn K mainGlobals "all" = some none)
    (z_enumerate : PySem.W.nsIn K mainGlobals "enumerate" = some none)
    (z_sorted : PySem.W.nsIn K mainGlobals "sorted" = some none) :
    ∃ fd : FuncData, (∀ (s : Shared) (v : Value), BindsTo s fd ⟨[v], []⟩ [("_law_script", v)]) ∧ ∀ base : Heap, K.In base → base.Ns mainGlobals mg → FnOk l.prog w K mg base CX0 9 fa fd ["_law_script"] (spLaw K) := by
  have e := hfa.symm.trans (PySem.W.mg_of X G a16)
  cases e
  have F0 := fun_mk (st := top 4) l0 c0 k0
  have b0 := F0.binds (ps := ["thing"]) fun _ _ _ _ _ _ us hl => match us, hl with | [_], _ => rfl
  have m0 := PySem.W.mg_of X G a0
  have F1 := fun_mk (st := top 5) l1 c1 k1
  have b1 := F1.binds (ps := ["thing", "bound"]) fun _ _ _ _ _ _ us hl => match us, hl with | [_, _], _ => rfl
  have m1 := PySem.W.mg_of X G a1
  have F2 := fun_mk (st := top 6) l2 c2 k2
  have b2 := F2.binds (ps := ["thing"]) fun _ _ _ _ _ _ us hl => match us, hl with | [_], _ => rfl
  have m2 := PySem.W.mg_of X G a2
  have F3 := fun_mk (st := top 7) l3 c3 k3
  have b3 := F3.binds (ps := ["thing", "counts"]) fun _ _ _ _ _ _ us hl => match us, hl with | [_, _], _ => rfl
  have m3 := PySem.W.mg_of X G a3
  have F4 := fun_mk (st := top 9) l4 c4 k4
  have b4 := F4.binds (ps := ["pack"]) fun _ _ _ _ _ _ us hl => match us, hl with | [_], _ => rfl
  have m4 := PySem.W.mg_of X G a4
  have F5 := fun_mk (st := top 11) l5 c5 k5
  have b5 := F5.binds (ps := ["thing", "counts"]) fun _ _ _ _ _ _ us hl => match us, hl with | [_, _], _ => rfl
  have m5 := PySem.W.mg_of X G a5
  have F6 := fun_mk (st := top 13) l6 c6 k6
  have b6 := F6.binds (ps := ["thing", "counts"]) fun _ _ _ _ _ _ us hl => match us, hl with | [_, _], _ => rfl
  have m6 := PySem.W.mg_of X G a6
  have F7 := fun_mk (st := top 14) l7 c7 k7
  have b7 := F7.binds (ps := ["blocks", "number"]) fun _ _ _ _ _ _ us hl => match us, hl with | [_, _], _ => rfl
  have m7 := PySem.W.mg_of X G a7
  have F8 := fun_mk (st := top 15) l8 c8 k8
  have b8 := F8.binds (ps := ["blocks"]) fun _ _ _ _ _ _ us hl => match us, hl with | [_], _ => rfl
  have m8 := PySem.W.mg_of X G a8
  have F9 := fun_mk (st := top 16) l9 c9 k9
  have b9 := F9.binds (ps := ["blocks"]) fun _ _ _ _ _ _ us hl => match us, hl with | [_], _ => rfl
  have m9 := PySem.W.mg_of X G a9
  have F10 := fun_mk (st := top 17) l10 c10 k10
  have b10 := F10.binds (ps := ["ins", "blocks", "outs"]) fun _ _ _ _ _ _ us hl => match us, hl with | [_, _, _], _ => rfl
  have m10 := PySem.W.mg_of X G a10
  have F11 := fun_mk (st := top 20) l11 c11 k11
  have b11 := F11.binds (ps := ["_law_script", "_law_at"]) fun _ _ _ _ _ _ us hl => match us, hl with | [_, _], _ => rfl
  have m11 := PySem.W.mg_of X G a11
  have F12 := fun_mk (st := top 21) l12 c12 k12
  have b12 := F12.binds (ps := ["_law_found", "_law_due"]) fun _ _ _ _ _ _ us hl => match us, hl with | [_, _], _ => rfl
  have m12 := PySem.W.mg_of X G a12
  have F13 := fun_mk (st := top 22) l13 c13 k13
  have b13 := F13.binds (ps := ["_law_script", "_law_at", "_law_most"]) fun _ _ _ _ _ _ us hl => match us, hl with | [_, _, _], _ => rfl
  have m13 := PySem.W.mg_of X G a13
  have F14 := fun_mk (st := top 23) l14 c14 k14
  have b14 := F14.binds (ps := ["_law_script", "_law_at"]) fun _ _ _ _ _ _ us hl => match us, hl with | [_, _], _ => rfl
  have m14 := PySem.W.mg_of X G a14
  have F15 := fun_mk (st := top 24) l15 c15 k15
  have b15 := F15.binds (ps := ["_law_pack_here"]) fun _ _ _ _ _ _ us hl => match us, hl with | [_], _ => rfl
  have m15 := PySem.W.mg_of X G a15
  have F16 := fun_mk (st := top 25) l16 c16 k16
  have F17 := fun_mk (st := inClass (top 18) 0) l17 c17 k17
  have b17 := F17.binds (ps := ["self", "ins", "blocks", "outs"]) fun _ _ _ _ _ _ us hl => match us, hl with | [_, _, _, _], _ => rfl
  have z_len := PySem.W.mg_none_of X G z_len
  have z_range := PySem.W.mg_none_of X G z_range
  have z_int := PySem.W.mg_none_of X G z_int
  have z_str := PySem.W.mg_none_of X G z_str
  have z_isinstance := PySem.W.mg_none_of X G z_isinstance
  have z_zip := PySem.W.mg_none_of X G z_zip
  have z_list := PySem.W.mg_none_of X G z_list
  have z_tuple := PySem.W.mg_none_of X G z_tuple
  have z_dict := PySem.W.mg_none_of X G z_dict
  have z_bool := PySem.W.mg_none_of X G z_bool
  have z_all := PySem.W.mg_none_of X G z_all
  have z_enumerate := PySem.W.mg_none_of X G z_enumerate
  have z_sorted := PySem.W.mg_none_of X G z_sorted
  have mF := PySem.W.mg_of X G aF
  have clF : Cls K CF := ⟨pgF, hdF, poF, saF⟩
  refine ⟨PySem.W.fnOf "law" "law" (defArgs (top 25)) (defBody (top 25)) (defScope (top 25)) .none kV16 dc16 pm16 an16 cd16 ct16, fun s v => .of_eq rfl, fun base _ _ => ?_⟩
  have D_is_whole_1 : DefOk l.prog w K mg base CX0 1 "is_whole" ["thing"] spWhole := ⟨f0, _, ok_whole (k := 0) F0 z_isinstance z_int z_bool, b0, k0, m0⟩
  have D_is_below_2 : DefOk l.prog w K mg base CX0 2 "is_below" ["thing", "bound"] spBelow := ⟨f1, _, ok_below (k := 1) F1 D_is_whole_1, b1, k1, m1⟩
  have D_is_listed_1 : DefOk l.prog w K mg base CX0 1 "is_listed" ["thing"] spListed := ⟨f2, _, ok_listed (k := 0) F2 z_isinstance z_list z_tuple, b2, k2, m2⟩
  have D_is_place_3 : DefOk l.prog w K mg base CX0 3 "is_place" ["thing", "counts"] spPlace := ⟨f3, _, ok_place (k := 2) F3 D_is_below_2 z_isinstance z_tuple z_str z_len, b3, k3, m3⟩
  have D_is_table_4 : DefOk l.prog w K mg base CX0 4 "is_table" ["thing", "counts"] spTable := ⟨f5, _, ok_table (k := 3) F5 (D_is_below_2.mono (by decide)) (D_is_listed_1.mono (by decide)) D_is_place_3 z_isinstance z_tuple z_all z_len, b5, k5, m5⟩
  have D_is_block_5 : DefOk l.prog w K mg base CX0 5 "is_block" ["thing", "counts"] spBlock := ⟨f6, _, ok_block (k := 4) F6 (D_is_below_2.mono (by decide)) D_is_table_4 z_isinstance z_tuple z_len, b6, k6, m6⟩
  have D_loose_sources_1 : DefOk l.prog w K mg base CX0 1 "loose_sources" ["blocks", "number"] spLS := ⟨f7, _, ok_ls (k := 0) F7, b7, k7, m7⟩
  have D_loose_order_2 : DefOk l.prog w K mg base CX0 2 "loose_order" ["blocks"] spLO := ⟨f8, _, ok_lo (k := 1) F8 D_loose_sources_1 z_enumerate z_len z_dict, b8, k8, m8⟩
  have D_has_ring_3 : DefOk l.prog w K mg base CX0 3 "has_ring" ["blocks"] spRing := ⟨f9, _, ok_ring (k := 2) F9 D_loose_order_2 z_len, b9, k9, m9⟩
  have D_ask_pack_6 : DefOk l.prog w K mg base CX0 6 "ask_pack" ["ins", "blocks", "outs"] spAsk := ⟨f10, _, ok_ask (k := 5) F10 (D_is_whole_1.mono (by decide)) (D_is_listed_1.mono (by decide)) D_is_block_5 (D_is_place_3.mono (by decide)) (D_has_ring_3.mono (by decide)) z_len z_all, b10, k10, m10⟩
  have D_signals_of_1 : DefOk l.prog w K mg base CX0 1 "signals_of" ["pack"] (spSig CF) := ⟨f4, _, ok_sig (k := 0) F4 clF nF_blocks nF_outs z_enumerate z_sorted, b4, k4, m4⟩
  have D__law_next_1 : DefOk l.prog w K mg base CX0 1 "_law_next" ["_law_script", "_law_at"] (spNext K) := ⟨f11, _, ok_next (k := 0) F11 z_len z_range, b11, k11, m11⟩
  have D__law_same_1 : DefOk l.prog w K mg base CX0 1 "_law_same" ["_law_found", "_law_due"] (spSame 0) := ⟨f12, _, ok_sameF (k := 0) F12, b12, k12, m12⟩
  have D__law_same_2 : DefOk l.prog w K mg base CX0 2 "_law_same" ["_law_found", "_law_due"] (spSame 1) := ⟨f12, _, ok_same (k := 1) 0 F12 D__law_same_1 z_isinstance z_dict z_list z_tuple z_str z_int z_bool z_len z_all z_zip, b12, k12, m12⟩
  have D__law_same_3 : DefOk l.prog w K mg base CX0 3 "_law_same" ["_law_found", "_law_due"] (spSame 2) := ⟨f12, _, ok_same (k := 2) 1 F12 D__law_same_2 z_isinstance z_dict z_list z_tuple z_str z_int z_bool z_len z_all z_zip, b12, k12, m12⟩
  have D__law_same_4 : DefOk l.prog w K mg base CX0 4 "_law_same" ["_law_found", "_law_due"] (spSame 3) := ⟨f12, _, ok_same (k := 3) 2 F12 D__law_same_3 z_isinstance z_dict z_list z_tuple z_str z_int z_bool z_len z_all z_zip, b12, k12, m12⟩
  have D__law_same_5 : DefOk l.prog w K mg base CX0 5 "_law_same" ["_law_found", "_law_due"] (spSame 4) := ⟨f12, _, ok_same (k := 4) 3 F12 D__law_same_4 z_isinstance z_dict z_list z_tuple z_str z_int z_bool z_len z_all z_zip, b12, k12, m12⟩
  have D__law_same_6 : DefOk l.prog w K mg base CX0 6 "_law_same" ["_law_found", "_law_due"] (spSame 5) := ⟨f12, _, ok_same (k := 5) 4 F12 D__law_same_5 z_isinstance z_dict z_list z_tuple z_str z_int z_bool z_len z_all z_zip, b12, k12, m12⟩
  have D__law_pack_2 : DefOk l.prog w K mg base CX0 2 "_law_pack" ["_law_script", "_law_at", "_law_most"] (spDraw K) := ⟨f13, _, ok_draw (k := 1) F13 D__law_next_1 z_len z_range z_tuple, b13, k13, m13⟩
  have D__law_great_2 : DefOk l.prog w K mg base CX0 2 "_law_great" ["_law_script", "_law_at"] (spGreat K) := ⟨f14, _, ok_great (k := 1) F14 D__law_next_1 z_len z_range z_tuple z_int, b14, k14, m14⟩
  have D__law_signals_1 : DefOk l.prog w K mg base CX0 1 "_law_signals" ["_law_pack_here"] spLSig := ⟨f15, _, ok_lsig (k := 0) F15 z_len z_range, b15, k15, m15⟩
  have MkF : MakeOk l.prog w K mg base CX0 7 CF "Pack" ["self", "ins", "blocks", "outs"] (spPack CF) := ⟨⟨f17, _, ok_Pack (k := 6) F17 clF nF_ins nF_blocks nF_outs D_ask_pack_6 z_tuple, b17, ⟨mkF, a17, i17, kcF⟩, mF⟩⟩
  exact ok_law (k := 7) F16 clF nF_blocks nF_outs (D__law_next_1.mono (by decide)) (D__law_pack_2.mono (by decide)) (D__law_great_2.mono (by decide)) (D__law_signals_1.mono (by decide)) (D_signals_of_1.mono (by decide)) (D__law_same_6.mono (by decide)) MkF z_range z_list z_tuple
end

end B17
open PySem PySem.W PyProof.Rows
set_option maxRecDepth 100000 in
set_option maxHeartbeats 0 in
theorem PySem.Challenge.cw_bitfloor_k48_signals_holds : PySem.Challenge.rw_bitfloor_k48_signals.Holds := by
  w_on; o_law; k_head; (case hw => w_witness2)
  k_fill
  refine L2.walk_ofK (l := PySem.Challenge.rw_bitfloor_k48_signals) (n := 63) (k := 9) (x := "_law_script") (CX := L2.CX0) (sp := B17.spLaw) rfl (by decide) rfl ⟨rfl, by decide, by decide⟩ (fun w h Y => PySem.W.kIn_of Y) ?F ?S ?C
  case F =>
    intro w mg fa h KX G hmg
    refine' B17.all_mk KX G hmg ?aF ?a0 ?l0 ?c0 ?k0 ?a1 ?l1 ?c1 ?k1 ?a2 ?l2 ?c2 ?k2 ?a3 ?l3 ?c3 ?k3 ?a4 ?l4 ?c4 ?k4 ?a5 ?l5 ?c5 ?k5 ?a6 ?l6 ?c6 ?k6 ?a7 ?l7 ?c7 ?k7 ?a8 ?l8 ?c8 ?k8 ?a9 ?l9 ?c9 ?k9 ?a10 ?l10 ?c10 ?k10 ?a11 ?l11 ?c11 ?k11 ?a12 ?l12 ?c12 ?k12 ?a13 ?l13 ?c13 ?k13 ?a14 ?l14 ?c14 ?k14 ?a15 ?l15 ?c15 ?k15 ?a16 ?l16 ?c16 ?k16 ?a17 ?l17 ?c17 ?k17 ?i17 ?pgF ?hdF ?poF ?saF ?mkF ?kcF ?nF_ins ?nF_blocks ?nF_outs ?z_len ?z_range ?z_int ?z_str ?z_isinstance ?z_zip ?z_list ?z_tuple ?z_dict ?z_bool ?z_all ?z_enumerate ?z_sorted
    (case aF => k_is)
    (case a0 => k_is)
    (case l0 => k_is)
    (case c0 => k_is)
    (case k0 => k_is)
    (case a1 => k_is)
    (case l1 => k_is)
    (case c1 => k_is)
    (case k1 => k_is)
    (case a2 => k_is)
    (case l2 => k_is)
    (case c2 => k_is)
    (case k2 => k_is)
    (case a3 => k_is)
    (case l3 => k_is)
    (case c3 => k_is)
    (case k3 => k_is)
    (case a4 => k_is)
    (case l4 => k_is)
    (case c4 => k_is)
    (case k4 => k_is)
    (case a5 => k_is)
    (case l5 => k_is)
    (case c5 => k_is)
    (case k5 => k_is)
    (case a6 => k_is)
    (case l6 => k_is)
    (case c6 => k_is)
    (case k6 => k_is)
    (case a7 => k_is)
    (case l7 => k_is)
    (case c7 => k_is)
    (case k7 => k_is)
    (case a8 => k_is)
    (case l8 => k_is)
    (case c8 => k_is)
    (case k8 => k_is)
    (case a9 => k_is)
    (case l9 => k_is)
    (case c9 => k_is)
    (case k9 => k_is)
    (case a10 => k_is)
    (case l10 => k_is)
    (case c10 => k_is)
    (case k10 => k_is)
    (case a11 => k_is)
    (case l11 => k_is)
    (case c11 => k_is)
    (case k11 => k_is)
    (case a12 => k_is)
    (case l12 => k_is)
    (case c12 => k_is)
    (case k12 => k_is)
    (case a13 => k_is)
    (case l13 => k_is)
    (case c13 => k_is)
    (case k13 => k_is)
    (case a14 => k_is)
    (case l14 => k_is)
    (case c14 => k_is)
    (case k14 => k_is)
    (case a15 => k_is)
    (case l15 => k_is)
    (case c15 => k_is)
    (case k15 => k_is)
    (case a16 => k_is)
    (case l16 => k_is)
    (case c16 => k_is)
    (case k16 => k_is)
    (case a17 => k_is)
    (case l17 => k_is)
    (case c17 => k_is)
    (case k17 => k_is)
    (case i17 => k_is)
    (case pgF => k_is)
    (case hdF => k_is)
    (case poF => k_is)
    (case saF => k_is)
    (case mkF => k_is)
    (case kcF => k_is)
    (case nF_ins => k_is)
    (case nF_blocks => k_is)
    (case nF_outs => k_is)
    (case z_len => k_is)
    (case z_range => k_is)
    (case z_int => k_is)
    (case z_str => k_is)
    (case z_isinstance => k_is)
    (case z_zip => k_is)
    (case z_list => k_is)
    (case z_tuple => k_is)
    (case z_dict => k_is)
    (case z_bool => k_is)
    (case z_all => k_is)
    (case z_enumerate => k_is)
    (case z_sorted => k_is)
  case S => exact fun K H a ns hl hO hS => ⟨a, ns, rfl, L2.Scr.of hS hl hO, fun _ => rfl⟩
  case C => exact fun _ _ _ _ z => z
