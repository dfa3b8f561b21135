import PyProof.Rows.All
import Wide.All
import OpenK.AllK
import Wide.FinOn
import Lean
import PyProof.EqAt
import PyProof.EqKinds
import PyProof.TupleCall
import PyProof.AttrMiss
import PyProof.ConsumeWalk
import KE.KDictOf
import OpenK.KOwn
import PyProof.NsDelKeeps
import KE.KIsAll
import PyProof.Rows.SumAny
import PyProof.NeKinds
import PyProof.SeqI3
import KE.KRevIter
import KE.KSortTup
import PyProof.DictIter
import KE.KDictList
import PyProof.TupleOfGen
import PyProof.MinMaxWalk
import PyProof.WalkInts
import PyProof.Rows.CallKwBuiltin
import KE.KMinKey
import KE.BitLaws
import PySem.Challenge.RW_bitfloor_k35_tables_kept
import KE.RegKIsAll
set_option Elab.async false
set_option linter.all false
set_option maxRecDepth 100000
namespace L2
open PySem PySem.Spec PyProof.Rows
abbrev Key := Sum Int Str
def keyIs : Key → Value → Bool
  | .inl k, v => Value.isInt k v
  | .inr x, v => Value.isStrOf x v
def keyH (w : World) : Key → Int
  | .inl k => hashInt k
  | .inr x => hashStr w x
theorem keyIs_shape : ∀ {k : Key} {v : Value}, keyIs k v = true → (∃ i t, k = Sum.inl i ∧ v = Value.int i t) ∨ (∃ x t, k = Sum.inr x ∧ v = Value.str x t)
  | .inl i, v, h => by
    obtain ⟨t, e⟩ := Value.isInt_shape (k := i) (v := v) h
    exact .inl ⟨i, t, rfl, e⟩
  | .inr x, v, h => by
    obtain ⟨t, e⟩ := Value.isStrOf_shape (x := x) (v := v) h
    exact .inr ⟨x, t, rfl, e⟩
theorem keyIs_int (i : Int) (t : Tok) : keyIs (.inl i) (.int i t) = true := by simp [keyIs, Value.isInt]
theorem keyIs_str (x : Str) (t : Tok) : keyIs (.inr x) (.str x t) = true := by simp [keyIs, Value.isStrOf]
theorem key_ll (a b : Int) : decide ((Sum.inl a : Key) = Sum.inl b) = (a == b) := by
  by_cases e : a = b
  · subst e; simp
  · have h : ¬ (Sum.inl a : Key) = Sum.inl b := fun q => e (Sum.inl.inj q)
    rw [decide_eq_false h]
    exact (beq_eq_false_iff_ne.mpr e).symm
theorem key_rr (a b : Str) : decide ((Sum.inr a : Key) = Sum.inr b) = decide (a = b) := by
  by_cases e : a = b
  · subst e; simp
  · have h : ¬ (Sum.inr a : Key) = Sum.inr b := fun q => e (Sum.inr.inj q)
    rw [decide_eq_false h, decide_eq_false e]
theorem key_lr (a : Int) (b : Str) : decide ((Sum.inl a : Key) = Sum.inr b) = false := decide_eq_false (fun q => nomatch q)
theorem key_rl (a : Str) (b : Int) : decide ((Sum.inr a : Key) = Sum.inl b) = false := decide_eq_false (fun q => nomatch q)
def mixKind (prog : Program) (w : World) : PySem.KeyKind prog w Key where
  is := keyIs
  hash := keyH w
  inj := fun v a b ha hb => by
    rcases keyIs_shape ha with ⟨i, t, rfl, rfl⟩ | ⟨x, t, rfl, rfl⟩
    · rcases keyIs_shape hb with ⟨j, u, rfl, e⟩ | ⟨y, u, rfl, e⟩
      · injection e with e1 _; rw [e1]
      · exact nomatch e
    · rcases keyIs_shape hb with ⟨j, u, rfl, e⟩ | ⟨y, u, rfl, e⟩
      · exact nomatch e
      · injection e with e1 _; rw [e1]
  byValue := fun k v h => by
    rcases keyIs_shape h with ⟨i, t, rfl, rfl⟩ | ⟨x, t, rfl, rfl⟩ <;> rfl
  pyHash := fun hv h => by
    rcases keyIs_shape hv with ⟨i, t, rfl, rfl⟩ | ⟨x, t, rfl, rfl⟩
    · exact wpAny_pyHash_int h
    · exact wpAny_pyHash_str h
  eqBool := fun hu hv h => by
    rcases keyIs_shape hu with ⟨i, t, rfl, rfl⟩ | ⟨x, t, rfl, rfl⟩
    · rcases keyIs_shape hv with ⟨j, u, rfl, rfl⟩ | ⟨y, u, rfl, rfl⟩
      · rw [key_ll] at h; exact wpAny_eqBool_int h
      · rw [key_lr] at h; exact SeqAt.EqAt.int_str i t y u _ _ _ _ h
    · rcases keyIs_shape hv with ⟨j, u, rfl, rfl⟩ | ⟨y, u, rfl, rfl⟩
      · rw [key_rl] at h; exact SeqAt.EqAt.str_int x t j u _ _ _ _ h
      · rw [key_rr] at h; exact wpAny_eqBool_str h
  «strs» := fun k x t v h => by
    rcases keyIs_shape h with ⟨i, u, rfl, e⟩ | ⟨y, u, rfl, e⟩
    · exact nomatch e
    · injection e with e1 _
      subst e1
      cases v <;> rfl
theorem mixKind_int (prog : Program) (w : World) (i : Int) (t : Tok) : (mixKind prog w).is (.inl i) (.int i t) = true := keyIs_int i t
theorem mixKind_str (prog : Program) (w : World) (x : Str) (t : Tok) : (mixKind prog w).is (.inr x) (.str x t) = true := keyIs_str x t
end L2
namespace L2
open PySem PySem.Spec PyProof.Rows
inductive V where
  | non | bl (b : Bool) | int (i : Int) | str (x : Str) | byt (b : Array UInt8) | flt (b : UInt64) | ref (a : Addr) | ty (n : String)
  deriving DecidableEq
def RelV : V → Value → Prop
  | .non, u => u = Value.none
  | .bl b, u => u = Value.bool b
  | .int i, u => ∃ t, u = Value.int i t
  | .str x, u => ∃ t, u = Value.str x t
  | .byt b, u => ∃ t, u = Value.bytes b t
  | .flt b, u => ∃ t, u = Value.float b t
  | .ref a, u => u = Value.ref a
  | .ty n, u => u = Value.type n
abbrev Vals : List V → List Value → Prop := Paired RelV
theorem Vals.length {xs : List V} {us : List Value} (r : Vals xs us) : xs.length = us.length := Paired.length r
theorem Vals.get : ∀ {xs : List V} {us : List Value} {i : Nat} {x : V}, Vals xs us → xs[i]? = some x → ∃ u, us[i]? = some u ∧ RelV x u
  | _, _, _, _, .nil, e => by simp at e
  | _, _, 0, _, .cons r _, e => by simp at e; subst e; exact ⟨_, rfl, r⟩
  | _, _, i + 1, x, .cons _ t, e => by
    obtain ⟨u, h1, h2⟩ := Vals.get (i := i) (x := x) t (by simpa using e)
    exact ⟨u, by simpa using h1, h2⟩
theorem Vals.set {x : V} {u : Value} (r : RelV x u) : ∀ {xs : List V} {us : List Value} (i : Nat), Vals xs us → Vals (xs.set i x) (us.set i u)
  | _, _, _, .nil => .nil
  | _, _, 0, .cons _ t => .cons r t
  | _, _, i + 1, .cons q t => .cons q (Vals.set r i t)
theorem Vals.append : ∀ {xs ys : List V} {us ws : List Value}, Vals xs us → Vals ys ws → Vals (xs ++ ys) (us ++ ws)
  | _, _, _, _, .nil, s => s
  | _, _, _, _, .cons r t, s => .cons r (Vals.append t s)
theorem Vals.take : ∀ {xs : List V} {us : List Value} (n : Nat), Vals xs us → Vals (xs.take n) (us.take n)
  | _, _, 0, _ => .nil
  | _, _, _ + 1, .nil => .nil
  | _, _, n + 1, .cons r t => .cons r (Vals.take n t)
theorem Vals.drop : ∀ {xs : List V} {us : List Value} (n : Nat), Vals xs us → Vals (xs.drop n) (us.drop n)
  | _, _, 0, r => r
  | _, _, _ + 1, .nil => .nil
  | _, _, n + 1, .cons _ t => Vals.drop n t
def RelO : Option V → Option Value → Prop
  | some v, some u => RelV v u
  | none, none => True
  | _, _ => False
def KV {κ : Type} : List (κ × V) → List (κ × Value) → Prop := Paired fun (p : κ × V) (q : κ × Value) => p.1 = q.1 ∧ RelV p.2 q.2
def kV : Key → V
  | .inl i => .int i
  | .inr x => .str x
inductive HO where
  | lst (xs : List V)
  | tup (xs : List V)
  | dK (kvs : List (Key × V)) | dT (kvs : List (List Key × V))
  | set (S : Int → Bool) (n : Nat)
  | ins (C dx : Addr) (fs : List (Str × V))
  | own (x : Addr)
  | xd (fs : List (Str × V))
  | met (f x : Addr)
  | rng (lo hi : Int)
  | frz (o : Obj) (u : HO)
  | tbl (ps : Array Value)
  | ext (φ : Heap → Prop)
abbrev Hp := Addr → Option HO
def upd (H : Hp) (a : Addr) (o : HO) : Hp := fun b => if b = a then some o else H b
theorem upd_same {H : Hp} {a : Addr} {o : HO} : upd H a o a = some o := by unfold upd; rw [if_pos rfl]
theorem upd_ne {H : Hp} {a b : Addr} {o : HO} (h : b ≠ a) : upd H a o b = H b := by unfold upd; rw [if_neg h]
theorem ne_of {H : Hp} {a b : Addr} {o u : HO} (h : H a = some o) (h' : H b = some u) (d : o ≠ u) : a ≠ b := by
  intro e; subst e; rw [h] at h'; exact d (Option.some.inj h')
theorem ne_of_none {H : Hp} {a b : Addr} {o : HO} (h : H a = some o) (h' : H b = none) : a ≠ b := by
  intro e; subst e; rw [h] at h'; cases h'
section
variable (P : Program) (w : World)
def ObjOk (H : Hp) (h : Heap) (a : Addr) : HO → Prop
  | .lst xs => xs.length ≤ sizeLine ∧ ∃ (its : List Value) (n : Nat), Vals xs its ∧ h.get? a = some { cls := .type "list", data := .seq its.toArray n }
  | .tup xs => xs.length ≤ sizeLine ∧ ∃ its : List Value, Vals xs its ∧ IsTup h a its.toArray
  | .dK kvs => kvs.length ≤ sizeLine ∧ (a == sysModules) = false ∧ ∃ vs, KV kvs vs ∧ h.DictOf (mixKind P w) a vs
  | .dT kvs => kvs.length ≤ sizeLine ∧ (a == sysModules) = false ∧ ∃ xs : List (List Key × Addr × Value),
      Paired (fun (p : List Key × V) (q : List Key × Addr × Value) => p.1 = q.1 ∧ H q.2.1 = some (.tup (p.1.map kV)) ∧ RelV p.2 q.2.2) kvs xs ∧
      ∃ o es ep, h.get? a = some o ∧ o.ExactDict ∧ o.data = .dict es ep ∧ es.toList = xs.map (entryOfKey (tupleKind (mixKind P w))) ∧ (xs.map (·.1)).Nodup
  | .set S n => h.SetOf (intKind P w) a S n
  | .ins C dx fs => H dx = some (.own a) ∧ fs.length ≤ 1000 ∧ dx ≠ a ∧ h.get? a = some (PySem.W.instObj C dx) ∧
      ∃ mA, h.Ns1 dx mA ∧ (∀ f, RelO (fs.lookup f) (mA f)) ∧ PySem.Within mA (fs.map (·.1))
  | .own _ => ∃ o, h.get? a = some o
  | .xd fs => ∃ mA, h.Ns1 a mA ∧ ∀ f, RelO (fs.lookup f) (mA f)
  | .rng lo hi => ∃ t u v, h.get? a = some { cls := .type "range", data := .fields #[.int lo t, .int hi u, .int 1 v] }
  | .frz o u => h.get? a = some o ∧ ObjOk H h a u
  | .tbl ps => h.get? a = some { cls := .none, data := .fields ps }
  | .met f x => h.get? a = some (PySem.W.methodObj (.ref f) (.ref x))
  | .ext φ => φ h ∧ (∃ o, h.get? a = some o) ∧ ∀ h1 h2 : Heap, φ h1 → (∀ o, h1.get? a = some o → h2.get? a = some o) → φ h2
def HOk (H : Hp) (h : Heap) : Prop := ∀ a o, H a = some o → ObjOk P w H h a o
end
section
variable {P : Program} {w : World} {H H' : Hp} {h h' : Heap} {a : Addr} {o : HO}
theorem ObjOk.lt (x : ObjOk P w H h a o) : a < h.objs.size := by
  cases o with
  | lst xs => obtain ⟨_, _, _, _, e⟩ := x; exact Heap.lt_size e
  | tup xs => obtain ⟨_, _, _, p⟩ := x; exact p.lt
  | dK kvs => obtain ⟨_, _, _, _, o, _, _, e, _⟩ := x; exact Heap.lt_size e
  | dT kvs => obtain ⟨_, _, _, _, o, _, _, e, _⟩ := x; exact Heap.lt_size e
  | set S n => obtain ⟨o, _, _, _, e, _⟩ := x; exact Heap.lt_size e
  | ins C dx fs => obtain ⟨_, _, _, e, _⟩ := x; exact Heap.lt_size e
  | own y => obtain ⟨_, e⟩ := x; exact Heap.lt_size e
  | xd fs => obtain ⟨_, ⟨_, _, _, e, _⟩, _⟩ := x; exact Heap.lt_size e
  | rng lo hi => obtain ⟨_, _, _, e⟩ := x; exact Heap.lt_size e
  | frz ob u => obtain ⟨e, _⟩ := x; exact Heap.lt_size e
  | tbl ps => exact Heap.lt_size (show h.get? a = some _ from x)
  | met f y => exact Heap.lt_size (show h.get? a = some _ from x)
  | ext φ => obtain ⟨_, ⟨_, e⟩, _⟩ := x; exact Heap.lt_size e
theorem Paired.mapP {α β : Type} {F G : α → β → Prop} : ∀ {l₁ : List α} {l₂ : List β}, Paired F l₁ l₂ → (∀ a b, F a b → G a b) → Paired G l₁ l₂
  | _, _, .nil, _ => .nil
  | _, _, .cons r t, f => .cons (f _ _ r) (Paired.mapP t f)
theorem ObjOk.stay (x : ObjOk P w H h a o) (k : ∀ b u, (b = a ∨ H b = some (.own a)) → h.get? b = some u → h'.get? b = some u)
    (ho : ∀ b, H b = some (.own a) → H' b = some (.own a)) (ht : ∀ b xs, H b = some (.tup xs) → H' b = some (.tup xs)) : ObjOk P w H' h' a o := by
  induction o with
  | lst xs => obtain ⟨z, its, n, r, e⟩ := x; exact ⟨z, its, n, r, k _ _ (.inl rfl) e⟩
  | tup xs => obtain ⟨z, its, r, ob, e, c⟩ := x; exact ⟨z, its, r, ob, k _ _ (.inl rfl) e, c⟩
  | dK kvs => obtain ⟨z, y, vs, r, ob, es, ep, e, c⟩ := x; exact ⟨z, y, vs, r, ob, es, ep, k _ _ (.inl rfl) e, c⟩
  | dT kvs =>
    obtain ⟨z, y, xs, r, ob, es, ep, e, c⟩ := x
    exact ⟨z, y, xs, Paired.mapP r fun p q z => ⟨z.1, ht _ _ z.2.1, z.2.2⟩, ob, es, ep, k _ _ (.inl rfl) e, c⟩
  | set S n => obtain ⟨ob, es, ep, t, e, c⟩ := x; exact ⟨ob, es, ep, t, k _ _ (.inl rfl) e, c⟩
  | ins C dx fs =>
    obtain ⟨d, z, ne, e, mA, ⟨od, es, ep, e2, c⟩, r⟩ := x
    exact ⟨ho _ d, z, ne, k _ _ (.inl rfl) e, mA, ⟨od, es, ep, k _ _ (.inr d) e2, c⟩, r⟩
  | own y => obtain ⟨ob, e⟩ := x; exact ⟨ob, k _ _ (.inl rfl) e⟩
  | xd fs => obtain ⟨mA, ⟨od, es, ep, e, c⟩, r⟩ := x; exact ⟨mA, ⟨od, es, ep, k _ _ (.inl rfl) e, c⟩, r⟩
  | rng lo hi => obtain ⟨t, u, v, e⟩ := x; exact ⟨t, u, v, k _ _ (.inl rfl) e⟩
  | frz ob u ih => obtain ⟨e, q⟩ := x; exact ⟨k _ _ (.inl rfl) e, ih q⟩
  | tbl ps =>
    have e : h.get? a = some { cls := .none, data := .fields ps } := x
    show h'.get? a = some { cls := .none, data := .fields ps }
    exact k a _ (.inl rfl) e
  | met f y =>
    have e : h.get? a = some (PySem.W.methodObj (.ref f) (.ref y)) := x
    show h'.get? a = some (PySem.W.methodObj (.ref f) (.ref y))
    exact k a _ (.inl rfl) e
  | ext φ => obtain ⟨p, ⟨o, e⟩, st⟩ := x; exact ⟨st _ _ p fun o q => k _ _ (.inl rfl) q, ⟨o, k _ _ (.inl rfl) e⟩, st⟩
theorem HOk.lt (x : HOk P w H h) (e : H a = some o) : a < h.objs.size := (x a o e).lt
theorem HOk.fresh (x : HOk P w H h) (e : h.objs.size ≤ a) : H a = none := by
  cases q : H a with
  | none => rfl
  | some u => exact absurd (Nat.lt_of_lt_of_le (x.lt q) e) (Nat.lt_irrefl _)
theorem HOk.kept (x : HOk P w H h) (k : ∀ b u, h.get? b = some u → h'.get? b = some u) : HOk P w H h' := fun a o e =>
  (x a o e).stay (fun b u _ q => k b u q) (fun _ q => q) fun _ _ q => q
theorem HOk.laid (x : HOk P w H h) (k : ∀ b u, h.get? b = some u → h'.get? b = some u) (hp : h.objs.size ≤ a) (new : ObjOk P w (upd H a o) h' a o) : HOk P w (upd H a o) h' := fun b u e => by
  have hn := x.fresh hp
  by_cases hb : b = a
  · subst hb; rw [upd_same] at e; cases e; exact new
  · rw [upd_ne hb] at e
    exact (x b u e).stay (fun c v _ q => k c v q) (fun c q => by rw [upd_ne (ne_of_none q hn)]; exact q) fun c xs q => by rw [upd_ne (ne_of_none q hn)]; exact q
end
def Rd (H : Hp) (a : Addr) (u : HO) : Prop := H a = some u ∨ ∃ o, H a = some (.frz o u)
theorem Rd.ok {P : Program} {w : World} {H : Hp} {h : Heap} {a : Addr} {u : HO} (r : Rd H a u) (x : HOk P w H h) : ObjOk P w H h a u := by
  rcases r with r | ⟨o, r⟩
  · exact x a u r
  · obtain ⟨_, q⟩ := x a _ r
    exact q
def Mut : Option HO → Prop
  | some (.lst _) => True
  | some (.dK _) => True
  | some (.dT _) => True
  | some (.set _ _) => True
  | some (.ins _ _ _) => True
  | some (.ext _) => True
  | _ => False
section
variable {P : Program} {w : World} {H : Hp} {h h' : Heap} {x e : Addr} {o' : HO}
theorem HOk.write (ok : HOk P w H h) (mu : Mut (H x)) (he : e = x ∨ H e = some (.own x)) (k : ∀ b u, b ≠ e → h.get? b = some u → h'.get? b = some u) (heo : ∃ u, h'.get? e = some u)
    (new : ObjOk P w (upd H x o') h' x o') : HOk P w (upd H x o') h' := fun b u q => by
  have nown : ∀ c y, H c = some (.own y) → c ≠ x := fun c y r z => by subst z; rw [r] at mu; exact mu
  have ntup : ∀ c xs, H c = some (.tup xs) → c ≠ x := fun c xs r z => by subst z; rw [r] at mu; exact mu
  by_cases hb : b = x
  · subst hb; rw [upd_same] at q; cases q; exact new
  · rw [upd_ne hb] at q
    by_cases hbe : b = e
    · have q' : H b = some (.own x) := by
        rcases he with z | z
        · exact absurd (hbe.trans z) hb
        · rw [hbe]; exact z
      rw [q] at q'; cases q'
      obtain ⟨v, hv⟩ := heo
      exact ⟨v, by rw [hbe]; exact hv⟩
    · refine (ok b u q).stay (fun c v hc r => k c v ?_ r) (fun c r => by rw [upd_ne (nown c b r)]; exact r) fun c xs r => by rw [upd_ne (ntup c xs r)]; exact r
      rcases hc with rfl | hc
      · exact hbe
      · rintro rfl
        rcases he with z | z
        · exact nown c b hc z
        · rw [hc] at z; cases z; exact hb rfl
end
structure Un (fs ex : List Addr) (H H' : Hp) (h h' : Heap) : Prop where
  keep : ∀ b o, h.get? b = some o → H b = none → b ∉ fs → b ∉ ex → h'.get? b = some o
  slot : ∀ b o, h.get? b = some o → H b = none → b ∈ fs → b ∉ ex → ∃ sl, h'.get? b = some { o with slots := sl }
  free : ∀ b o, h.get? b = some o → H b = none → b ∉ ex → H' b = none
  there : ∀ b o, h.get? b = some o → b ∉ ex → ∃ o', h'.get? b = some o'
  tups : ∀ b xs, H b = some (.tup xs) → H' b = some (.tup xs)
  frzs : ∀ b o u, H b = some (.frz o u) → H' b = some (.frz o u)
  tbls : ∀ b ps, H b = some (.tbl ps) → ∃ more, H' b = some (.tbl (ps ++ more))
section
variable {fs fs' ex ex' : List Addr} {H H1 H2 : Hp} {h h1 h2 h' : Heap} {a x e : Addr} {o : HO}
theorem Un.any (u : Un fs ex H H1 h h1) {b : Addr} {ob : Obj} (q : h.get? b = some ob) (n : H b = none) (hx : b ∉ ex) : ∃ sl, h1.get? b = some { ob with slots := sl } := by
  by_cases hb : b ∈ fs
  · exact u.slot b ob q n hb hx
  · exact ⟨ob.slots, u.keep b ob q n hb hx⟩
theorem Un.kept (k : ∀ b u, h.get? b = some u → h'.get? b = some u) : Un fs ex H H h h' :=
  ⟨fun b ob q _ _ _ => k b ob q, fun b ob q _ _ _ => ⟨ob.slots, k b ob q⟩, fun _ _ _ n _ => n, fun b ob q _ => ⟨ob, k b ob q⟩, fun _ _ q => q, fun _ _ _ q => q, fun _ ps q => ⟨#[], by rw [q]; simp⟩⟩
theorem Un.refl : Un fs ex H H h h := Un.kept fun _ _ q => q
theorem Un.laid (k : ∀ b u, h.get? b = some u → h'.get? b = some u) (hp : h.objs.size ≤ a) (hn : H a = none) : Un fs ex H (upd H a o) h h' where
  keep := fun b u q _ _ _ => k b u q
  slot := fun b u q _ _ _ => ⟨u.slots, k b u q⟩
  free := fun b u q n _ => by rw [upd_ne (Nat.ne_of_lt (Nat.lt_of_lt_of_le (Heap.lt_size q) hp))]; exact n
  there := fun b u q _ => ⟨u, k b u q⟩
  tups := fun b xs q => by rw [upd_ne (ne_of_none q hn)]; exact q
  frzs := fun b u xs q => by rw [upd_ne (ne_of_none q hn)]; exact q
  tbls := fun b ps q => ⟨#[], by rw [upd_ne (ne_of_none q hn), q]; simp⟩
theorem Un.write (mu : Mut (H x)) (he : e = x ∨ H e = some (.own x)) (k : ∀ b u, b ≠ e → h.get? b = some u → h'.get? b = some u) (heo : ∃ u, h'.get? e = some u) : Un fs ex H (upd H x o) h h' := by
  have hx : ∀ b, H b = none → b ≠ x := fun b n z => by subst z; rw [n] at mu; exact mu
  have hb : ∀ b, H b = none → b ≠ e := fun b n z => by
    subst z
    rcases he with r | r
    · exact hx b n r
    · rw [n] at r; cases r
  have hm : ∀ b u, H b = some u → ¬ Mut (some u) → b ≠ x := fun b u q nm z => by subst z; rw [q] at mu; exact nm mu
  refine ⟨fun b u q n _ _ => k b u (hb b n) q, fun b u q n _ _ => ⟨u.slots, k b u (hb b n) q⟩, fun b u q n _ => by rw [upd_ne (hx b n)]; exact n, fun b u q _ => ?_,
    fun b xs q => by rw [upd_ne (hm b _ q fun z => z)]; exact q, fun b u xs q => by rw [upd_ne (hm b _ q fun z => z)]; exact q, fun b ps q => ⟨#[], by rw [upd_ne (hm b _ q fun z => z), q]; simp⟩⟩
  by_cases hbe : b = e
  · subst hbe; exact heo
  · exact ⟨u, k b u hbe q⟩
end
def trk (h : Heap) (H : Hp) : List Addr := (List.range h.objs.size).filter fun a => (H a).isSome
def hidT (h : Heap) (H : Hp) : Heap := PySem.W.hideAll h (trk h H)
theorem hidT_size (h : Heap) (H : Hp) : (hidT h H).objs.size = h.objs.size := PySem.W.hideAll_size _ _
theorem hidT_get {h : Heap} {H : Hp} {b : Addr} {o : Obj} (e : h.get? b = some o) (n : H b = none) : (hidT h H).get? b = some o :=
  PySem.W.hideAll_get _ e fun hm => by
    have q : (H b).isSome = true := (List.mem_filter.mp hm).2
    rw [n] at q; simp at q
theorem of_hidT {h : Heap} {H : Hp} {b : Addr} {o : Obj} (e : (hidT h H).get? b = some o) : h.get? b = some o ∧ H b = none := by
  have e' : h.get? b = some o := PySem.W.of_hideAll (trk h H) e
  refine ⟨e', ?_⟩
  cases q : H b with
  | none => rfl
  | some x =>
    have hm : b ∈ trk h H := List.mem_filter.mpr ⟨List.mem_range.mpr (Heap.lt_size e'), by simp [q]⟩
    have z : (hidT h H).get? b = none := PySem.W.hideAll_none (trk h H) hm
    rw [z] at e; cases e
def allNews (g h : Heap) (L : Addr) : List (Addr × Obj) := (List.range h.objs.size).filterMap fun a => if a = L ∨ (g.get? a).isSome = true then none else (h.get? a).map fun o => (a, o)
def rest (g h : Heap) (L d : Addr) : List (Addr × Obj) := (allNews g h L).filter fun p => decide (p.1 ≠ d)
end L2
namespace L2
open PySem PySem.Spec PyProof.Rows
structure Mod (K : PySem.W.Frag) (mg : Str → Option Value) (base : Heap) : Prop where
  kin : K.In base
  glob : base.Ns mainGlobals mg
  blt : ∃ mb, base.Ns builtinsNs mb ∧ ∀ x : Str, x ≠ "__name__" → mb x = bootBuiltins x
  nolimit : base.NoLimit
structure Cx where
  prog : Program
  w : World
  K : PySem.W.Frag
  mg : Str → Option Value
  base : Heap
  A : Around
  N : List Str
  s₀ : Shared
  H₀ : Hp
  env : Env
  outer : List Env
  stack : List Env
  ex : List Addr
  fn : Str → Bool
  calm : Bool
  pn : List (Addr × Obj)
  xe : Value → Shared → Prop
def frs (l : List Env) : List Addr := l.filterMap (·.frame)
abbrev Cx.fs (X : Cx) : List Addr := frs X.outer
def Vis (sc : Scope) (x : Str) : Prop := sc.names.lookup x = some .local ∨ sc.names.lookup x = some .cell ∨ sc.names.lookup x = some .free
def Loc (sc : Scope) (x : Str) : Prop := sc.names.lookup x = some .local ∨ sc.names.lookup x = some .cell
def Look (env : Env) (h : Heap) (m : Str → Option Value) (x : Str) (u : Value) : Prop :=
  (env.kindOf x = some .local ∧ m x = some u) ∨ ((env.kindOf x = some .cell ∨ env.kindOf x = some .free) ∧ ∃ c, env.cells.lookup x = some c ∧ h.IsCell c (some u))
structure Cx.Ok (X : Cx) : Prop where
  mod : Mod X.K X.mg X.base
  kind : X.env.scope.kind = .function
  glob : X.env.globals = mainGlobals
  blt : X.env.builtins = builtinsNs
  above : X.s₀.heap.objs.size ≤ X.env.locals
  inj : ∀ x y c, X.env.cells.lookup x = some c → X.env.cells.lookup y = some c → x = y
  has : ∀ x, (X.env.kindOf x = some .cell ∨ X.env.kindOf x = some .free) → ∃ c, X.env.cells.lookup x = some c
  cab : ∀ x c, X.fn x = true → X.env.cells.lookup x = some c → X.s₀.heap.objs.size ≤ c
  hd : X.calm = true → X.A.handled = none
  frames : X.A.frames = some X.stack
  stk : X.stack = X.outer ∨ (X.stack = X.env :: X.outer ∧ X.env.frame = some X.env.locals)
  exf : ∀ b ∈ X.ex, b ≠ X.env.locals ∧ ∀ x c, X.env.cells.lookup x = some c → c ≠ b
  bs : ∀ b o, X.base.get? b = some o → X.s₀.heap.get? b = some o ∧ X.H₀ b = none
  bsz : X.base.objs.size ≤ X.s₀.heap.objs.size
  noex : ∀ b o, X.base.get? b = some o → b ∉ X.ex
  exfs : ∀ b ∈ X.ex, b ∉ X.fs
  funs : X.s₀.heap.FunFrames X.base X.outer
  frf : ∀ b ∈ X.fs, X.H₀ b = none
structure Inv (X : Cx) (pins : List (Addr × Obj)) (σ : List (Option V)) (H : Hp) (s : Shared) : Prop where
  ok : X.Ok
  os : s.os = X.s₀.os
  bare : AllBare s.gens
  base : Un X.fs X.ex X.H₀ H X.s₀.heap s.heap
  loc : ∃ m, s.heap.Ns X.env.locals m ∧ ∀ (i : Nat) (x : Str) (v : V), X.N[i]? = some x → σ[i]? = some (some v) → Vis X.env.scope x → ∃ u, RelV v u ∧ Look X.env s.heap m x u
  cell : ∀ x c, X.env.cells.lookup x = some c → ∃ v, s.heap.IsCell c v
  free : H X.env.locals = none
  freeC : ∀ x c, X.env.cells.lookup x = some c → H c = none
  pin : ∀ p ∈ X.pn ++ pins, s.heap.get? p.1 = some p.2 ∧ H p.1 = none ∧ p.1 ≠ X.env.locals ∧ p.1 ∉ X.fs ∧ ∀ v, p.2.data ≠ .cell v
  hok : HOk X.prog X.w H s.heap
  len : σ.length = X.N.length
section
variable {X : Cx} {pins : List (Addr × Obj)} {σ : List (Option V)} {H H' : Hp} {s : Shared} {h' : Heap}
theorem Cx.Ok.nofr (ok : X.Ok) {b : Addr} {o : Obj} (e : X.base.get? b = some o) : b ∉ X.fs := fun hb => by
  have := (ok.funs.mem hb).1
  rw [e] at this; cases this
theorem Inv.bs (I : Inv X pins σ H s) : ∀ b o, X.base.get? b = some o → s.heap.get? b = some o ∧ H b = none := fun b o e =>
  ⟨I.base.keep b o (I.ok.bs b o e).1 (I.ok.bs b o e).2 (I.ok.nofr e) (I.ok.noex b o e), I.base.free b o (I.ok.bs b o e).1 (I.ok.bs b o e).2 (I.ok.noex b o e)⟩
theorem Inv.bk (I : Inv X pins σ H s) : ∀ b o, X.base.get? b = some o → s.heap.get? b = some o := fun b o e => (I.bs b o e).1
theorem Inv.mod (I : Inv X pins σ H s) : Mod X.K X.mg X.base := I.ok.mod
theorem Inv.kIn (I : Inv X pins σ H s) : X.K.In s.heap := I.ok.mod.kin.keeps I.bk
theorem Inv.lt (I : Inv X pins σ H s) : X.env.locals < s.heap.objs.size := let ⟨_, hn, _⟩ := I.loc; hn.lt
theorem Inv.sz (I : Inv X pins σ H s) : X.s₀.heap.objs.size ≤ s.heap.objs.size := Nat.le_trans I.ok.above (Nat.le_of_lt I.lt)
theorem Inv.nofs (I : Inv X pins σ H s) {a : Addr} (h : s.heap.objs.size ≤ a) : a ∉ X.fs := fun hb => by
  obtain ⟨_, o, ho, _⟩ := I.ok.funs.mem hb
  exact absurd (Nat.lt_of_lt_of_le (Heap.lt_size ho) (Nat.le_trans I.sz h)) (Nat.lt_irrefl _)
theorem Inv.cne (I : Inv X pins σ H s) : ∀ x c, X.env.cells.lookup x = some c → c ≠ X.env.locals := fun x c e z => by
  obtain ⟨v, o, ho, hd⟩ := I.cell x c e
  obtain ⟨m, ⟨o', es, ep, ho', hd', _⟩, _⟩ := I.loc
  rw [z, ho'] at ho; cases ho; rw [hd'] at hd; cases hd
theorem Inv.funs (I : Inv X pins σ H s) : s.heap.FunFrames X.base X.outer := by
  have all : ∀ (l : List Env), (∀ b ∈ frs l, b ∈ X.fs) → X.s₀.heap.FunFrames X.base l → s.heap.FunFrames X.base l := by
    intro l
    induction l with
    | nil => intro _ _; trivial
    | cons env r ih =>
      intro hs hl
      obtain ⟨hk, ⟨L, o, hf, hn, ho, hd⟩, hr⟩ := hl
      have hL : L ∈ X.fs := hs L (by unfold frs; rw [List.filterMap_cons, hf]; exact List.mem_cons_self)
      obtain ⟨sl, e⟩ := I.base.slot L o ho (I.ok.frf L hL) hL fun z => I.ok.exfs L z hL
      exact ⟨hk, ⟨L, _, hf, hn, e, hd⟩, ih (fun b hb => hs b (by unfold frs; rw [List.filterMap_cons, hf]; exact List.mem_cons_of_mem _ hb)) hr⟩
  exact all X.outer (fun _ hb => hb) I.ok.funs
theorem Inv.stack (I : Inv X pins σ H s) : s.heap.FunFrames X.base X.stack := by
  rcases I.ok.stk with e | ⟨e, hf⟩
  · rw [e]; exact I.funs
  · rw [e]
    obtain ⟨m, hn, _⟩ := I.loc
    refine .cons (by rw [I.ok.kind]; decide) hf hn ?_ I.funs
    exact Heap.get?_none_of_le (Nat.le_trans I.ok.bsz I.ok.above)
theorem Inv.stkSub (I : Inv X pins σ H s) : ∀ b ∈ frs X.stack, b ∈ X.env.locals :: X.fs := fun b hb => by
  rcases I.ok.stk with e | ⟨e, hf⟩
  · rw [e] at hb; exact List.mem_cons_of_mem _ hb
  · rw [e] at hb
    unfold frs at hb
    rw [List.filterMap_cons, hf] at hb
    exact hb
theorem Inv.stkFree (I : Inv X pins σ H s) : ∀ b ∈ frs X.stack, H b = none := fun b hb => by
  rcases List.mem_cons.mp (I.stkSub b hb) with e | hb
  · rw [e]; exact I.free
  · obtain ⟨_, o, ho, _⟩ := I.ok.funs.mem hb
    exact I.base.free b o ho (I.ok.frf b hb) fun z => I.ok.exfs b z hb
theorem Inv.step {g' : Array GenState} {t' : Nat} {d' : Drawn} {ch : List Addr} (I : Inv X pins σ H s)
    (hch : ∀ b ∈ ch, (b ∈ X.ex ∨ X.s₀.heap.objs.size ≤ b) ∧ b ≠ X.env.locals ∧ (∀ x c, X.env.cells.lookup x = some c → c ≠ b) ∧ ∀ p ∈ X.pn ++ pins, p.1 ≠ b)
    (keep : ∀ b o, b ≠ X.env.locals → b ∉ X.fs → b ∉ ch → s.heap.get? b = some o → H b = none → h'.get? b = some o)
    (slot : ∀ b o, b ≠ X.env.locals → b ∈ X.fs → b ∉ ch → s.heap.get? b = some o → H b = none → ∃ sl, h'.get? b = some { o with slots := sl }) (free : ∀ b o, b ∉ ch → s.heap.get? b = some o → H b = none → H' b = none)
    (there : ∀ b o, b ∉ ch → s.heap.get? b = some o → ∃ o', h'.get? b = some o')
    (tups : ∀ b xs, H b = some (.tup xs) → H' b = some (.tup xs)) (frzs : ∀ b o u, H b = some (.frz o u) → H' b = some (.frz o u)) (tbls : ∀ b ps, H b = some (.tbl ps) → ∃ more, H' b = some (.tbl (ps ++ more)))
    (ns : ∀ m, s.heap.Ns X.env.locals m → h'.Ns X.env.locals m) (hok : HOk X.prog X.w H' h') (hg : AllBare g') :
    Inv X pins σ H' { s with heap := h', gens := g', drawn := d', toks := t' } := by
  have neL : ∀ b o, X.s₀.heap.get? b = some o → b ≠ X.env.locals := fun b o e => Nat.ne_of_lt (Nat.lt_of_lt_of_le (Heap.lt_size e) I.ok.above)
  have neC : ∀ b o, X.s₀.heap.get? b = some o → b ∉ X.ex → b ∉ ch := fun b o e hx hb => by
    rcases (hch b hb).1 with z | z
    · exact hx z
    · exact absurd (Nat.lt_of_lt_of_le (Heap.lt_size e) z) (Nat.lt_irrefl _)
  have cellK : ∀ x c, X.env.cells.lookup x = some c → ∀ v, s.heap.IsCell c v → h'.IsCell c v := fun x c e v ⟨o, ho, hd⟩ => by
    have nch : c ∉ ch := fun z => (hch c z).2.2.1 x c e rfl
    by_cases hc : c ∈ X.fs
    · obtain ⟨sl, q⟩ := slot c o (I.cne x c e) hc nch ho (I.freeC x c e)
      exact ⟨_, q, hd⟩
    · exact ⟨o, keep c o (I.cne x c e) hc nch ho (I.freeC x c e), hd⟩
  refine ⟨I.ok, I.os, hg, ⟨fun b o e n hb hx => ?_, fun b o e n hb hx => ?_, fun b o e n hx => ?_, fun b o e hx => ?_, fun b xs e => tups b xs (I.base.tups b xs e), fun b o xs e => frzs b o xs (I.base.frzs b o xs e), fun b ps e => ?_⟩, ?_, fun x c e => ?_, ?_, fun x c e => ?_, fun p hp => ?_, hok, I.len⟩
  · exact keep b o (neL b o e) hb (neC b o e hx) (I.base.keep b o e n hb hx) (I.base.free b o e n hx)
  · obtain ⟨sl, e1⟩ := I.base.slot b o e n hb hx
    obtain ⟨sl', e2⟩ := slot b _ (neL b o e) hb (neC b o e hx) e1 (I.base.free b o e n hx)
    exact ⟨sl', e2⟩
  · obtain ⟨o', e1⟩ := I.base.there b o e hx
    exact free b o' (neC b o e hx) e1 (I.base.free b o e n hx)
  · obtain ⟨o', e1⟩ := I.base.there b o e hx
    exact there b o' (neC b o e hx) e1
  · obtain ⟨m1, e1⟩ := I.base.tbls b ps e
    obtain ⟨m2, e2⟩ := tbls b _ e1
    exact ⟨m1 ++ m2, by rw [e2, Array.append_assoc]⟩
  · obtain ⟨m, hn, hl⟩ := I.loc
    refine ⟨m, ns m hn, fun i x v e1 e2 e3 => ?_⟩
    obtain ⟨u, r, l⟩ := hl i x v e1 e2 e3
    refine ⟨u, r, ?_⟩
    rcases l with l | ⟨k, c, e, z⟩
    · exact .inl l
    · exact .inr ⟨k, c, e, cellK x c e _ z⟩
  · obtain ⟨v, z⟩ := I.cell x c e
    exact ⟨v, cellK x c e v z⟩
  · obtain ⟨m, ⟨o, _, _, ho, _⟩, _⟩ := I.loc
    exact free _ o (fun z => (hch _ z).2.1 rfl) ho I.free
  · obtain ⟨v, o, ho, hd⟩ := I.cell x c e
    exact free c o (fun z => (hch c z).2.2.1 x c e rfl) ho (I.freeC x c e)
  · obtain ⟨e, n, ne, nf, d⟩ := I.pin p hp
    have nch : p.1 ∉ ch := fun z => (hch p.1 z).2.2.2 p hp rfl
    exact ⟨keep p.1 p.2 ne nf nch e n, free p.1 p.2 nch e n, ne, nf, d⟩
theorem Inv.un {t' : Nat} (I : Inv X pins σ H s) (u : Un X.fs [] H H' s.heap h') (hok : HOk X.prog X.w H' h') : Inv X pins σ H' { s with heap := h', toks := t' } := by
  obtain ⟨m, ⟨o, es, ep, ho, r⟩, _⟩ := id I.loc
  obtain ⟨sl, hL⟩ := u.any ho I.free (by simp)
  exact I.step (g' := s.gens) (d' := s.drawn) (ch := []) (fun _ z => nomatch z) (fun b o _ hb _ e n => u.keep b o e n hb (by simp)) (fun b o _ hb _ e n => u.slot b o e n hb (by simp)) (fun b o _ e n => u.free b o e n (by simp)) (fun b o _ e => u.there b o e (by simp)) u.tups u.frzs u.tbls (fun m' hm => by
    obtain ⟨o', es', ep', ho', r'⟩ := hm
    rw [ho] at ho'; cases ho'
    exact ⟨_, es', ep', hL, r'⟩) hok I.bare
theorem Inv.call {g' : Array GenState} {t' : Nat} {d' : Drawn} {ch : List Addr} (I : Inv X pins σ H s) (u : Un (frs X.stack) ch H H' s.heap h') (hok : HOk X.prog X.w H' h') (hg : AllBare g')
    (hch : ∀ b ∈ ch, (b ∈ X.ex ∨ X.s₀.heap.objs.size ≤ b) ∧ b ≠ X.env.locals ∧ (∀ x c, X.env.cells.lookup x = some c → c ≠ b) ∧ ∀ p ∈ X.pn ++ pins, p.1 ≠ b) :
    Inv X pins σ H' { s with heap := h', gens := g', drawn := d', toks := t' } := by
  obtain ⟨m, ⟨o, es, ep, ho, r⟩, _⟩ := id I.loc
  obtain ⟨sl, hL⟩ := u.any ho I.free fun z => (hch _ z).2.1 rfl
  exact I.step (ch := ch) hch (fun b o hL hb hc e n => u.keep b o e n (fun z => (List.mem_cons.mp (I.stkSub b z)).elim hL hb) hc) (fun b o _ _ hc e n => u.any e n hc) (fun b o hc e n => u.free b o e n hc) (fun b o hc e => u.there b o e hc) u.tups u.frzs u.tbls (fun m' hm => by
    obtain ⟨o', es', ep', ho', r'⟩ := hm
    rw [ho] at ho'; cases ho'
    exact ⟨_, es', ep', hL, r'⟩) hok hg
theorem Inv.turned {t' : Nat} {it : Addr} (I : Inv X pins σ H s) (k : ∀ b o, b ≠ it → s.heap.get? b = some o → h'.get? b = some o) (hn : H it = none) (hL : it ≠ X.env.locals)
    (h1 : it ∈ X.ex ∨ X.s₀.heap.objs.size ≤ it) (h2 : ∀ x c, X.env.cells.lookup x = some c → c ≠ it) (h3 : ∀ p ∈ X.pn ++ pins, p.1 ≠ it) : Inv X pins σ H { s with heap := h', toks := t' } := by
  have nit : ∀ b u, H b = some u → b ≠ it := fun b u e z => by rw [z, hn] at e; cases e
  refine I.step (g' := s.gens) (d' := s.drawn) (ch := [it]) (fun b hb => ?_) (fun b o _ _ hc e _ => k b o (fun z => hc (by simp [z])) e) (fun b o _ _ hc e _ => ⟨o.slots, k b o (fun z => hc (by simp [z])) e⟩) (fun _ _ _ _ n => n)
    (fun b o hc e => ⟨o, k b o (fun z => hc (by simp [z])) e⟩) (fun _ _ e => e) (fun _ _ _ e => e) (fun b ps e => ⟨#[], by rw [e]; simp⟩) (fun m hm => ?_) (fun b u e => ?_) I.bare
  · have e : b = it := by simpa using hb
    subst e
    exact ⟨h1, hL, h2, h3⟩
  · obtain ⟨o, es, ep, ho, r⟩ := hm
    exact ⟨o, es, ep, k _ o (Ne.symm hL) ho, r⟩
  · refine (I.hok b u e).stay (fun c v hc q => k c v ?_ q) (fun _ q => q) fun _ _ q => q
    rcases hc with z | z
    · rw [z]; exact nit b u e
    · exact nit c _ z
theorem Inv.tok (I : Inv X pins σ H s) (t : Nat) : Inv X pins σ H { s with toks := t } := I.un (h' := s.heap) (t' := t) Un.refl I.hok
theorem Inv.kept {t' : Nat} (I : Inv X pins σ H s) (k : ∀ b u, s.heap.get? b = some u → h'.get? b = some u) : Inv X pins σ H { s with heap := h', toks := t' } := I.un (Un.kept k) (I.hok.kept k)
theorem Inv.laid {a : Addr} {o : HO} {t' : Nat} (I : Inv X pins σ H s) (k : ∀ b u, s.heap.get? b = some u → h'.get? b = some u) (hp : s.heap.objs.size ≤ a) (new : ObjOk X.prog X.w (upd H a o) h' a o) :
    Inv X pins σ (upd H a o) { s with heap := h', toks := t' } := I.un (Un.laid k hp (I.hok.fresh hp)) (I.hok.laid k hp new)
theorem Inv.write {x e : Addr} {o : HO} {t' : Nat} (I : Inv X pins σ H s) (mu : Mut (H x)) (he : e = x ∨ H e = some (.own x)) (k : ∀ b u, b ≠ e → s.heap.get? b = some u → h'.get? b = some u) (heo : ∃ u, h'.get? e = some u)
    (new : ObjOk X.prog X.w (upd H x o) h' x o) : Inv X pins σ (upd H x o) { s with heap := h', toks := t' } := I.un (Un.write mu he k heo) (I.hok.write mu he k heo new)
theorem Inv.pins_of {pins' : List (Addr × Obj)} (I : Inv X pins σ H s) (h : ∀ p ∈ pins', s.heap.get? p.1 = some p.2 ∧ H p.1 = none ∧ p.1 ≠ X.env.locals ∧ p.1 ∉ X.fs ∧ ∀ v, p.2.data ≠ .cell v) : Inv X pins' σ H s :=
  ⟨I.ok, I.os, I.bare, I.base, I.loc, I.cell, I.free, I.freeC, fun p hp => (List.mem_append.mp hp).elim (fun z => I.pin p (List.mem_append_left _ z)) (h p), I.hok, I.len⟩
theorem nodup_ix {N : List Str} (hN : N.Nodup) {i j : Nat} {x : Str} (a : N[i]? = some x) (b : N[j]? = some x) : i = j := by
  obtain ⟨h1, e1⟩ := List.getElem?_eq_some_iff.mp a
  obtain ⟨h2, e2⟩ := List.getElem?_eq_some_iff.mp b
  exact (List.getElem_inj hN).mp (e1.trans e2.symm)
theorem store_ok2 {M : Model} {A : Around} {E : Value → Shared → Prop} {i : Nat} {x : Str} {v : V} {u : Value} {Q : Unit → Shared → Prop} (I : Inv X pins σ H s) (hN : X.N.Nodup) (hi : X.N[i]? = some x) (hx : Loc X.env.scope x) (r : RelV v u)
    (h : ∀ s', Inv X pins (σ.set i (some v)) H s' → (∃ a, Heap.SameBut a s.heap s'.heap ∧ (a = X.env.locals ∨ X.env.cells.lookup x = some a)) → Q () s') (hf : X.fn x = true ∨ X.env.scope.names.lookup x = some .local := by first | exact .inl rfl | exact .inr rfl | assumption) : wpAny M A (storeName X.env x u) Q E s := by
  obtain ⟨m, hn, hl⟩ := id I.loc
  have hcls : (X.env.scope.kind == .class || (X.env.scope.kind == .module && X.env.locals != X.env.globals)) = false := by rw [I.ok.kind]; rfl
  have hiσ : i < σ.length := by rw [I.len]; exact (List.getElem?_eq_some_iff.mp hi).1
  have cne := I.cne
  have tracked : ∀ {a : Addr} {h' : Heap}, (∃ o, s.heap.get? a = some o ∧ H a = none) → Heap.SameBut a s.heap h' → HOk X.prog X.w H h' := fun {a h'} ha hs b ob e => by
    obtain ⟨_, _, hfree⟩ := ha
    refine (I.hok b ob e).stay (fun c w' hc q => (hs.2 c ?_).trans q) (fun _ q => q) fun _ _ q => q
    rintro rfl
    rcases hc with rfl | hc
    · rw [hfree] at e; cases e
    · rw [hfree] at hc; cases hc
  rcases hx with hk | hk
  · refine wpAny_storeName_local hk hn (fun h' hn' hs => ?_) hcls
    obtain ⟨oL, _, _, hoL, _⟩ := id hn
    refine h _ ⟨I.ok, I.os, I.bare, ⟨fun b o e n hb hx => ?_, fun b o e n hb hx => ?_, I.base.free, fun b o e hx => ?_, I.base.tups, I.base.frzs, I.base.tbls⟩, ⟨_, hn', fun j y v' e1 e2 e3 => ?_⟩, fun y c e => ?_, I.free, I.freeC, fun p hp => ?_, tracked ⟨oL, hoL, I.free⟩ hs, by simpa using I.len⟩ ⟨_, hs, .inl rfl⟩
    · exact (hs.2 b (Nat.ne_of_lt (Nat.lt_of_lt_of_le (Heap.lt_size e) I.ok.above))).trans (I.base.keep b o e n hb hx)
    · obtain ⟨sl, e1⟩ := I.base.slot b o e n hb hx
      exact ⟨sl, (hs.2 b (Nat.ne_of_lt (Nat.lt_of_lt_of_le (Heap.lt_size e) I.ok.above))).trans e1⟩
    · obtain ⟨o', e1⟩ := I.base.there b o e hx
      exact ⟨o', (hs.2 b (Nat.ne_of_lt (Nat.lt_of_lt_of_le (Heap.lt_size e) I.ok.above))).trans e1⟩
    · by_cases hj : j = i
      · subst hj
        rw [hi] at e1; cases e1
        rw [List.getElem?_set_self hiσ] at e2
        cases e2
        exact ⟨u, r, .inl ⟨hk, by simp⟩⟩
      · rw [List.getElem?_set_ne (Ne.symm hj)] at e2
        obtain ⟨u', r', q⟩ := hl j y v' e1 e2 e3
        refine ⟨u', r', ?_⟩
        rcases q with ⟨k, e⟩ | ⟨k, c, e, z⟩
        · refine .inl ⟨k, ?_⟩
          have : y ≠ x := fun e => hj (nodup_ix hN e1 (e ▸ hi))
          simp [this, e]
        · exact .inr ⟨k, c, e, z.sameBut hs (cne y c e)⟩
    · obtain ⟨w', z⟩ := I.cell y c e
      exact ⟨w', z.sameBut hs (cne y c e)⟩
    · obtain ⟨e, n, ne, nf, d⟩ := I.pin p hp
      exact ⟨(hs.2 p.1 ne).trans e, n, ne, nf, d⟩
  · have hfn : X.fn x = true := by
      rcases hf with z | z
      · exact z
      · rw [z] at hk; cases hk
    obtain ⟨c, hc⟩ := I.ok.has x (.inl hk)
    obtain ⟨w', z⟩ := I.cell x c hc
    refine wpAny_storeName_cell I.ok.kind hk hc z (fun h' hc' hs => ?_)
    obtain ⟨oc, hoc, hocd⟩ := id z
    refine h { s with heap := h' } ⟨I.ok, I.os, I.bare, ⟨fun b o e n hb hx => ?_, fun b o e n hb hx => ?_, I.base.free, fun b o e hx => ?_, I.base.tups, I.base.frzs, I.base.tbls⟩, ⟨m, hn.sameBut hs (Ne.symm (cne x c hc)), fun j y v' e1 e2 e3 => ?_⟩, fun y c' e => ?_, I.free, I.freeC, fun p hp => ?_, tracked ⟨oc, hoc, I.freeC x c hc⟩ hs, by simpa using I.len⟩ ⟨c, hs, .inr hc⟩
    · exact (hs.2 b (Nat.ne_of_lt (Nat.lt_of_lt_of_le (Heap.lt_size e) (I.ok.cab x c hfn hc)))).trans (I.base.keep b o e n hb hx)
    · obtain ⟨sl, e1⟩ := I.base.slot b o e n hb hx
      exact ⟨sl, (hs.2 b (Nat.ne_of_lt (Nat.lt_of_lt_of_le (Heap.lt_size e) (I.ok.cab x c hfn hc)))).trans e1⟩
    · obtain ⟨o', e1⟩ := I.base.there b o e hx
      exact ⟨o', (hs.2 b (Nat.ne_of_lt (Nat.lt_of_lt_of_le (Heap.lt_size e) (I.ok.cab x c hfn hc)))).trans e1⟩
    · by_cases hj : j = i
      · subst hj
        rw [hi] at e1; cases e1
        rw [List.getElem?_set_self hiσ] at e2
        cases e2
        exact ⟨u, r, .inr ⟨.inl hk, c, hc, hc'⟩⟩
      · rw [List.getElem?_set_ne (Ne.symm hj)] at e2
        obtain ⟨u', r', q⟩ := hl j y v' e1 e2 e3
        refine ⟨u', r', ?_⟩
        rcases q with q | ⟨k, c', e, z'⟩
        · exact .inl q
        · refine .inr ⟨k, c', e, z'.sameBut hs ?_⟩
          rintro rfl
          exact hj (nodup_ix hN e1 (I.ok.inj _ _ _ e hc ▸ hi))
    · by_cases hcc : c' = c
      · subst hcc; exact ⟨_, hc'⟩
      · obtain ⟨w2, z2⟩ := I.cell y c' e
        exact ⟨w2, z2.sameBut hs hcc⟩
    · obtain ⟨e, n, ne, nf, d⟩ := I.pin p hp
      refine ⟨(hs.2 p.1 ?_).trans e, n, ne, nf, d⟩
      intro q
      rw [q, hoc] at e
      have q' : oc = p.2 := Option.some.inj e
      exact d w' (by rw [← q']; exact hocd)
theorem store_ok {M : Model} {A : Around} {E : Value → Shared → Prop} {i : Nat} {x : Str} {v : V} {u : Value} {Q : Unit → Shared → Prop} (I : Inv X pins σ H s) (hN : X.N.Nodup) (hi : X.N[i]? = some x) (hx : Loc X.env.scope x) (r : RelV v u)
    (h : ∀ s', Inv X pins (σ.set i (some v)) H s' → Q () s') (hf : X.fn x = true ∨ X.env.scope.names.lookup x = some .local := by first | exact .inl rfl | exact .inr rfl | assumption) : wpAny M A (storeName X.env x u) Q E s :=
  store_ok2 I hN hi hx r (fun s' I' _ => h s' I') hf
theorem Inv.call' {s' : Shared} {ch : List Addr} (I : Inv X pins σ H s) (ho : s'.os = s.os) (u : Un (frs X.stack) ch H H' s.heap s'.heap) (hok : HOk X.prog X.w H' s'.heap) (hg : AllBare s'.gens)
    (hch : ∀ b ∈ ch, (b ∈ X.ex ∨ X.s₀.heap.objs.size ≤ b) ∧ b ≠ X.env.locals ∧ (∀ x c, X.env.cells.lookup x = some c → c ≠ b) ∧ ∀ p ∈ X.pn ++ pins, p.1 ≠ b) : Inv X pins σ H' s' := by
  obtain ⟨h', g', d', t', o'⟩ := s'
  have e : o' = s.os := ho
  subst e
  exact I.call (g' := g') (t' := t') (d' := d') u hok hg hch
end
abbrev XK := Value → Option Addr → Hp → Prop
abbrev St := List (Option V)
abbrev VK := V → Hp → Prop
abbrev TE := St → Hp → VK → Prop
abbrev TT := St → Hp → (Bool → Hp → Prop) → Prop
abbrev TA := St → Hp → (List V → Hp → Prop) → Prop
structure Ends where
  nx : St → Hp → Prop
  rt : VK
  bk : St → Hp → Prop := fun _ _ => False
  ct : St → Hp → Prop := fun _ _ => False
abbrev TS := Ends → St → Hp → Prop
def EP (X : Cx) (pins : List (Addr × Obj)) (σ : St) (Q : VK) (u : Value) (s' : Shared) : Prop := ∃ v H', Inv X pins σ H' s' ∧ RelV v u ∧ Q v H'
def TP (X : Cx) (pins : List (Addr × Obj)) (σ : St) (Q : Bool → Hp → Prop) (b : Bool) (s' : Shared) : Prop := ∃ H', Inv X pins σ H' s' ∧ Q b H'
def AP (X : Cx) (pins : List (Addr × Obj)) (σ : St) (Q : List V → Hp → Prop) (us : List Value) (s' : Shared) : Prop := ∃ vs H', Inv X pins σ H' s' ∧ Vals vs us ∧ Q vs H'
def SP (X : Cx) (pins : List (Addr × Obj)) (D : Ends) (f : Flow) (s' : Shared) : Prop :=
  match f with
  | .next => ∃ σ' H', Inv X pins σ' H' s' ∧ D.nx σ' H'
  | .brk => ∃ σ' H', Inv X pins σ' H' s' ∧ D.bk σ' H'
  | .cont => ∃ σ' H', Inv X pins σ' H' s' ∧ D.ct σ' H'
  | .ret u => ∃ v σ' H', Inv X pins σ' H' s' ∧ RelV v u ∧ D.rt v H'
def PE (X : Cx) (e : Expr) (t : TE) : Prop :=
  ∀ (pins : List (Addr × Obj)) (s : Shared) (σ : St) (H : Hp) (Q : VK), Inv X pins σ H s → t σ H Q → wpAny (model X.prog X.w) X.A (eval e X.env) (EP X pins σ Q) X.xe s
def PT (X : Cx) (e : Expr) (t : TT) : Prop :=
  ∀ (pins : List (Addr × Obj)) (s : Shared) (σ : St) (H : Hp) (Q : Bool → Hp → Prop), Inv X pins σ H s → t σ H Q → wpAny (model X.prog X.w) X.A (isTrue e X.env (eval e X.env)) (TP X pins σ Q) X.xe s
def PW (X : Cx) (e : Expr) (t : TT) : Prop :=
  ∀ (whole : Sem Value) (pins : List (Addr × Obj)) (s : Shared) (σ : St) (H : Hp) (Q : Bool → Hp → Prop), Inv X pins σ H s → t σ H Q → wpAny (model X.prog X.w) X.A (isTrue e X.env whole) (TP X pins σ Q) X.xe s
theorem PW.pt {X : Cx} {e : Expr} {t : TT} (h : PW X e t) : PT X e t := h _
def PA (X : Cx) (es : List Expr) (t : TA) : Prop :=
  ∀ (pos : Pos) (pins : List (Addr × Obj)) (s : Shared) (σ : St) (H : Hp) (Q : List V → Hp → Prop), Inv X pins σ H s → t σ H Q → wpAny (model X.prog X.w) X.A (spliced (backTo pos (starEach es X.env))) (AP X pins σ Q) X.xe s
def PS (X : Cx) (st : Stmt) (t : TS) : Prop :=
  ∀ (pins : List (Addr × Obj)) (s : Shared) (σ : St) (H : Hp) (D : Ends), Inv X pins σ H s → t D σ H → wpAny (model X.prog X.w) X.A (exec st X.env) (SP X pins D) X.xe s
def PSs (X : Cx) (st : List Stmt) (t : TS) : Prop :=
  ∀ (pins : List (Addr × Obj)) (s : Shared) (σ : St) (H : Hp) (D : Ends), Inv X pins σ H s → t D σ H → wpAny (model X.prog X.w) X.A (execs st X.env) (SP X pins D) X.xe s
theorem thn {α : Type} {t : Sem α} {Q Q' : α → Shared → Prop} {M : Model} {A : Around} {E : Value → Shared → Prop} {s : Shared} (h : wpAny M A t Q E s) (hQ : ∀ a s, Q a s → Q' a s) : wpAny M A t Q' E s := wpAny_mono h hQ fun _ _ x => x
end L2
namespace L2
open PySem PySem.Spec PyProof.Rows
section
variable {X : Cx}
def tVar (i : Nat) : TE := fun σ H Q => ∃ v, σ[i]? = some (some v) ∧ Q v H
def tC (v : V) : TE := fun _ H Q => Q v H
theorem pe_var {i : Nat} {x : Str} {pos : Pos} (hN : X.N[i]? = some x) (hv : Vis X.env.scope x) (hd : (x == ("__debug__" : Str)) = false := by decide) (hcd : (x == ("__classdict__" : Str)) = false := by decide) : PE X (.Name x pos) (tVar i) := by
  intro pins s σ H Q I h
  obtain ⟨v, e, h⟩ := h
  obtain ⟨m, hn, hl⟩ := I.loc
  obtain ⟨u, r, l⟩ := hl i x v hN e hv
  have fin : EP X pins σ Q u s := ⟨v, H, I, r, h⟩
  rcases l with ⟨hk, hm⟩ | ⟨hk, c, hc, hcell⟩
  · exact wpAny_Name (wpAny_loadName_local I.ok.kind hk hn hm fin) hd
  · rcases hk with hk | hk
    · exact wpAny_Name (wpAny_loadName_cell I.ok.kind hk hc hcell fin) hd
    · exact wpAny_Name (wpAny_loadName_free I.ok.kind hk hc hcell fin hcd) hd
theorem pe_int {i j pos} : PE X (.Constant (.int i) j pos) (tC (.int i)) := fun _ _ _ H _ I h => wpAny_Constant_int ⟨.int i, H, I.tok _, ⟨_, rfl⟩, h⟩
theorem pe_bl {b j pos} : PE X (.Constant (.bool b) j pos) (tC (.bl b)) := fun _ _ _ H _ I h => Constant_bool ⟨.bl b, H, I, rfl, h⟩
theorem pe_non {j pos} : PE X (.Constant .none j pos) (tC .non) := fun _ _ _ H _ I h => Constant_none ⟨.non, H, I, rfl, h⟩
theorem pe_str {x j pos} : PE X (.Constant (.str x) j pos) (tC (.str x)) := fun _ _ _ H _ I h => Calls.Constant_str ⟨.str x, H, I.tok _, ⟨_, rfl⟩, h⟩
def Gl (X : Cx) (x : Str) : Prop := X.env.kindOf x = some .globalImplicit
theorem ld_glob {E : Value → Shared → Prop} {pins : List (Addr × Obj)} {s : Shared} {σ : St} {H : Hp} {x : Str} {u : Value} {pos : Pos} {Q : Value → Shared → Prop} (I : Inv X pins σ H s) (hg : Gl X x) (hm : X.mg x = some u) (h : Q u s)
    (hd : (x == ("__debug__" : Str)) = false := by decide) : wpAny (model X.prog X.w) X.A (eval (.Name x pos) X.env) Q E s :=
  Calls.Name_function_global I.ok.kind hg (Calls.loadGlobal_global (by rw [I.ok.glob]; exact I.mod.glob.keeps I.bk) hm h) hd
theorem ld_blt {E : Value → Shared → Prop} {pins : List (Addr × Obj)} {s : Shared} {σ : St} {H : Hp} {x : Str} {u : Value} {pos : Pos} {Q : Value → Shared → Prop} (I : Inv X pins σ H s) (hg : Gl X x) (hm : X.mg x = none) (hv : bootBuiltins x = some u) (h : Q u s)
    (hn : x ≠ "__name__" := by decide) (hd : (x == ("__debug__" : Str)) = false := by decide) : wpAny (model X.prog X.w) X.A (eval (.Name x pos) X.env) Q E s := by
  obtain ⟨mb, h1, h2⟩ := I.mod.blt
  exact Calls.Name_function_global I.ok.kind hg (Calls.loadGlobal_builtin (by rw [I.ok.glob]; exact I.mod.glob.keeps I.bk) hm (by rw [I.ok.blt]; exact h1.keeps I.bk) ((h2 x hn).trans hv) h) hd
theorem pe_glob {x : Str} {v : V} {u : Value} {pos : Pos} (hg : Gl X x) (hm : X.mg x = some u) (r : RelV v u) (hd : (x == ("__debug__" : Str)) = false := by decide) : PE X (.Name x pos) (tC v) :=
  fun _ _ _ H _ I h => ld_glob I hg hm ⟨v, H, I, r, h⟩ hd
theorem pe_bltn {x : Str} {v : V} {u : Value} {pos : Pos} (hg : Gl X x) (hm : X.mg x = none) (hv : bootBuiltins x = some u) (r : RelV v u) (hn : x ≠ "__name__" := by decide) (hd : (x == ("__debug__" : Str)) = false := by decide) : PE X (.Name x pos) (tC v) :=
  fun _ _ _ H _ I h => ld_blt I hg hm hv ⟨v, H, I, r, h⟩ hn hd
def t2I (ta tb : TE) (k : Int → Int → Hp → Prop) : St → Hp → Prop := fun σ H => ta σ H fun x H1 => tb σ H1 fun y H2 => ∃ i j, x = .int i ∧ y = .int j ∧ k i j H2
def tAdd (ta tb : TE) : TE := fun σ H Q => t2I ta tb (fun i j H2 => Q (.int (i + j)) H2) σ H
def tSub (ta tb : TE) : TE := fun σ H Q => t2I ta tb (fun i j H2 => Q (.int (i - j)) H2) σ H
def tMul (ta tb : TE) : TE := fun σ H Q => t2I ta tb (fun i j H2 => (-(2 ^ 64) < i ∧ i < 2 ^ 64) ∧ Q (.int (i * j)) H2) σ H
variable {a b : Expr} {ta tb : TE} {pos : Pos}
def PC (X : Cx) (op : CmpOp) (a b : Expr) (t : TE) : Prop :=
  ∀ (pins : List (Addr × Obj)) (s : Shared) (σ : St) (H : Hp) (Q : VK), Inv X pins σ H s → t σ H Q →
    wpAny (model X.prog X.w) X.A (eval a X.env) (fun v s₁ => wpAny (model X.prog X.w) X.A (eval b X.env) (fun u s₂ => wpAny (model X.prog X.w) X.A (compareOp op v u) (EP X pins σ Q) X.xe s₂) X.xe s₁) X.xe s
def tCmp (p : Int → Int → Bool) (ta tb : TE) : TE := fun σ H Q => t2I ta tb (fun i j H2 => Q (.bl (p i j)) H2) σ H
abbrev tLt : TE → TE → TE := tCmp fun i j => decide (i < j)
abbrev tLe : TE → TE → TE := tCmp fun i j => decide (i ≤ j)
abbrev tGt : TE → TE → TE := tCmp fun i j => decide (j < i)
abbrev tGe : TE → TE → TE := tCmp fun i j => decide (j ≤ i)
abbrev tEqI : TE → TE → TE := tCmp fun i j => decide (i = j)
abbrev tNeI : TE → TE → TE := tCmp fun i j => !decide (i = j)
def tIsN (ta : TE) : TE := fun σ H Q => ta σ H fun x H1 => Q (.bl (decide (x = .non))) H1
def tNotN (ta : TE) : TE := fun σ H Q => ta σ H fun x H1 => Q (.bl (!decide (x = .non))) H1
def tB (t : TE) : TT := fun σ H Q => t σ H fun x H1 => ∃ c, x = .bl c ∧ Q c H1
theorem pe_cmp {op : CmpOp} {t : TE} (h : PC X op a b t) (h1 : behindInMarks op b = false := by first | exact nobehind _ (by decide) (by decide) | rfl) : PE X (.Compare a [op] [b] pos) t := fun pins s σ H Q I hw => wpAny_Compare1 (h pins s σ H Q I hw) h1
theorem pt_val {e : Expr} {t : TE} (h : PE X e t) (he : ∀ whole, isTrue e X.env whole = (do let v ← whole; standAt e.pos; holding [v] (truthy v)) := by intro _; rfl) : PT X e (tB t) := by
  intro pins s σ H Q I hw
  refine isTrue_plain (thn (h pins s σ H _ I hw) fun v s1 ⟨x, H1, I1, r1, q1⟩ => ?_) (he _)
  obtain ⟨d, rfl, q⟩ := q1
  cases r1
  exact wpAny_truthy_bool ⟨H1, I1, q⟩
variable {tA tB' : TT} {rest : List Expr}
def tAnd (t u : TT) : TT := fun σ H Q => t σ H fun c H1 => if c = true then u σ H1 Q else Q false H1
def tOr (t u : TT) : TT := fun σ H Q => t σ H fun c H1 => if c = true then Q true H1 else u σ H1 Q
def tNot (t : TT) : TT := fun σ H Q => t σ H fun c H1 => Q (!c) H1
theorem pw_and1 (ha : PT X a tA) : PW X (.BoolOp .And [a] pos) tA := by
  intro wh pins s σ H Q I h
  refine isTrue_and (thn (ha pins s σ H Q I h) fun c s1 e => ?_)
  cases c with
  | true => exact isTrue_and_nil e
  | false => exact e
theorem pw_or1 (ha : PT X a tA) : PW X (.BoolOp .Or [a] pos) tA := by
  intro wh pins s σ H Q I h
  refine isTrue_or (thn (ha pins s σ H Q I h) fun c s1 e => ?_)
  cases c with
  | false => exact isTrue_or_nil e
  | true => exact e
theorem pw_and (ha : PT X a tA) (hb : PW X (.BoolOp .And (b :: rest) pos) tB') : PW X (.BoolOp .And (a :: b :: rest) pos) (tAnd tA tB') := by
  intro wh pins s σ H Q I h
  refine isTrue_and (thn (ha pins s σ H _ I h) fun c s1 ⟨H1, I1, q1⟩ => ?_)
  cases c with
  | true => exact hb wh pins s1 σ H1 Q I1 q1
  | false => exact ⟨H1, I1, q1⟩
theorem pw_or (ha : PT X a tA) (hb : PW X (.BoolOp .Or (b :: rest) pos) tB') : PW X (.BoolOp .Or (a :: b :: rest) pos) (tOr tA tB') := by
  intro wh pins s σ H Q I h
  refine isTrue_or (thn (ha pins s σ H _ I h) fun c s1 ⟨H1, I1, q1⟩ => ?_)
  cases c with
  | true => exact ⟨H1, I1, q1⟩
  | false => exact hb wh pins s1 σ H1 Q I1 q1
theorem pt_not (ha : PT X a tA) : PT X (.UnaryOp .Not a pos) (tNot tA) := by
  intro pins s σ H Q I h
  exact isTrue_not (ha pins s σ H (fun c H1 => Q (!c) H1) I h)
def tAndV (ta tb : TE) : TE := fun σ H Q => ta σ H fun x H1 => ∃ c, x = .bl c ∧ if c = true then tb σ H1 Q else Q (.bl false) H1
def tOrV (ta tb : TE) : TE := fun σ H Q => ta σ H fun x H1 => ∃ c, x = .bl c ∧ if c = true then Q (.bl true) H1 else tb σ H1 Q
def tNotV (ta : TE) : TE := fun σ H Q => ta σ H fun x H1 => ∃ c, x = .bl c ∧ Q (.bl (!c)) H1
theorem pe_one {op} {t : TE} (h : PE X a t) : PE X (.BoolOp op [a] pos) t := fun pins s σ H Q I hw => BoolOp_one (h pins s σ H Q I hw)
theorem pe_and (ha : PE X a ta) (hb : PE X (.BoolOp .And (b :: rest) pos) tb) : PE X (.BoolOp .And (a :: b :: rest) pos) (tAndV ta tb) := by
  intro pins s σ H Q I h
  refine BoolOp_and (thn (ha pins s σ H _ I h) fun v s1 ⟨x, H1, I1, r1, q1⟩ => ?_)
  obtain ⟨c, rfl, q1⟩ := q1
  cases r1
  refine wpAny_truthy_bool ?_
  cases c with
  | true => exact hb pins s1 σ H1 Q I1 q1
  | false => exact ⟨.bl false, H1, I1, rfl, q1⟩
theorem pe_not (ha : PE X a ta) : PE X (.UnaryOp .Not a pos) (tNotV ta) := by
  intro pins s σ H Q I h
  refine UnaryOp_ (thn (ha pins s σ H _ I h) fun v s1 ⟨x, H1, I1, r1, q1⟩ => ?_)
  obtain ⟨c, rfl, q1⟩ := q1
  cases r1
  exact not_of (wpAny_truthy_bool ⟨.bl (!c), H1, I1, rfl, q1⟩)
def tIf (t : TT) (ta tb : TE) : TE := fun σ H Q => t σ H fun c H1 => if c = true then ta σ H1 Q else tb σ H1 Q
end
end L2
namespace L2
open PySem PySem.Spec PyProof.Rows
def SqL (K : PySem.W.Frag) (H : Hp) (a : Addr) (xs : List V) : Prop :=
  Rd H a (.lst xs) ∨
    ∃ (o : Obj) (its : Array Value) (n : Nat), K.lookup a = some o ∧ o.cls = .type "list" ∧ o.dict = none ∧ o.data = .seq its n ∧ its.size ≤ sizeLine ∧ Vals xs its.toList
def SqT (K : PySem.W.Frag) (H : Hp) (a : Addr) (xs : List V) : Prop :=
  Rd H a (.tup xs) ∨
    ∃ (o : Obj) (its : Array Value) (n : Nat), K.lookup a = some o ∧ o.cls = .type "tuple" ∧ o.data = .seq its n ∧ its.size ≤ sizeLine ∧ Vals xs its.toList
def absV : Value → Option V
  | .none => some .non
  | .bool b => some (.bl b)
  | .int i _ => some (.int i)
  | .str x _ => some (.str x)
  | .bytes b _ => some (.byt b)
  | .float b _ => some (.flt b)
  | .ref a => some (.ref a)
  | .type n => some (.ty n)
  | _ => none
theorem RelV.abs {x : V} {u : Value} (r : RelV x u) : absV u = some x := by
  cases x with
  | non => cases r; rfl
  | bl _ => cases r; rfl
  | int _ => obtain ⟨t, rfl⟩ := r; rfl
  | str _ => obtain ⟨t, rfl⟩ := r; rfl
  | byt _ => obtain ⟨t, rfl⟩ := r; rfl
  | flt _ => obtain ⟨t, rfl⟩ := r; rfl
  | ref _ => cases r; rfl
  | ty _ => cases r; rfl
theorem RelV.inj {x y : V} {u : Value} (r : RelV x u) (q : RelV y u) : x = y := Option.some.inj (r.abs.symm.trans q.abs)
theorem Vals.inj : ∀ {xs ys : List V} {us : List Value}, Vals xs us → Vals ys us → xs = ys
  | _, _, _, .nil, .nil => rfl
  | _, _, _, .cons r t, .cons r' t' => by rw [r.inj r', Vals.inj t t']
section
variable {X : Cx} {pins : List (Addr × Obj)} {σ : St} {H : Hp} {s : Shared} {a : Addr} {xs ys : List V}
theorem SqL.of {K : PySem.W.Frag} (h : H a = some (.lst xs)) : SqL K H a xs := .inl (.inl h)
theorem SqT.of {K : PySem.W.Frag} (h : H a = some (.tup xs)) : SqT K H a xs := .inl (.inl h)
theorem Inv.list (I : Inv X pins σ H s) (h : SqL X.K H a xs) : ∃ its : List Value, Vals xs its ∧ PlainL s.heap a its.toArray ∧ xs.length ≤ sizeLine := by
  rcases h with h | ⟨o, its, n, hk, hc, hd, hs, hz, r⟩
  · obtain ⟨z, its, n, r, e⟩ := h.ok I.hok
    exact ⟨its, r, ⟨_, n, e, rfl, rfl, rfl⟩, z⟩
  · refine ⟨its.toList, r, ⟨o, n, I.kIn a o hk, hc, hd, by simpa using hs⟩, ?_⟩
    have e := r.length
    simp only [Array.length_toList] at e
    omega
theorem Inv.tuple (I : Inv X pins σ H s) (h : SqT X.K H a xs) : ∃ its : List Value, Vals xs its ∧ IsTup s.heap a its.toArray ∧ xs.length ≤ sizeLine := by
  rcases h with h | ⟨o, its, n, hk, hc, hs, hz, r⟩
  · obtain ⟨z, its, r, p⟩ := h.ok I.hok
    exact ⟨its, r, p, z⟩
  · refine ⟨its.toList, r, ⟨o, I.kIn a o hk, hc, n, by simpa using hs⟩, ?_⟩
    have e := r.length
    simp only [Array.length_toList] at e
    omega
theorem Inv.list_inj (I : Inv X pins σ H s) (h : SqL X.K H a xs) (h' : SqL X.K H a ys) : xs = ys := by
  obtain ⟨its, r, ⟨o, n, e, _, _, d⟩, _⟩ := I.list h
  obtain ⟨its', r', ⟨o', n', e', _, _, d'⟩, _⟩ := I.list h'
  rw [e] at e'; cases e'
  rw [d] at d'
  injection d' with d1 _
  have : its = its' := by simpa using congrArg Array.toList d1
  subst this
  exact r.inj r'
theorem Inv.tuple_inj (I : Inv X pins σ H s) (h : SqT X.K H a xs) (h' : SqT X.K H a ys) : xs = ys := by
  obtain ⟨its, r, ⟨o, e, _, n, d⟩, _⟩ := I.tuple h
  obtain ⟨its', r', ⟨o', e', _, n', d'⟩, _⟩ := I.tuple h'
  rw [e] at e'; cases e'
  rw [d] at d'
  injection d' with d1 _
  have : its = its' := by simpa using congrArg Array.toList d1
  subst this
  exact r.inj r'
end
abbrev Cx.wish (X : Cx) (E : Value → Shared → Prop) : Cx := { X with xe := E }
abbrev Cx.nox (X : Cx) : Cx := X.wish fun _ _ => False
theorem Cx.Ok.wish {X : Cx} (ok : X.Ok) (E : Value → Shared → Prop) : (X.wish E).Ok :=
  ⟨ok.mod, ok.kind, ok.glob, ok.blt, ok.above, ok.inj, ok.has, ok.cab, ok.hd, ok.frames, ok.stk, ok.exf, ok.bs, ok.bsz, ok.noex, ok.exfs, ok.funs, ok.frf⟩
theorem Cx.Ok.unwish {X : Cx} {E : Value → Shared → Prop} (ok : (X.wish E).Ok) : X.Ok :=
  ⟨ok.mod, ok.kind, ok.glob, ok.blt, ok.above, ok.inj, ok.has, ok.cab, ok.hd, ok.frames, ok.stk, ok.exf, ok.bs, ok.bsz, ok.noex, ok.exfs, ok.funs, ok.frf⟩
section
variable {X : Cx} {pins : List (Addr × Obj)} {σ : St} {H : Hp} {s : Shared} {E : Value → Shared → Prop}
theorem Inv.wish (I : Inv X pins σ H s) (E : Value → Shared → Prop) : Inv (X.wish E) pins σ H s := ⟨I.ok.wish E, I.os, I.bare, I.base, I.loc, I.cell, I.free, I.freeC, I.pin, I.hok, I.len⟩
theorem Inv.unwish (I : Inv (X.wish E) pins σ H s) : Inv X pins σ H s := ⟨I.ok.unwish, I.os, I.bare, I.base, I.loc, I.cell, I.free, I.freeC, I.pin, I.hok, I.len⟩
theorem SP.unwish {D : Ends} {f : Flow} {s' : Shared} (h : SP (X.wish E) pins D f s') : SP X pins D f s' := by
  cases f with
  | next => obtain ⟨σ', H', I, q⟩ := h; exact ⟨σ', H', I.unwish, q⟩
  | brk => obtain ⟨σ', H', I, q⟩ := h; exact ⟨σ', H', I.unwish, q⟩
  | cont => obtain ⟨σ', H', I, q⟩ := h; exact ⟨σ', H', I.unwish, q⟩
  | ret u => obtain ⟨v, σ', H', I, r, q⟩ := h; exact ⟨v, σ', H', I.unwish, r, q⟩
theorem PSs.nox {st : List Stmt} {t : TS} (h : PSs X.nox st t) : PSs X st t := fun pins s σ H D I hw =>
  wpAny_mono (h pins s σ H D (I.wish _) hw) (fun _ _ q => q.unwish) fun _ _ z => False.elim z
end
section
variable {X : Cx} {st : Stmt} {rest : List Stmt} {t u : TS} {e : Expr} {te : TE} {pos : Pos}
def tNext : TS := fun D σ H => D.nx σ H
def tSeq (t u : TS) : TS := fun D σ H => t { D with nx := u D } σ H
theorem pss_nil : PSs X [] tNext := fun _ _ σ H _ I h => wpAny_execs_nil ⟨σ, H, I, h⟩
theorem pss_cons (h1 : PS X st t) (h2 : PSs X rest u) : PSs X (st :: rest) (tSeq t u) := by
  intro pins s σ H D I h
  refine wpAny_execs_cons (thn (h1 pins s σ H { D with nx := u D } I h) fun f s1 q => ?_)
  cases f with
  | next =>
    obtain ⟨σ', H', I', q⟩ := q
    exact h2 pins s1 σ' H' D I' q
  | ret v => exact q
  | brk => exact q
  | cont => exact q
theorem pss_one (h1 : PS X st t) : PSs X [st] t := by
  intro pins s σ H D I h
  refine wpAny_execs_cons (thn (h1 pins s σ H D I h) fun f s1 q => ?_)
  cases f with
  | next => exact wpAny_execs_nil q
  | ret v => exact q
  | brk => exact q
  | cont => exact q
def tBreak : TS := fun D σ H => D.bk σ H
def tCont : TS := fun D σ H => D.ct σ H
theorem Inv.quiet {pins : List (Addr × Obj)} {σ : St} {H : Hp} {s : Shared} (I : Inv X pins σ H s) : interactive X.env = false := by simp [interactive, I.ok.kind]
def tDrop (te : TE) : TS := fun D σ H => te σ H fun _ H1 => D.nx σ H1
theorem ps_expr (he : PE X e te) (hs : swapsWith e none pos.line X.env = pure false := by rfl) : PS X (.Expr e pos) (tDrop te) := by
  intro pins s σ H D I h
  exact wpAny_Expr_any (thn (he pins s σ H _ I h) fun v s1 ⟨x, H1, I1, r1, q1⟩ => ⟨σ, H1, I1, q1⟩) I.quiet hs
def tRet (te : TE) : TS := fun D σ H => te σ H D.rt
theorem ps_ret (he : PE X e te) : PS X (.Return (some e) pos) (tRet te) := by
  intro pins s σ H D I h
  exact wpAny_Return_some (thn (he pins s σ H _ I h) fun v s1 ⟨x, H1, I1, r1, q1⟩ => ⟨x, σ, H1, I1, r1, q1⟩)
def tRetN : TS := fun D _ H => D.rt .non H
def tIfS (c : TT) (t u : TS) : TS := fun D σ H => c σ H fun b H1 => if b = true then t D σ H1 else u D σ H1
theorem ps_if {c : Expr} {a b : List Stmt} {tc : TT} (hc : PT X c tc) (ha : PSs X a t) (hb : PSs X b u) : PS X (.If c a b pos) (tIfS tc t u) := by
  intro pins s σ H D I h
  refine wpAny_If (thn (hc pins s σ H _ I h) fun d s1 ⟨H1, I1, q1⟩ => ?_)
  cases d with
  | true => exact ha pins s1 σ H1 D I1 q1
  | false => exact hb pins s1 σ H1 D I1 q1
def tNever : TS := fun _ _ _ => False
end
abbrev TG := V → St → Hp → (St → Hp → Prop) → Prop
abbrev TGs := List V → St → Hp → (St → Hp → Prop) → Prop
def PG (X : Cx) (target : Expr) (t : TG) : Prop :=
  ∀ (pins : List (Addr × Obj)) (s : Shared) (σ : St) (H : Hp) (v : V) (u : Value) (Q : St → Hp → Prop), Inv X pins σ H s → RelV v u → t v σ H Q →
    wpAny (model X.prog X.w) X.A (assign target X.env u) (fun _ s' => ∃ σ' H', Inv X pins σ' H' s' ∧ Q σ' H') X.xe s
def PGs (X : Cx) (ts : List Expr) (t : TGs) : Prop :=
  ∀ (pins : List (Addr × Obj)) (s : Shared) (σ : St) (H : Hp) (vs : List V) (us : List Value) (Q : St → Hp → Prop), Inv X pins σ H s → Vals vs us → t vs σ H Q →
    wpAny (model X.prog X.w) X.A (assignInOrder ((assignEach ts X.env).map (·.2)) us) (fun _ s' => ∃ σ' H', Inv X pins σ' H' s' ∧ Q σ' H') X.xe s
abbrev TSet := V → V → V → Hp → (Hp → Prop) → Prop
def PSet (X : Cx) (t : TSet) : Prop :=
  ∀ (pins : List (Addr × Obj)) (s : Shared) (σ : St) (H : Hp) (o i v : V) (ov iv u : Value) (Q : Hp → Prop), Inv X pins σ H s → RelV o ov → RelV i iv → RelV v u → t o i v H Q →
    wpAny (model X.prog X.w) X.A (setItem ov iv u) (fun _ s' => ∃ H', Inv X pins σ H' s' ∧ Q H') X.xe s
abbrev TIp := V → V → Hp → VK → Prop
def PIp (X : Cx) (op : Operator) (t : TIp) : Prop :=
  ∀ (pins : List (Addr × Obj)) (s : Shared) (σ : St) (H : Hp) (x y : V) (v u : Value) (Q : VK), Inv X pins σ H s → RelV x v → RelV y u → t x y H Q →
    wpAny (model X.prog X.w) X.A (inplaceOp op v u) (EP X pins σ Q) X.xe s
section
variable {X : Cx} {pos : Pos}
def gName (i : Nat) : TG := fun v σ H Q => Q (σ.set i (some v)) H
theorem pg_name {i : Nat} {x : Str} (hN : X.N.Nodup) (hi : X.N[i]? = some x) (hx : Loc X.env.scope x) (hf : X.fn x = true ∨ X.env.scope.names.lookup x = some .local := by first | exact .inl rfl | exact .inr rfl | assumption) : PG X (.Name x pos) (gName i) := by
  intro pins s σ H v u Q I r h
  exact wpAny_assign_Name (store_ok I hN hi hx r (fun s' I' => ⟨_, H, I', h⟩) hf)
def gNil : TGs := fun vs σ H Q => vs = [] ∧ Q σ H
def gCons (t : TG) (u : TGs) : TGs := fun vs σ H Q => ∃ v r, vs = v :: r ∧ t v σ H fun σ' H' => u r σ' H' Q
theorem pgs_nil : PGs X [] gNil := by
  intro pins s σ H vs us Q I r h
  obtain ⟨e, h⟩ := h
  subst e
  cases r
  exact assignInOrder_nil ⟨σ, H, I, h⟩
theorem pgs_cons {e : Expr} {es : List Expr} {t : TG} {u : TGs} (h1 : PG X e t) (h2 : PGs X es u)
    (hs : (assignEach (e :: es) X.env).map (·.2) = assign e X.env :: (assignEach es X.env).map (·.2) := by rfl) : PGs X (e :: es) (gCons t u) := by
  intro pins s σ H vs us Q I r h
  obtain ⟨v, vr, e1, h⟩ := h
  subst e1
  cases r with
  | cons r rr =>
    rw [hs]
    refine assignInOrder_cons (thn (h1 pins s σ H _ _ _ I r h) fun _ s1 ⟨σ1, H1, I1, q1⟩ => ?_)
    exact h2 pins s1 σ1 H1 _ _ Q I1 rr q1
def gTup (K : PySem.W.Frag) (n : Nat) (t : TGs) : TG := fun v σ H Q => ∃ a xs, v = .ref a ∧ SqT K H a xs ∧ xs.length = n ∧ t xs σ H Q
theorem pg_tup {es : List Expr} {k : Nat} {t : TGs} {n : Nat} (hc : X.calm = true) (h : PGs X es t)
    (hn : (assignEach es X.env).length = n := by rfl) (hst : (assignEach es X.env).findIdx? (·.1) = none := by rfl) : PG X (.Tuple es k pos) (gTup X.K n t) := by
  intro pins s σ H v u Q I r hw
  obtain ⟨a, xs, e1, hq, hl, hw⟩ := hw
  subst e1
  cases r
  obtain ⟨its, rv, ht, hz⟩ := I.tuple hq
  refine assign_Tuple_tuple (I.ok.hd hc) ht (by simp [hn, ← hl, rv.length]) hst fun h' hx => ?_
  have I1 : Inv X pins σ H { s with heap := h' } := I.kept (t' := s.toks) fun b o e => hx b o (Nat.ne_of_lt (Heap.lt_size e)) e
  exact h pins _ σ H xs _ Q I1 (by simpa using rv) hw
def gSub (to ti : TE) (t : TSet) : TG := fun v σ H Q => to σ H fun o H1 => ti σ H1 fun i H2 => t o i v H2 fun H3 => Q σ H3
theorem pg_sub {o i : Expr} {to ti : TE} {t : TSet} (ho : PE X o to) (hi : PE X i ti) (hs : PSet X t)
    (ha : ∀ v, assign (.Subscript o i pos) X.env v = (do
      let ov ← holding [v] (eval o X.env)
      let iv ← holding [v, ov] (eval i X.env)
      standAt pos
      holding [v, ov, iv] (setItem ov iv v)
      release [v, ov, iv] []) := by intro _; rfl) : PG X (.Subscript o i pos) (gSub to ti t) := by
  intro pins s σ H v u Q I r h
  rw [ha]
  refine wpAny_bind (wpAny_holding (thn (ho pins s σ H _ I h) fun ov s1 ⟨x, H1, I1, r1, q1⟩ => ?_))
  refine wpAny_bind (wpAny_holding (thn (hi pins s1 σ H1 _ I1 q1) fun iv s2 ⟨y, H2, I2, r2, q2⟩ => ?_))
  refine wpAny_bind (wpAny_standAt (wpAny_bind (wpAny_holding (thn (hs pins s2 σ H2 x y v ov iv u _ I2 r1 r2 r q2) fun _ s3 ⟨H3, I3, q3⟩ => ?_))))
  exact wpAny_release ⟨σ, H3, I3, q3⟩
def tAsg (te : TE) (g : TG) : TS := fun D σ H => te σ H fun x H1 => g x σ H1 D.nx
theorem ps_asg {tg e : Expr} {te : TE} {g : TG} (he : PE X e te) (hg : PG X tg g) (hs : swapsWithSole [tg] e pos.line X.env = pure false := by rfl) (hw : swappedStores [tg] e X.env = pure none := by rfl)
    (h1 : (assignEach [tg] X.env).map (·.2) = [assign tg X.env] := by rfl) : PS X (.Assign [tg] e pos) (tAsg te g) := by
  intro pins s σ H D I h
  refine wpAny_Assign_stores (thn (he pins s σ H _ I h) fun v s1 ⟨x, H1, I1, r1, q1⟩ => ?_) hs hw
  rw [h1]
  exact thn (hg pins s1 σ H1 x v _ I1 r1 q1) fun _ s2 q => q
theorem ps_set {i : Nat} {x : Str} {e : Expr} {te : TE} {pos' : Pos} (hN : X.N.Nodup) (hi : X.N[i]? = some x) (hx : Loc X.env.scope x) (he : PE X e te) (hs : swapsWith e (some (.Name x pos')) pos.line X.env = pure false := by rfl) (hf : X.fn x = true ∨ X.env.scope.names.lookup x = some .local := by first | exact .inl rfl | exact .inr rfl | assumption) :
    PS X (.Assign [.Name x pos'] e pos) (tAsg te (gName i)) := by
  intro pins s σ H D I h
  refine wpAny_Assign_Name (thn (he pins s σ H _ I h) fun v s1 ⟨y, H1, I1, r1, q1⟩ => ?_) hs
  exact store_ok I1 hN hi hx r1 (fun s2 I2 => ⟨_, H1, I2, q1⟩) hf
def tPar (i j : Nat) (ta : TA) : TS := fun D σ H => ta σ H fun vs H1 => ∃ v w, vs = [v, w] ∧ D.nx ((σ.set i (some v)).set j (some w)) H1
def tAug (i : Nat) (te : TE) (ti : TIp) : TS := fun D σ H => ∃ x, σ[i]? = some (some x) ∧ te σ H fun y H1 => ti x y H1 fun z H2 => D.nx (σ.set i (some z)) H2
def tAugS (to ti te : TE) (tget : V → V → Hp → VK → Prop) (tip : TIp) (tset : TSet) : TS := fun D σ H => to σ H fun o H1 => ti σ H1 fun i H2 => tget o i H2 fun x H3 => te σ H3 fun y H4 => tip x y H4 fun z H5 => tset o i z H5 fun H6 => D.nx σ H6
def PGet (X : Cx) (t : V → V → Hp → VK → Prop) : Prop :=
  ∀ (pins : List (Addr × Obj)) (s : Shared) (σ : St) (H : Hp) (o i : V) (ov iv : Value) (Q : VK), Inv X pins σ H s → RelV o ov → RelV i iv → t o i H Q →
    wpAny (model X.prog X.w) X.A (getItem ov iv) (EP X pins σ Q) X.xe s
def ipI (f : Int → Int → Int) : TIp := fun x y H Q => ∃ i j, x = .int i ∧ y = .int j ∧ Q (.int (f i j)) H
end
section
variable {X : Cx} {pos : Pos}
def tWhile (c : TT) (tb : TS) : TS := fun D σ H => ∃ W : Nat → St → Hp → Prop, (∃ m, W m σ H) ∧ ∀ m σ H, W m σ H →
  c σ H fun b H1 => if b = true then ∃ N : St → Hp → Prop, (∀ σ' H', N σ' H' → ∃ m', m' < m ∧ W m' σ' H') ∧ tb { D with nx := N, ct := N, bk := D.nx } σ H1 else D.nx σ H1
end
structure It where
  go : Nat → Hp → Prop
  yld : Nat → Hp → V → Hp → Prop
  stop : Nat → Hp → Prop
def FpOk (X : Cx) (pins : List (Addr × Obj)) (H : Hp) (b : Addr) : Prop :=
  H b = none ∧ b ≠ X.env.locals ∧ b ∉ X.fs ∧ (b ∈ X.ex ∨ X.s₀.heap.objs.size ≤ b) ∧ (∀ x c, X.env.cells.lookup x = some c → c ≠ b) ∧ ∀ p ∈ X.pn ++ pins, p.1 ≠ b
theorem Inv.fpOk {X : Cx} {pins : List (Addr × Obj)} {σ : St} {H H' : Hp} {s : Shared} {b : Addr} (I : Inv X pins σ H s) (hb : s.heap.objs.size ≤ b) (hn : H' b = none) : FpOk X pins H' b := by
  refine ⟨hn, Nat.ne_of_gt (Nat.lt_of_lt_of_le I.lt hb), I.nofs hb, .inr (Nat.le_trans I.sz hb), fun x c e z => ?_, fun p hp z => ?_⟩
  · obtain ⟨v, q⟩ := I.cell x c e
    exact absurd (Nat.lt_of_lt_of_le q.lt (by rw [z]; exact hb)) (Nat.lt_irrefl _)
  · exact absurd (Nat.lt_of_lt_of_le (Heap.lt_size (I.pin p hp).1) (by rw [z]; exact hb)) (Nat.lt_irrefl _)
structure Turn (P : Program) (w : World) (K : PySem.W.Frag) (tg : Expr) (J : It) (fp : List Addr) (it : Addr) (tn : Nat → Heap → Prop) : Prop where
  mem : it ∈ fp
  obj : ∀ i h, tn i h → ∀ b ∈ fp, ∃ o, h.get? b = some o ∧ ∀ v, o.data ≠ .cell v
  keep : ∀ i h h', tn i h → (∀ b ∈ fp, ∀ o, h.get? b = some o → h'.get? b = some o) → tn i h'
  item : ∀ (X : Cx), X.prog = P → X.w = w → X.K = K → X.calm = true → ∀ (i : Nat) (pins : List (Addr × Obj)) (s : Shared) (σ : St) (H : Hp) (E : Value → Shared → Prop), Inv X pins σ H s → (∀ b ∈ fp, FpOk X pins H b) → tn i s.heap → J.go i H →
    wpAny (model P w) X.A (pyNext (.ref it)) (fun r s1 => ∃ u, r = some u ∧
      wpAny (model P w) X.A (letOwnedTupleGo tg (.ref it) u) (fun _ s2 => ∃ x H', Inv X pins σ H' s2 ∧ RelV x u ∧ J.yld i H x H' ∧ tn (i + 1) s2.heap ∧ ∀ b ∈ fp, H' b = none) E s1) E s
  done : ∀ (X : Cx), X.prog = P → X.w = w → X.K = K → X.calm = true → ∀ (i : Nat) (pins : List (Addr × Obj)) (s : Shared) (σ : St) (H : Hp) (E : Value → Shared → Prop), Inv X pins σ H s → (∀ b ∈ fp, FpOk X pins H b) → tn i s.heap → J.stop i H →
    wpAny (model P w) X.A (pyNext (.ref it)) (fun r s1 => r = none ∧ Inv X pins σ H s1) E s
  self : ∀ (A : Around) (i : Nat) (s : Shared) (Q : Value → Shared → Prop) (E : Value → Shared → Prop), tn i s.heap → Q (.ref it) s → wpAny (model P w) A (pyIter (.ref it)) Q E s
abbrev TI := St → Hp → (It → Hp → Prop) → Prop
def PIE (X : Cx) (pins : List (Addr × Obj)) (σ : St) (tg : Expr) (R : It → Hp → Prop) (itv : Value) (s2 : Shared) : Prop :=
  ∃ (it : Addr) (fp : List Addr) (tn : Nat → Heap → Prop) (J : It) (H' : Hp), itv = .ref it ∧ Inv X pins σ H' s2 ∧ Turn X.prog X.w X.K tg J fp it tn ∧ tn 0 s2.heap ∧ (∀ b ∈ fp, FpOk X pins H' b) ∧ R J H'
def PI (X : Cx) (tg iter : Expr) (wi : TI) : Prop :=
  ∀ (pins : List (Addr × Obj)) (s : Shared) (σ : St) (H : Hp) (R : It → Hp → Prop), Inv X pins σ H s → wi σ H R →
    wpAny (model X.prog X.w) X.A (eval iter X.env) (fun v s1 => wpAny (model X.prog X.w) X.A (pyIter v) (PIE X pins σ tg R) X.xe s1) X.xe s
theorem go_of {M : Model} {A : Around} {E : Value → Shared → Prop} {s : Shared} {tg : Expr} {it : Addr} {u : Value} {o : Obj} {n : String} {vs : Array Value} {Q : Unit → Shared → Prop} (ho : s.heap.get? it = some o) (hc : o.cls = .type n) (hd : o.data = .fields vs)
    (hn : ["enumerate", "zip", "dict_itemiterator", "dict_reverseitemiterator", "odict_iterator", "itertools.zip_longest", "itertools.pairwise"].contains n = false) (hQ : Q () s) : wpAny M A (letOwnedTupleGo tg (.ref it) u) Q E s := by
  unfold letOwnedTupleGo
  cases tg <;> first
    | exact wpAny_pure hQ
    | (cases u <;> first
        | exact wpAny_pure hQ
        | (refine wpAny_bind (wpAny_load ho ?_)
           rw [hc, hd]
           show wpAny M A (if (["enumerate", "zip", "dict_itemiterator", "dict_reverseitemiterator", "odict_iterator", "itertools.zip_longest", "itertools.pairwise"].contains n && vs[0]? == some (rawInt _)) = true then _ else _) Q E s
           rw [if_neg (by intro h; rw [hn, Bool.false_and] at h; cases h)]
           exact wpAny_pure hQ))
def Itl (K : PySem.W.Frag) (a : Addr) : It :=
  ⟨fun i H => ∃ xs x, SqL K H a xs ∧ xs[i]? = some x, fun i H x H' => H' = H ∧ ∀ xs, SqL K H a xs → xs[i]? = some x, fun i H => ∃ xs, SqL K H a xs ∧ xs.length ≤ i⟩
def Itt (K : PySem.W.Frag) (a : Addr) : It :=
  ⟨fun i H => ∃ xs x, SqT K H a xs ∧ xs[i]? = some x, fun i H x H' => H' = H ∧ ∀ xs, SqT K H a xs → xs[i]? = some x, fun i H => ∃ xs, SqT K H a xs ∧ xs.length ≤ i⟩
def Itr (lo : Int) (n : Nat) : It := ⟨fun i _ => i < n, fun i H x H' => H' = H ∧ x = .int (lo + i), fun i _ => n ≤ i⟩
theorem turn_list {P : Program} {w : World} {K : PySem.W.Frag} {tg : Expr} (a it : Addr) : Turn P w K tg (Itl K a) [it] it (fun i h => h.IsListIter it a i) where
  mem := by simp
  obj := fun i h st b hb => by
    have e : b = it := by simpa using hb
    subst e
    obtain ⟨o, e, c, d⟩ := st
    exact ⟨o, e, fun v z => by rw [d] at z; cases z⟩
  keep := fun i h h' st k => st.at fun o e => k it (by simp) o e
  item := by
    intro X hP hw hK hc i pins s σ H E I hf st hg
    subst hP hw hK
    obtain ⟨xs, x, hq, hx⟩ := hg
    obtain ⟨its, rv, p, hz⟩ := I.list hq
    obtain ⟨u, hu, ru⟩ := rv.get hx
    obtain ⟨f0, f1, f2, f3, f4, f5⟩ := hf it (by simp)
    refine wpAny_pyNext_list_item st p.isList (x := u) (by simpa using hu) fun h' st' sb => ?_
    have I1 : Inv X pins σ H { s with heap := h' } := I.turned (t' := s.toks) (fun b o hb e => (sb.2 b hb).trans e) f0 f1 f3 f4 f5
    obtain ⟨o, e, c, d⟩ := id st'
    exact ⟨u, rfl, go_of (s := { s with heap := h' }) e c d (by decide) ⟨x, H, I1, ru, ⟨rfl, fun ys hy => by rw [I.list_inj hy hq]; exact hx⟩, st', fun b hb => (hf b hb).1⟩⟩
  done := by
    intro X hP hw hK hc i pins s σ H E I hf st hg
    subst hP hw hK
    obtain ⟨xs, hq, hx⟩ := hg
    obtain ⟨its, rv, p, hz⟩ := I.list hq
    obtain ⟨f0, f1, f2, f3, f4, f5⟩ := hf it (by simp)
    have hl := rv.length
    exact wpAny_pyNext_list_end (I.ok.hd hc) st p.isList (by simp; omega) fun h' eb => ⟨rfl, I.turned (t' := s.toks) (fun b o hb e => eb b o hb e) f0 f1 f3 f4 f5⟩
  self := fun _ _ _ _ _ st h => wpAny_pyIter_listiter st h
theorem turn_tuple {P : Program} {w : World} {K : PySem.W.Frag} {tg : Expr} (a it : Addr) : Turn P w K tg (Itt K a) [it] it (fun i h => h.IsTupleIter it a i) where
  mem := by simp
  obj := fun i h st b hb => by
    have e : b = it := by simpa using hb
    subst e
    obtain ⟨o, e, c, d⟩ := st
    exact ⟨o, e, fun v z => by rw [d] at z; cases z⟩
  keep := fun i h h' st k => st.at fun o e => k it (by simp) o e
  item := by
    intro X hP hw hK hc i pins s σ H E I hf st hg
    subst hP hw hK
    obtain ⟨xs, x, hq, hx⟩ := hg
    obtain ⟨its, rv, p, hz⟩ := I.tuple hq
    obtain ⟨u, hu, ru⟩ := rv.get hx
    obtain ⟨f0, f1, f2, f3, f4, f5⟩ := hf it (by simp)
    refine wpAny_pyNext_tuple_item st (show s.heap.IsTuple a its.toArray from p) (x := u) (by simpa using hu) fun h' st' sb => ?_
    have I1 : Inv X pins σ H { s with heap := h' } := I.turned (t' := s.toks) (fun b o hb e => (sb.2 b hb).trans e) f0 f1 f3 f4 f5
    obtain ⟨o, e, c, d⟩ := id st'
    exact ⟨u, rfl, go_of (s := { s with heap := h' }) e c d (by decide) ⟨x, H, I1, ru, ⟨rfl, fun ys hy => by rw [I.tuple_inj hy hq]; exact hx⟩, st', fun b hb => (hf b hb).1⟩⟩
  done := by
    intro X hP hw hK hc i pins s σ H E I hf st hg
    subst hP hw hK
    obtain ⟨xs, hq, hx⟩ := hg
    obtain ⟨its, rv, p, hz⟩ := I.tuple hq
    obtain ⟨f0, f1, f2, f3, f4, f5⟩ := hf it (by simp)
    have hl := rv.length
    exact wpAny_pyNext_tuple_end (I.ok.hd hc) st (show s.heap.IsTuple a its.toArray from p) (by simp; omega) fun h' eb => ⟨rfl, I.turned (t' := s.toks) (fun b o hb e => eb b o hb e) f0 f1 f3 f4 f5⟩
  self := fun _ _ _ _ _ st h => wpAny_pyIter_tupleiter st h
theorem turn_range {P : Program} {w : World} {K : PySem.W.Frag} {tg : Expr} (it : Addr) (lo : Int) (n : Nat) : Turn P w K tg (Itr lo n) [it] it (fun i h => IsRangeIter h it (lo + (i : Nat) * 1) ((n : Int) - (i : Nat)) 1) where
  mem := by simp
  obj := fun i h st b hb => by
    have e : b = it := by simpa using hb
    subst e
    exact ⟨_, st, fun v z => by
      have z' : Data.fields _ = Data.cell v := z
      cases z'⟩
  keep := fun i h h' st k => k it (by simp) _ st
  item := by
    intro X hP hw hK hc i pins s σ H E I hf st hg
    subst hP hw hK
    obtain ⟨f0, f1, f2, f3, f4, f5⟩ := hf it (by simp)
    have W := Walks.range (prog := X.prog) (w := X.w) (I.ok.hd hc) it lo 1 n
    refine W.item i s _ _ hg st fun v h' tk hv st' kk => ?_
    obtain ⟨t, rfl⟩ := hv
    have I1 : Inv X pins σ H { s with heap := h', toks := tk } := I.turned (fun b o hb e => kk b o (by simpa using hb) e) f0 f1 f3 f4 f5
    refine ⟨_, rfl, go_of (s := { s with heap := h', toks := tk }) (n := "range_iterator") st' rfl rfl (by decide) ⟨.int (lo + i), H, I1, ⟨t, ?_⟩, ⟨rfl, rfl⟩, st', fun b hb => (hf b hb).1⟩⟩
    rw [Int.mul_one]
  done := by
    intro X hP hw hK hc i pins s σ H E I hf st hg
    subst hP hw hK
    obtain ⟨f0, f1, f2, f3, f4, f5⟩ := hf it (by simp)
    exact wpAny_pyNext_range_end (I.ok.hd hc) st (by have : n ≤ i := hg; omega) fun h' eb => ⟨rfl, I.turned (t' := s.toks) (fun b o hb e => eb b o hb e) f0 f1 f3 f4 f5⟩
  self := fun _ _ _ _ _ st h => wpAny_pyIter_rangeiter st h
end L2
namespace L2
open PySem PySem.Spec PyProof.Rows
section
variable {X : Cx} {tg : Expr}
def iList (K : PySem.W.Frag) (tl : TE) : TI := fun σ H R => tl σ H fun x H1 => ∃ a, x = .ref a ∧ (∃ xs, SqL K H1 a xs) ∧ R (Itl K a) H1
def iTup (K : PySem.W.Frag) (tl : TE) : TI := fun σ H R => tl σ H fun x H1 => ∃ a, x = .ref a ∧ (∃ xs, SqT K H1 a xs) ∧ R (Itt K a) H1
theorem pi_list {l : Expr} {tl : TE} (hl : PE X l tl) : PI X tg l (iList X.K tl) := by
  intro pins s σ H R I h
  refine thn (hl pins s σ H _ I h) fun v s1 ⟨x, H1, I1, r1, q1⟩ => ?_
  obtain ⟨a, e, ⟨xs, hq⟩, q⟩ := q1
  subst e
  cases r1
  obtain ⟨its, rv, p, hz⟩ := I1.list hq
  refine wpAny_pyIter_list p.isList ?_
  refine ⟨s1.heap.objs.size, [s1.heap.objs.size], _, _, H1, rfl, I1.kept (t' := s1.toks) fun b o e => Heap.get?_push_of_some _ e, turn_list a _, ⟨_, Heap.get?_push_size _ rfl, rfl, rfl⟩, fun b hb => ?_, q⟩
  have e : b = s1.heap.objs.size := by simpa using hb
  subst e
  exact I1.fpOk (Nat.le_refl _) (I1.hok.fresh (Nat.le_refl _))
theorem pi_tup {l : Expr} {tl : TE} (hl : PE X l tl) : PI X tg l (iTup X.K tl) := by
  intro pins s σ H R I h
  refine thn (hl pins s σ H _ I h) fun v s1 ⟨x, H1, I1, r1, q1⟩ => ?_
  obtain ⟨a, e, ⟨xs, hq⟩, q⟩ := q1
  subst e
  cases r1
  obtain ⟨its, rv, p, hz⟩ := I1.tuple hq
  refine wpAny_pyIter_tuple (show s1.heap.IsTuple a its.toArray from p) ?_
  refine ⟨s1.heap.objs.size, [s1.heap.objs.size], _, _, H1, rfl, I1.kept (t' := s1.toks) fun b o e => Heap.get?_push_of_some _ e, turn_tuple a _, ⟨_, Heap.get?_push_size _ rfl, rfl, rfl⟩, fun b hb => ?_, q⟩
  have e : b = s1.heap.objs.size := by simpa using hb
  subst e
  exact I1.fpOk (Nat.le_refl _) (I1.hok.fresh (Nat.le_refl _))
theorem range_it {pins : List (Addr × Obj)} {σ : St} {H : Hp} {s : Shared} {R : It → Hp → Prop} {E : Value → Shared → Prop} {lo hi : Int} {t u v : Tok} {tk : Nat} (I : Inv X pins σ H s) (h1 : -(2 ^ 62) ≤ lo) (h2 : lo < 2 ^ 62) (h3 : -(2 ^ 62) ≤ hi) (h4 : hi < 2 ^ 62)
    (q : R (Itr lo (hi - lo).toNat) H) : wpAny (model X.prog X.w) X.A (pyIter (.ref s.heap.objs.size)) (PIE X pins σ tg R) E { s with heap := s.heap.push { cls := .type "range", data := .fields #[.int lo t, .int hi u, .int 1 v] }, toks := tk } := by
  refine wpAny_pyIter_range (IsRange.new ..) (small_one h1 h2 h3 h4) ?_
  have I1 : Inv X pins σ H { s with heap := s.heap.push { cls := .type "range", data := .fields #[.int lo t, .int hi u, .int 1 v] }, toks := tk } := I.kept fun b o e => Heap.get?_push_of_some _ e
  refine ⟨(s.heap.push { cls := .type "range", data := .fields #[.int lo t, .int hi u, .int 1 v] }).objs.size, [(s.heap.push { cls := .type "range", data := .fields #[.int lo t, .int hi u, .int 1 v] }).objs.size], _, _, H, rfl,
    I1.kept (t' := tk) fun b o e => Heap.get?_push_of_some _ e, turn_range _ lo (hi - lo).toNat, ?_, fun b hb => ?_, q⟩
  · have e1 : lo + ((0 : Nat) : Int) * 1 = lo := by simp
    have e2 : (((hi - lo).toNat : Nat) : Int) - ((0 : Nat) : Int) = Builtin.Range.rangeSize lo hi 1 := by rw [rangeSize_one]; split <;> omega
    show IsRangeIter _ _ (lo + ((0 : Nat) : Int) * 1) ((((hi - lo).toNat : Nat) : Int) - ((0 : Nat) : Int)) 1
    rw [e1, e2]
    exact Heap.get?_push_size _ rfl
  · have e : b = (s.heap.push { cls := .type "range", data := .fields #[.int lo t, .int hi u, .int 1 v] }).objs.size := by simpa using hb
    subst e
    exact I1.fpOk (Nat.le_refl _) (I1.hok.fresh (Nat.le_refl _))
def iRng1 (ta : TA) : TI := fun σ H R => ta σ H fun vs H1 => ∃ j : Int, vs = [.int j] ∧ -(2 ^ 62) ≤ j ∧ j < 2 ^ 62 ∧ R (Itr 0 j.toNat) H1
def iRng2 (ta : TA) : TI := fun σ H R => ta σ H fun vs H1 => ∃ i j : Int, vs = [.int i, .int j] ∧ (-(2 ^ 62) ≤ i ∧ i < 2 ^ 62 ∧ -(2 ^ 62) ≤ j ∧ j < 2 ^ 62) ∧ R (Itr i (j - i).toNat) H1
theorem pi_range1 {a : Expr} {ta : TA} {p pos : Pos} (hg : Gl X "range") (hm : X.mg "range" = none) (ha : PA X [a] ta) (hs : starEach [a] X.env = [(false, eval a X.env)] := by rfl) : PI X tg (.Call (.Name "range" p) [a] [] pos) (iRng1 ta) := by
  intro pins s σ H R I h
  refine Call_ (ld_blt I hg hm boot_range (PyProof.Rows.callWith_type1 (thn (ha pos pins s σ H _ I h) fun us s1 ⟨vs, H1, I1, r1, q1⟩ => ?_) hs rfl))
  obtain ⟨j, e, q1, q2, q⟩ := q1
  subst e
  cases r1 with
  | cons r rr =>
    cases rr
    obtain ⟨t, rfl⟩ := r
    exact call_range_1 (range_it I1 (by omega) (by omega) q1 q2 (by simpa using q))
def tFor (wi : TI) (g : TG) (tb : TS) : TS := fun D σ H => wi σ H fun J H1 => ∃ W : Nat → Nat → St → Hp → Prop, (∃ m, W 0 m σ H1) ∧ ∀ i m σ H, W i m σ H →
  (J.stop i H ∧ D.nx σ H) ∨ (J.go i H ∧ ∃ N : St → Hp → Prop, (∀ σ' H', N σ' H' → ∃ m', m' < m ∧ W (i + 1) m' σ' H') ∧ ∀ x H', J.yld i H x H' → g x σ H' fun σ2 H2 => tb { D with nx := N, ct := N, bk := D.nx } σ2 H2)
def pinsAt (fp : List Addr) (h : Heap) : List (Addr × Obj) := fp.filterMap fun b => (h.get? b).map fun o => (b, o)
theorem mem_pinsAt {fp : List Addr} {h : Heap} {b : Addr} {o : Obj} (hb : b ∈ fp) (e : h.get? b = some o) : (b, o) ∈ pinsAt fp h := List.mem_filterMap.mpr ⟨b, hb, by rw [e]; rfl⟩
theorem of_pinsAt {fp : List Addr} {h : Heap} {p : Addr × Obj} (hp : p ∈ pinsAt fp h) : p.1 ∈ fp ∧ h.get? p.1 = some p.2 := by
  obtain ⟨b, hb, e⟩ := List.mem_filterMap.mp hp
  cases q : h.get? b with
  | none => rw [q] at e; cases e
  | some o =>
    rw [q] at e
    have e' : (b, o) = p := Option.some.inj e
    subst e'
    exact ⟨hb, q⟩
theorem Inv.pinned {pins : List (Addr × Obj)} {σ : St} {H : Hp} {s : Shared} {fp : List Addr} (I : Inv X pins σ H s) (hf : ∀ b ∈ fp, FpOk X pins H b) (ho : ∀ b ∈ fp, ∃ o, s.heap.get? b = some o ∧ ∀ v, o.data ≠ .cell v) : Inv X (pins ++ pinsAt fp s.heap) σ H s :=
  I.pins_of fun p hp => (List.mem_append.mp hp).elim (fun z => I.pin p (List.mem_append_right _ z)) fun z => by
    obtain ⟨hb, e⟩ := of_pinsAt z
    obtain ⟨f0, f1, f2, _⟩ := hf p.1 hb
    obtain ⟨o, e', d⟩ := ho p.1 hb
    rw [e] at e'; cases e'
    exact ⟨e, f0, f1, f2, d⟩
theorem Inv.unpinned {pins pl : List (Addr × Obj)} {σ : St} {H : Hp} {s : Shared} (I : Inv X (pins ++ pl) σ H s) : Inv X pins σ H s := I.pins_of fun p hp => I.pin p (List.mem_append_right _ (List.mem_append_left _ hp))
theorem ps_for {iter : Expr} {body : List Stmt} {wi : TI} {g : TG} {tb : TS} {pos : Pos} (hp : PassesOwn (model X.prog X.w) X.A X.env X.xe) (hc : X.calm = true) (hi : PI X tg iter wi) (hg : PG X tg g) (hb : PSs X body tb)
    (hs : ∀ x, foldedSetIterable iter X.env x = pure x := by intro _; rfl) : PS X (.For tg iter body [] pos) (tFor wi g tb) := by
  intro pins s σ H D I h
  refine wpAny_For (thn (hi pins s σ H _ I h) fun v s1 h1 => thn h1 fun itv s2 h2 => ?_) hs
  obtain ⟨it, fp, tn, J, H2, e, I2, T, st2, f2, W, ⟨m0, w0⟩, turn⟩ := h2
  subst e
  have stat : ∀ {H' : Hp}, (∀ b ∈ fp, H' b = none) → ∀ b ∈ fp, FpOk X pins H' b := fun hn b hb => ⟨hn b hb, (f2 b hb).2⟩
  refine codeAny_forLoop_any (fun n s' => ∃ i σ' H', Inv X pins σ' H' s' ∧ tn i s'.heap ∧ (∀ b ∈ fp, H' b = none) ∧ W i n σ' H') ?_ m0 ⟨0, σ, H2, I2, st2, fun b hb => (f2 b hb).1, w0⟩
  rintro n s3 ⟨i, σ3, H3, I3, st3, fr3, w3⟩
  rcases turn i n σ3 H3 w3 with ⟨stop, qn⟩ | ⟨go, N, hN, step⟩
  · refine wpAny_passesOwn hp (thn (T.done X rfl rfl rfl hc i pins s3 σ3 H3 X.xe I3 (stat fr3) st3 stop) fun r s4 ⟨hr, I4⟩ => ?_)
    subst hr
    exact wpAny_execs_nil ⟨σ3, H3, I4, qn⟩
  · refine wpAny_passesOwn hp (thn (T.item X rfl rfl rfl hc i pins s3 σ3 H3 X.xe I3 (stat fr3) st3 go) fun r s4 ⟨u, hr, h4⟩ => ?_)
    subst hr
    refine wpAny_passesOwn hp (thn h4 fun _ s5 ⟨x, H5, I5, r5, y5, st5, fr5⟩ => ?_)
    have I5' := I5.pinned (stat fr5) (T.obj _ _ st5)
    refine wpAny_passesOwn hp (thn (hg _ s5 σ3 H5 x u _ I5' r5 (step x H5 y5)) fun _ s6 ⟨σ6, H6, I6, q6⟩ => ?_)
    refine wpAny_passesOwn hp (thn (hb _ s6 σ6 H6 _ I6 q6) fun f s7 q7 => ?_)
    have again : ∀ {σ7 : St} {H7 : Hp}, Inv X (pins ++ pinsAt fp s5.heap) σ7 H7 s7 → N σ7 H7 → ∃ m, m < n ∧ ∃ i σ' H', Inv X pins σ' H' s7 ∧ tn i s7.heap ∧ (∀ b ∈ fp, H' b = none) ∧ W i m σ' H' := fun {σ7 H7} I7 n7 => by
      obtain ⟨m', hm, w7⟩ := hN σ7 H7 n7
      refine ⟨m', hm, i + 1, σ7, H7, I7.unpinned, T.keep _ _ _ st5 fun b hb o e => (I7.pin (b, o) (List.mem_append_right _ (List.mem_append_right _ (mem_pinsAt hb e)))).1, fun b hb => ?_, w7⟩
      obtain ⟨o, e, d⟩ := T.obj _ _ st5 b hb
      exact (I7.pin (b, o) (List.mem_append_right _ (List.mem_append_right _ (mem_pinsAt hb e)))).2.1
    cases f with
    | next => obtain ⟨σ7, H7, I7, n7⟩ := q7; exact again I7 n7
    | cont => obtain ⟨σ7, H7, I7, n7⟩ := q7; exact again I7 n7
    | brk => obtain ⟨σ7, H7, I7, q7⟩ := q7; exact ⟨σ7, H7, I7.unpinned, q7⟩
    | ret v => obtain ⟨x7, σ7, H7, I7, r7, q7⟩ := q7; exact ⟨x7, σ7, H7, I7.unpinned, r7, q7⟩
end
theorem for_list {K : PySem.W.Frag} {a : Addr} {xs : List V} {g : TG} {tb : TS} {D : Ends} {σ : St} {H : Hp} (Pv : Nat → St → Hp → Prop) (h0 : Pv 0 σ H) (hl : ∀ i σ H, i ≤ xs.length → Pv i σ H → SqL K H a xs)
    (hs : ∀ i x σ H, xs[i]? = some x → Pv i σ H → g x σ H fun σ2 H2 => tb { D with nx := Pv (i + 1), ct := Pv (i + 1), bk := D.nx } σ2 H2) (hd : ∀ σ H, Pv xs.length σ H → D.nx σ H) :
    ∃ W : Nat → Nat → St → Hp → Prop, (∃ m, W 0 m σ H) ∧ ∀ i m σ H, W i m σ H →
      ((Itl K a).stop i H ∧ D.nx σ H) ∨ ((Itl K a).go i H ∧ ∃ N : St → Hp → Prop, (∀ σ' H', N σ' H' → ∃ m', m' < m ∧ W (i + 1) m' σ' H') ∧ ∀ x H', (Itl K a).yld i H x H' → g x σ H' fun σ2 H2 => tb { D with nx := N, ct := N, bk := D.nx } σ2 H2) := by
  refine ⟨fun i m σ H => m = xs.length - i ∧ i ≤ xs.length ∧ Pv i σ H, ⟨xs.length, by simp, Nat.zero_le _, h0⟩, ?_⟩
  rintro i m σ H ⟨rfl, hi, p⟩
  have q := hl i σ H hi p
  by_cases hlt : i < xs.length
  · refine .inr ⟨⟨xs, xs[i], q, by simp [hlt]⟩, Pv (i + 1), fun σ' H' p' => ⟨xs.length - (i + 1), by omega, rfl, hlt, p'⟩, fun x H' y => ?_⟩
    obtain ⟨e, y⟩ := y
    subst e
    exact hs i x σ _ (y xs q) p
  · have e : i = xs.length := by omega
    subst e
    exact .inl ⟨⟨xs, q, Nat.le_refl _⟩, hd σ H p⟩
theorem for_tup {K : PySem.W.Frag} {a : Addr} {xs : List V} {g : TG} {tb : TS} {D : Ends} {σ : St} {H : Hp} (Pv : Nat → St → Hp → Prop) (h0 : Pv 0 σ H) (hl : ∀ i σ H, i ≤ xs.length → Pv i σ H → SqT K H a xs)
    (hs : ∀ i x σ H, xs[i]? = some x → Pv i σ H → g x σ H fun σ2 H2 => tb { D with nx := Pv (i + 1), ct := Pv (i + 1), bk := D.nx } σ2 H2) (hd : ∀ σ H, Pv xs.length σ H → D.nx σ H) :
    ∃ W : Nat → Nat → St → Hp → Prop, (∃ m, W 0 m σ H) ∧ ∀ i m σ H, W i m σ H →
      ((Itt K a).stop i H ∧ D.nx σ H) ∨ ((Itt K a).go i H ∧ ∃ N : St → Hp → Prop, (∀ σ' H', N σ' H' → ∃ m', m' < m ∧ W (i + 1) m' σ' H') ∧ ∀ x H', (Itt K a).yld i H x H' → g x σ H' fun σ2 H2 => tb { D with nx := N, ct := N, bk := D.nx } σ2 H2) := by
  refine ⟨fun i m σ H => m = xs.length - i ∧ i ≤ xs.length ∧ Pv i σ H, ⟨xs.length, by simp, Nat.zero_le _, h0⟩, ?_⟩
  rintro i m σ H ⟨rfl, hi, p⟩
  have q := hl i σ H hi p
  by_cases hlt : i < xs.length
  · refine .inr ⟨⟨xs, xs[i], q, by simp [hlt]⟩, Pv (i + 1), fun σ' H' p' => ⟨xs.length - (i + 1), by omega, rfl, hlt, p'⟩, fun x H' y => ?_⟩
    obtain ⟨e, y⟩ := y
    subst e
    exact hs i x σ _ (y xs q) p
  · have e : i = xs.length := by omega
    subst e
    exact .inl ⟨⟨xs, q, Nat.le_refl _⟩, hd σ H p⟩
theorem for_range {lo : Int} {n : Nat} {g : TG} {tb : TS} {D : Ends} {σ : St} {H : Hp} (Pv : Nat → St → Hp → Prop) (h0 : Pv 0 σ H)
    (hs : ∀ i σ H, i < n → Pv i σ H → g (.int (lo + i)) σ H fun σ2 H2 => tb { D with nx := Pv (i + 1), ct := Pv (i + 1), bk := D.nx } σ2 H2) (hd : ∀ σ H, Pv n σ H → D.nx σ H) :
    ∃ W : Nat → Nat → St → Hp → Prop, (∃ m, W 0 m σ H) ∧ ∀ i m σ H, W i m σ H →
      ((Itr lo n).stop i H ∧ D.nx σ H) ∨ ((Itr lo n).go i H ∧ ∃ N : St → Hp → Prop, (∀ σ' H', N σ' H' → ∃ m', m' < m ∧ W (i + 1) m' σ' H') ∧ ∀ x H', (Itr lo n).yld i H x H' → g x σ H' fun σ2 H2 => tb { D with nx := N, ct := N, bk := D.nx } σ2 H2) := by
  refine ⟨fun i m σ H => m = n - i ∧ i ≤ n ∧ Pv i σ H, ⟨n, by simp, Nat.zero_le _, h0⟩, ?_⟩
  rintro i m σ H ⟨rfl, hi, p⟩
  by_cases hlt : i < n
  · refine .inr ⟨hlt, Pv (i + 1), fun σ' H' p' => ⟨n - (i + 1), by omega, rfl, hlt, p'⟩, fun x H' y => ?_⟩
    obtain ⟨e, y⟩ := y
    subst e y
    exact hs i σ _ hlt p
  · have e : i = n := by omega
    subst e
    exact .inl ⟨Nat.le_refl _, hd σ H p⟩
end L2
namespace L2
open PySem PySem.Spec PyProof.Rows
abbrev R2 := V → V → Hp → VK → Prop
def OpR (X : Cx) (f : Value → Value → Sem Value) (r : R2) : Prop :=
  ∀ (pins : List (Addr × Obj)) (s : Shared) (σ : St) (H : Hp) (x y : V) (v u : Value) (Q : VK), Inv X pins σ H s → RelV x v → RelV y u → r x y H Q →
    wpAny (model X.prog X.w) X.A (f v u) (EP X pins σ Q) X.xe s
def UnR (X : Cx) (f : Value → Sem Value) (r : V → Hp → VK → Prop) : Prop :=
  ∀ (pins : List (Addr × Obj)) (s : Shared) (σ : St) (H : Hp) (x : V) (v : Value) (Q : VK), Inv X pins σ H s → RelV x v → r x H Q →
    wpAny (model X.prog X.w) X.A (f v) (EP X pins σ Q) X.xe s
def CallR (X : Cx) (f : Value) (r : List V → Hp → VK → Prop) : Prop :=
  ∀ (pins : List (Addr × Obj)) (s : Shared) (σ : St) (H : Hp) (xs : List V) (us : List Value) (Q : VK), Inv X pins σ H s → Vals xs us → r xs H Q →
    wpAny (model X.prog X.w) X.A (call f us) (EP X pins σ Q) X.xe s
def TruR (X : Cx) (r : V → Hp → (Bool → Hp → Prop) → Prop) : Prop :=
  ∀ (pins : List (Addr × Obj)) (s : Shared) (σ : St) (H : Hp) (x : V) (v : Value) (Q : Bool → Hp → Prop), Inv X pins σ H s → RelV x v → r x H Q →
    wpAny (model X.prog X.w) X.A (truthy v) (TP X pins σ Q) X.xe s
def tOp (r : R2) (ta tb : TE) : TE := fun σ H Q => ta σ H fun x H1 => tb σ H1 fun y H2 => r x y H2 Q
def tUn (r : V → Hp → VK → Prop) (ta : TE) : TE := fun σ H Q => ta σ H fun x H1 => r x H1 Q
def rI (C : Int → Int → Prop) (g : Int → Int → V) : R2 := fun x y H Q => ∃ i j, x = .int i ∧ y = .int j ∧ C i j ∧ Q (g i j) H
def rI0 (g : Int → Int → V) : R2 := fun x y H Q => ∃ i j, x = .int i ∧ y = .int j ∧ Q (g i j) H
def rU (g : Int → V) : V → Hp → VK → Prop := fun x H Q => ∃ i, x = .int i ∧ Q (g i) H
section
variable {X : Cx} {a b c : Expr} {ta tb tc : TE} {pos : Pos}
theorem binT (ha : PE X a ta) (hb : PE X b tb) {pins : List (Addr × Obj)} {s : Shared} {σ : St} {H : Hp} {R : V → V → Hp → Prop} (I : Inv X pins σ H s)
    (h : ta σ H fun x H1 => tb σ H1 fun y H2 => R x y H2) {Q : Value → Shared → Prop} {f : Value → Value → Sem Value}
    (hf : ∀ v u s2 x y H2, Inv X pins σ H2 s2 → RelV x v → RelV y u → R x y H2 → wpAny (model X.prog X.w) X.A (f v u) Q X.xe s2) :
    wpAny (model X.prog X.w) X.A (eval a X.env) (fun v s₁ => wpAny (model X.prog X.w) X.A (eval b X.env) (fun u s₂ => wpAny (model X.prog X.w) X.A (f v u) Q X.xe s₂) X.xe s₁) X.xe s := by
  refine thn (ha pins s σ H _ I h) fun v s1 ⟨x, H1, I1, r1, q1⟩ => ?_
  refine thn (hb pins s1 σ H1 _ I1 q1) fun u s2 ⟨y, H2, I2, r2, q2⟩ => ?_
  exact hf v u s2 x y H2 I2 r1 r2 q2
theorem pe_op {op : Operator} {r : R2} (ho : OpR X (binaryOp op) r) (ha : PE X a ta) (hb : PE X b tb) : PE X (.BinOp a op b pos) (tOp r ta tb) := by
  intro pins s σ H Q I h
  exact wpAny_BinOp (binT ha hb I h fun v u s2 x y H2 I2 rx ry q => ho pins s2 σ H2 x y v u Q I2 rx ry q)
theorem pe_un {op : UnaryOp} {r : V → Hp → VK → Prop} (ho : UnR X (unaryOp op) r) (ha : PE X a ta) : PE X (.UnaryOp op a pos) (tUn r ta) := by
  intro pins s σ H Q I h
  exact UnaryOp_ (thn (ha pins s σ H _ I h) fun v s1 ⟨x, H1, I1, r1, q1⟩ => ho pins s1 σ H1 x v Q I1 r1 q1)
theorem opI {f : Value → Value → Sem Value} {C : Int → Int → Prop} {g : Int → Int → Int}
    (rule : ∀ (i j : Int) (t u : Tok) (s : Shared) (Q : Value → Shared → Prop) (E : Value → Shared → Prop), C i j → Q (.int (g i j) s.toks) { s with toks := s.toks + 1 } → wpAny (model X.prog X.w) X.A (f (.int i t) (.int j u)) Q E s) :
    OpR X f (rI C fun i j => .int (g i j)) := by
  intro pins s σ H x y v u Q I rx ry h
  obtain ⟨i, j, rfl, rfl, hc, q⟩ := h
  obtain ⟨t, rfl⟩ := rx
  obtain ⟨t', rfl⟩ := ry
  exact rule i j t t' s _ _ hc ⟨.int (g i j), H, I.tok _, ⟨_, rfl⟩, q⟩
theorem opI0 {f : Value → Value → Sem Value} {g : Int → Int → Int}
    (rule : ∀ (i j : Int) (t u : Tok) (s : Shared) (Q : Value → Shared → Prop) (E : Value → Shared → Prop), Q (.int (g i j) s.toks) { s with toks := s.toks + 1 } → wpAny (model X.prog X.w) X.A (f (.int i t) (.int j u)) Q E s) :
    OpR X f (rI0 fun i j => .int (g i j)) := by
  intro pins s σ H x y v u Q I rx ry h
  obtain ⟨i, j, rfl, rfl, q⟩ := h
  obtain ⟨t, rfl⟩ := rx
  obtain ⟨t', rfl⟩ := ry
  exact rule i j t t' s _ _ ⟨.int (g i j), H, I.tok _, ⟨_, rfl⟩, q⟩
theorem opB0 {f : Value → Value → Sem Value} {g : Int → Int → Bool}
    (rule : ∀ (i j : Int) (t u : Tok) (s : Shared) (Q : Value → Shared → Prop) (E : Value → Shared → Prop), Q (.bool (g i j)) s → wpAny (model X.prog X.w) X.A (f (.int i t) (.int j u)) Q E s) :
    OpR X f (rI0 fun i j => .bl (g i j)) := by
  intro pins s σ H x y v u Q I rx ry h
  obtain ⟨i, j, rfl, rfl, q⟩ := h
  obtain ⟨t, rfl⟩ := rx
  obtain ⟨t', rfl⟩ := ry
  exact rule i j t t' s _ _ ⟨.bl (g i j), H, I, rfl, q⟩
def CDiv (i j : Int) : Prop := 0 < j ∧ j < 1073741824
def CDivN (i j : Int) : Prop := j ≠ 0 ∧ j.natAbs < 1073741824
def CPow (i j : Int) : Prop := 0 ≤ j ∧ j ≤ 1000000 ∧ i.natAbs < 2 ^ 64
def CMul (i j : Int) : Prop := (-(2 ^ 64) < i ∧ i < 2 ^ 64) ∨ (-(2 ^ 64) < j ∧ j < 2 ^ 64)
theorem CMul.ok {i j : Int} (h : CMul i j) : IntMulOk i j := by
  rcases h with ⟨h1, h2⟩ | ⟨h1, h2⟩
  · exact .of_left (intBits_le_64 h1 h2)
  · exact .of_right (intBits_le_64 h1 h2)
theorem op_add : OpR X (binaryOp .Add) (rI0 fun i j => .int (i + j)) := opI0 fun _ _ _ _ _ _ _ q => add_int q
theorem op_sub : OpR X (binaryOp .Sub) (rI0 fun i j => .int (i - j)) := opI0 fun _ _ _ _ _ _ _ q => sub_int q
theorem op_mul : OpR X (binaryOp .Mult) (rI CMul fun i j => .int (i * j)) := opI fun _ _ _ _ _ _ _ hc q => mul_int q hc.ok
theorem op_mod : OpR X (binaryOp .Mod) (rI (fun _ j => 0 < j) fun i j => .int (i % j)) := opI fun i j _ _ _ _ _ hc q => by
  have h1 : (0 : Int) < j := hc
  exact mod_int' (by omega) (by rw [Int.fmod_eq_emod_of_nonneg i (by omega)]; exact q)
theorem op_shl : OpR X (binaryOp .LShift) (rI CPow fun i j => .int (i * 2 ^ j.toNat)) := opI fun _ _ _ _ _ _ _ hc q => lshift_int_small hc.1 hc.2.1 hc.2.2 q
theorem unI {f : Value → Sem Value} {g : Int → Int}
    (rule : ∀ (i : Int) (t : Tok) (s : Shared) (Q : Value → Shared → Prop) (E : Value → Shared → Prop), Q (.int (g i) s.toks) { s with toks := s.toks + 1 } → wpAny (model X.prog X.w) X.A (f (.int i t)) Q E s) :
    UnR X f (rU fun i => .int (g i)) := by
  intro pins s σ H x v Q I rx h
  obtain ⟨i, rfl, q⟩ := h
  obtain ⟨t, rfl⟩ := rx
  exact rule i t s _ _ ⟨.int (g i), H, I.tok _, ⟨_, rfl⟩, q⟩
theorem un_neg : UnR X (unaryOp .USub) (rU fun i => .int (-i)) := unI fun _ _ _ _ _ q => neg_int q
end
def scal : V → V → Bool
  | .non, .non => true | .non, .int _ => true | .int _, .non => true | .non, .bl _ => true | .bl _, .non => true | .non, .str _ => true | .str _, .non => true
  | .int _, .int _ => true | .bl _, .bl _ => true | .str _, .str _ => true | .byt _, .byt _ => true
  | .int _, .str _ => true | .str _, .int _ => true | .bl _, .str _ => true | .str _, .bl _ => true
  | _, _ => false
def rEq : R2 := fun x y H Q => scal x y = true ∧ Q (.bl (decide (x = y))) H
def rNe : R2 := fun x y H Q => scal x y = true ∧ Q (.bl (!decide (x = y))) H
theorem dec_int {i j : Int} : decide (V.int i = V.int j) = (i == j) := by
  rw [Bool.eq_iff_iff]
  simp
theorem dec_bl {i j : Bool} : decide (V.bl i = V.bl j) = (i == j) := by
  rw [Bool.eq_iff_iff]
  simp
theorem dec_str {i j : Str} : decide (V.str i = V.str j) = (i == j) := by
  rw [Bool.eq_iff_iff]
  simp
theorem dec_byt {i j : Array UInt8} : decide (V.byt i = V.byt j) = (i.toList == j.toList) := by
  rw [Bool.eq_iff_iff]
  cases i
  cases j
  simp
section
variable {X : Cx} {a b c : Expr} {ta tb tc : TE} {pos : Pos}
theorem fin_bl {pins : List (Addr × Obj)} {σ : St} {H : Hp} {s : Shared} {Q : VK} {k k' : Bool} (I : Inv X pins σ H s) (q : Q (.bl k) H) (e : k = k') : EP X pins σ Q (.bool k') s := by
  subst e
  exact ⟨.bl k, H, I, rfl, q⟩
theorem op_eq : OpR X (compareOp .Eq) rEq := by
  intro pins s σ H x y v u Q I rx ry h
  obtain ⟨hs, q⟩ := h
  cases x with
  | non =>
    cases rx
    cases y with
    | non => cases ry; exact PySem.EqNone.eq_none_none (fin_bl I q (by simp))
    | bl j => cases ry; exact PySem.EqNone.eq_none_bool (fin_bl I q (by simp))
    | int j => obtain ⟨t', rfl⟩ := ry; exact PySem.EqNone.eq_none_int (fin_bl I q (by simp))
    | str j => obtain ⟨t', rfl⟩ := ry; exact PySem.EqNone.eq_none_str (fin_bl I q (by simp))
    | _ => exact absurd (show false = true from hs) Bool.false_ne_true
  | bl i =>
    cases rx
    cases y with
    | non => cases ry; exact PySem.EqNone.eq_bool_none (fin_bl I q (by simp))
    | bl j => cases ry; exact eq_bool (fin_bl I q dec_bl)
    | str j => obtain ⟨t', rfl⟩ := ry; exact PySem.EqMixed.eq_bool_str (fin_bl I q (by simp))
    | _ => exact absurd (show false = true from hs) Bool.false_ne_true
  | int i =>
    obtain ⟨t, rfl⟩ := rx
    cases y with
    | non => cases ry; exact PySem.EqNone.eq_int_none (fin_bl I q (by simp))
    | int j => obtain ⟨t', rfl⟩ := ry; exact eq_int (fin_bl I q dec_int)
    | str j => obtain ⟨t', rfl⟩ := ry; exact PySem.EqMixed.eq_int_str (fin_bl I q (by simp))
    | _ => exact absurd (show false = true from hs) Bool.false_ne_true
  | str i =>
    obtain ⟨t, rfl⟩ := rx
    cases y with
    | non => cases ry; exact PySem.EqNone.eq_str_none (fin_bl I q (by simp))
    | bl j => cases ry; exact PySem.EqMixed.eq_str_bool (fin_bl I q (by simp))
    | int j => obtain ⟨t', rfl⟩ := ry; exact PySem.EqMixed.eq_str_int (fin_bl I q (by simp))
    | str j => obtain ⟨t', rfl⟩ := ry; exact eq_str (fin_bl I q dec_str)
    | _ => exact absurd (show false = true from hs) Bool.false_ne_true
  | byt i =>
    obtain ⟨t, rfl⟩ := rx
    cases y with
    | byt j => obtain ⟨t', rfl⟩ := ry; exact PySem.W.eq_bytes (fin_bl I q dec_byt)
    | _ => exact absurd (show false = true from hs) Bool.false_ne_true
  | _ => cases y <;> exact absurd (show false = true from hs) Bool.false_ne_true
theorem op_ne : OpR X (compareOp .NotEq) rNe := by
  intro pins s σ H x y v u Q I rx ry h
  obtain ⟨hs, q⟩ := h
  cases x with
  | non =>
    cases rx
    cases y with
    | non => cases ry; exact PySem.EqNone.ne_none_none (fin_bl I q (by simp))
    | bl j => cases ry; exact PySem.EqNone.ne_none_bool (fin_bl I q (by simp))
    | int j => obtain ⟨t', rfl⟩ := ry; exact PySem.EqNone.ne_none_int (fin_bl I q (by simp))
    | str j => obtain ⟨t', rfl⟩ := ry; exact PySem.EqNone.ne_none_str (fin_bl I q (by simp))
    | _ => exact absurd (show false = true from hs) Bool.false_ne_true
  | bl i =>
    cases rx
    cases y with
    | non => cases ry; exact PySem.EqNone.ne_bool_none (fin_bl I q (by simp))
    | bl j => cases ry; exact ne_bool (fin_bl I q (congrArg not dec_bl))
    | str j => obtain ⟨t', rfl⟩ := ry; exact PySem.EqMixed.ne_bool_str (fin_bl I q (by simp))
    | _ => exact absurd (show false = true from hs) Bool.false_ne_true
  | int i =>
    obtain ⟨t, rfl⟩ := rx
    cases y with
    | non => cases ry; exact PySem.EqNone.ne_int_none (fin_bl I q (by simp))
    | int j => obtain ⟨t', rfl⟩ := ry; exact ne_int (fin_bl I q (congrArg not dec_int))
    | str j => obtain ⟨t', rfl⟩ := ry; exact PySem.EqMixed.ne_int_str (fin_bl I q (by simp))
    | _ => exact absurd (show false = true from hs) Bool.false_ne_true
  | str i =>
    obtain ⟨t, rfl⟩ := rx
    cases y with
    | non => cases ry; exact PySem.EqNone.ne_str_none (fin_bl I q (by simp))
    | bl j => cases ry; exact PySem.EqMixed.ne_str_bool (fin_bl I q (by simp))
    | int j => obtain ⟨t', rfl⟩ := ry; exact PySem.EqMixed.ne_str_int (fin_bl I q (by simp))
    | str j => obtain ⟨t', rfl⟩ := ry; exact ne_str (fin_bl I q (congrArg not dec_str))
    | _ => exact absurd (show false = true from hs) Bool.false_ne_true
  | byt i =>
    obtain ⟨t, rfl⟩ := rx
    cases y with
    | byt j => obtain ⟨t', rfl⟩ := ry; exact PySem.W.ne_bytes (fin_bl I q (congrArg not dec_byt))
    | _ => exact absurd (show false = true from hs) Bool.false_ne_true
  | _ => cases y <;> exact absurd (show false = true from hs) Bool.false_ne_true
theorem op_lt : OpR X (compareOp .Lt) (rI0 fun i j => .bl (decide (i < j))) := opB0 fun _ _ _ _ _ _ _ q => lt_int q
theorem op_le : OpR X (compareOp .LtE) (rI0 fun i j => .bl (decide (i ≤ j))) := opB0 fun _ _ _ _ _ _ _ q => le_int q
theorem op_gt : OpR X (compareOp .Gt) (rI0 fun i j => .bl (decide (j < i))) := opB0 fun _ _ _ _ _ _ _ q => gt_int q
theorem op_isN : OpR X (compareOp .Is) (fun x y H Q => y = .non ∧ Q (.bl (decide (x = .non))) H) := by
  intro pins s σ H x y v u Q I rx ry h
  obtain ⟨rfl, q⟩ := h
  cases ry
  refine is_none_gen (fin_bl I q ?_)
  cases x <;> first
    | (cases rx; rfl)
    | (obtain ⟨t, rfl⟩ := rx; rfl)
theorem op_notN : OpR X (compareOp .IsNot) (fun x y H Q => y = .non ∧ Q (.bl (!decide (x = .non))) H) := by
  intro pins s σ H x y v u Q I rx ry h
  obtain ⟨rfl, q⟩ := h
  cases ry
  refine isnot_none_gen (fin_bl I q ?_)
  cases x <;> first
    | (cases rx; rfl)
    | (obtain ⟨t, rfl⟩ := rx; rfl)
def isObj : HO → Bool
  | .lst _ => true
  | .ins _ _ _ => true
  | _ => false
theorem nomark (b : Expr) {op : CmpOp} (h : op ≠ .In := by decide) (h2 : op ≠ .NotIn := by decide) : behindInMarks op b = false := by
  have e1 : (op == CmpOp.In) = false := by cases op <;> first | rfl | exact absurd rfl h
  have e2 : (op == CmpOp.NotIn) = false := by cases op <;> first | rfl | exact absurd rfl h2
  cases b <;> simp [behindInMarks, e1, e2]
theorem pe_cmpR {op : CmpOp} {r : R2} (ho : OpR X (compareOp op) r) (ha : PE X a ta) (hb : PE X b tb) (hm : behindInMarks op b = false) : PE X (.Compare a [op] [b] pos) (tOp r ta tb) := by
  intro pins s σ H Q I h
  exact wpAny_Compare1 (binT ha hb I h fun v u s2 x y H2 I2 rx ry q => ho pins s2 σ H2 x y v u Q I2 rx ry q) hm
def tTest (t : TE) : TT := fun σ H Q => t σ H fun x H' => ∃ k, x = .bl k ∧ Q k H'
theorem pt_cmpR {op : CmpOp} {r : R2} (ho : OpR X (compareOp op) r) (ha : PE X a ta) (hb : PE X b tb) (hm : behindInMarks op b = false) : PT X (.Compare a [op] [b] pos) (tTest (tOp r ta tb)) := by
  intro pins s σ H Q I h
  refine wpAny_isTrue_Compare1 (thn (ha pins s σ H _ I h) fun v s1 ⟨x, H1, I1, r1, q1⟩ => thn (hb pins s1 σ H1 _ I1 q1) fun u s2 ⟨y, H2, I2, r2, q2⟩ =>
    thn (ho pins s2 σ H2 x y v u _ I2 r1 r2 q2) fun c s3 ⟨z, H3, I3, r3, k, e, q3⟩ => ?_) hm
  subst e
  cases r3
  exact wpAny_truthy_bool ⟨H3, I3, q3⟩
def tChain (r r' : R2) (ta tb tc : TE) : TE := fun σ H Q => ta σ H fun x H1 => tb σ H1 fun y H2 => r x y H2 fun z H3 => ∃ k, z = .bl k ∧
  (if k = true then tc σ H3 fun w' H4 => r' y w' H4 Q else Q (.bl false) H3)
theorem pe_chain {op op' : CmpOp} {r r' : R2} (ho : OpR X (compareOp op) r) (ho' : OpR X (compareOp op') r') (ha : PE X a ta) (hb : PE X b tb) (hc : PE X c tc)
    (hm : lastMarks [op, op'] [b, c] = false := by with_unfolding_all rfl) : PE X (.Compare a [op, op'] [b, c] pos) (tChain r r' ta tb tc) := by
  intro pins s σ H Q I h
  refine Compare_chain (thn (ha pins s σ H _ I h) fun v s1 ⟨x, H1, I1, r1, q1⟩ => chain_link (thn (hb pins s1 σ H1 _ I1 q1) fun u s2 ⟨y, H2, I2, r2, q2⟩ =>
    thn (ho pins s2 σ H2 x y v u _ I2 r1 r2 q2) fun d s3 ⟨z, H3, I3, r3, k, e, q3⟩ => ?_)) hm
  subst e
  cases r3
  refine wpAny_truthy_bool ?_
  cases k with
  | false => exact ite_ff ⟨.bl false, H3, I3, rfl, q3⟩
  | true => exact ite_tt (chain_last (thn (hc pins s3 σ H3 _ I3 q3) fun w' s4 ⟨z', H4, I4, r4, q4⟩ => ho' pins s4 σ H4 y z' u w' Q I4 r2 r4 q4))
def TruV (K : PySem.W.Frag) (x : V) (H : Hp) (k : Bool) : Prop :=
  match x with
  | .non => k = false
  | .bl b => k = b
  | .int i => k = (i != 0)
  | .str y => y.length ≤ sizeLine ∧ k = ((y.length : Int) != 0)
  | .byt y => y.size ≤ sizeLine ∧ k = ((y.size : Int) != 0)
  | .ref p => (∃ xs, SqL K H p xs ∧ k = !xs.isEmpty) ∨ (∃ xs, SqT K H p xs ∧ k = !xs.isEmpty) ∨ ∃ kvs, H p = some (.dK kvs) ∧ k = !kvs.isEmpty
  | _ => False
theorem line63 : (sizeLine : Nat) < 2 ^ 63 := by rw [sizeLine_eq]; decide
def PlainIxT (b : Expr) : Prop := ∀ o i, subscripted b false o i = operate [o, i] (getItem o i)
theorem vals1 {x : V} {us : List Value} (r : Vals [x] us) : ∃ u, us = [u] ∧ RelV x u := by
  cases r with
  | cons r1 r2 => cases r2; exact ⟨_, rfl, r1⟩
theorem vals2 {x y : V} {us : List Value} (r : Vals [x, y] us) : ∃ u w', us = [u, w'] ∧ RelV x u ∧ RelV y w' := by
  cases r with
  | cons r1 r2 =>
    cases r2 with
    | cons r3 r4 => cases r4; exact ⟨_, _, rfl, r1, r3⟩
theorem call_max2 (hc : X.calm = true) : CallR X (.builtin "max") (fun xs H Q => ∃ i j, xs = [.int i, .int j] ∧ Q (.int (if j > i then j else i)) H) := by
  intro pins s σ H xs us Q I r h
  obtain ⟨i, j, rfl, q⟩ := h
  obtain ⟨u, w', rfl, ⟨t, rfl⟩, ⟨t', rfl⟩⟩ := vals2 r
  refine max_two_ints (I.ok.hd hc) fun h' tk k => ⟨_, H, I.kept k, ?_, q⟩
  by_cases hj : j > i
  · rw [if_pos hj, if_pos hj]; exact ⟨_, rfl⟩
  · rw [if_neg hj, if_neg hj]; exact ⟨_, rfl⟩
theorem call_int1 : CallR X (.type "int") (fun xs H Q => (∃ i, xs = [.int i] ∧ Q (.int i) H) ∨ ∃ k, xs = [.bl k] ∧ Q (.int (if k then 1 else 0)) H) := by
  intro pins s σ H xs us Q I r h
  rcases h with ⟨i, rfl, q⟩ | ⟨k, rfl, q⟩
  · obtain ⟨u, rfl, t, rfl⟩ := vals1 r
    exact call_int_int ⟨.int i, H, I, ⟨_, rfl⟩, q⟩
  · obtain ⟨u, rfl, r1⟩ := vals1 r
    cases r1
    exact call_int_bool ⟨.int (if k then 1 else 0), H, I.tok _, ⟨_, rfl⟩, q⟩
def LenV (K : PySem.W.Frag) (x : V) (H : Hp) (n : Nat) : Prop :=
  match x with
  | .str y => y.length ≤ sizeLine ∧ n = y.length
  | .byt y => y.size ≤ sizeLine ∧ n = y.size
  | .ref p => (∃ xs, SqL K H p xs ∧ n = xs.length) ∨ ∃ xs, SqT K H p xs ∧ n = xs.length
  | _ => False
end
end L2
namespace L2
open PySem PySem.Spec PyProof.Rows
structure ObjM (h : Heap) (x dx C : Addr) (mA : Str → Option Value) : Prop where
  obj : h.get? x = some (PySem.W.instObj C dx)
  ns : h.Ns1 dx mA
  ne : dx ≠ x
theorem lookIn_ns {h : Heap} {dx : Addr} {mA : Str → Option Value} (n : h.Ns1 dx mA) : ∃ od, h.get? dx = some od ∧ ∀ name, PySem.W.lookIn name od = some (mA name) := by
  obtain ⟨o, es, ep, ho, hd, hk, _, hm⟩ := n
  refine ⟨o, ho, fun name => ?_⟩
  have e := hm name
  unfold nsFind findBy at e
  rw [← Array.find?_toList] at e
  unfold PySem.W.lookIn
  rw [hd]
  dsimp only
  split
  · rename_i y q
    rw [q] at e
    exact congrArg some e
  · rename_i q
    rw [q] at e
    have a : es.toList.any (·.refKey) = false := by
      rw [List.any_eq_false]
      intro y hy
      obtain ⟨z, t, hkey⟩ := hk y (Array.mem_toList_iff.mp hy)
      simp [DictEntry.refKey, hkey]
    have a' : ¬ es.toList.any (·.refKey) = true := by rw [a]; exact Bool.false_ne_true
    rw [if_neg a']
    exact congrArg some e
theorem ObjM.look {h : Heap} {x dx C : Addr} {mA : Str → Option Value} (I : ObjM h x dx C mA) : ∃ od, PySem.W.InstAt h x (PySem.W.instObj C dx) C (some od) ∧ ∀ name, PySem.W.lookIn name od = some (mA name) :=
  let ⟨od, ho, hl⟩ := lookIn_ns I.ns
  ⟨od, ⟨I.obj, rfl, rfl, ho⟩, hl⟩
section
variable {prog : Program} {w : World} {A : Around} {E : Value → Shared → Prop} {s : Shared} {K : PySem.W.Frag} {x dx C f : Addr} {mA : Str → Option Value} {name : Str} {v : Value}
theorem get_map {expr : Bool} {Q : Value → Shared → Prop} (X : K.In s.heap) (I : ObjM s.heap x dx C mA) (hg : PySem.W.plainGet K C name = true) (hh : PySem.W.hasDictIn K C = true)
    (ha : PySem.W.findIn K (.ref C) name = some none) (hv : mA name = some v) (hv' : PySem.W.handedIn v = true) (h : Q v { s with toks := s.toks + 1 }) :
    wpAny (model prog w) A (getAttr (.ref x) name expr) Q E s := by
  obtain ⟨od, J, hl⟩ := I.look
  exact PySem.W.get_value X J (PySem.W.plainGet_of hg).1 (PySem.W.findObj_own hh ha rfl (by rw [hl, hv])) hv' h
theorem set_map {ns : List Str} {Q : Unit → Shared → Prop} (X : K.In s.heap) (I : ObjM s.heap x dx C mA)
    (hs : PySem.W.findIn K (.ref C) "__setattr__" = some (some (.builtin "object.__setattr__"))) (hp : PySem.W.plainOver K C = true) (ht : PySem.W.takerIn K C name = some none) (hh : PySem.W.hasDictIn K C = true)
    (hw : PySem.Within mA ns) (hsz : ns.length ≤ sizeLine)
    (h : ∀ h', ObjM h' x dx C (fun y => if y = name then some v else mA y) → Heap.SameBut dx s.heap h' → Q () { s with heap := h', toks := s.toks + 2 }) :
    wpAny (model prog w) A (setAttr (.ref x) name v) Q E s := by
  obtain ⟨od, J, hl⟩ := I.look
  refine PySem.W.set_plain X J hs (PySem.W.osa_open (s := { s with toks := s.toks + 1 }) (r := none) X J hp ht fun b => ?_)
  obtain ⟨cd, hc, hd'⟩ := PySem.W.any_some hh
  have hx : s.heap.get? x = some ⟨.ref C, some dx, .plain, #[]⟩ := I.obj
  refine wpAny_bind (wpAny_pure (wpAny_bind (wpAny_bind (wpAny_loadPart hx (wpAny_bind (PySem.W.Looks.here (s := { s with toks := s.toks + 1 }) (PySem.W.looks_clsIn X hc) ?_))))))
  rw [hd']
  refine wpAny_pure (a := some dx) (wpAny_bind (wpAny_pure (wpAny_bind ?_)))
  refine wpAny_nsSet1 (s := { s with toks := s.toks + 1 }) I.ns fun h' hn2 hs2 => ?_
  obtain ⟨oD, esD, epD, hoD, hdD, hcD⟩ := hn2.count (PySem.Within.cons name v hw)
  refine wpAny_bind (wpAny_lookBehind hoD (by rw [hdD]; exact pastItsLine_dict (Nat.le_trans hcD (by rw [List.length_cons]; omega))) ?_)
  exact wpAny_pure (h _ ⟨(hs2.2 _ (Ne.symm I.ne)).trans I.obj, hn2, I.ne⟩ hs2)
theorem make_map {R : Result → Shared → Prop} {vs : List Value} {kw : List (Str × Value)} (X : K.In s.heap) (hm : PySem.W.makesIn K C = true)
    (hi : PySem.W.findIn K (.ref C) "__init__" = some (some (.ref f))) (hf : PySem.W.typeIn K (.ref f) = some (.type "function"))
    (h : codeAny (model prog w) (A.under (.builtin "type.__call__" ⟨.ref C :: vs, kw⟩)) (.call (.ref f) ⟨.ref (s.heap.objs.size + 1) :: vs, kw⟩) (PySem.W.InitBack (s.heap.objs.size + 1) R)
      { s with heap := (s.heap.push PySem.W.emptyDict).push (PySem.W.instObj C s.heap.objs.size) }) :
    codeAny (model prog w) A (.call (.ref C) ⟨vs, kw⟩) R s := by
  obtain ⟨hh, g, d, t, os⟩ := s
  exact PySem.W.make_core (PySem.W.makes_of X hm) (PySem.W.looks_findIn X hi) (fun self => PySem.W.bind_fn X self hf) (.inl rfl) h
end
def putF (f : Str) (v : V) : List (Str × V) → List (Str × V)
  | [] => [(f, v)]
  | (g, x) :: r => if g = f then (g, v) :: r else (g, x) :: putF f v r
theorem lookup_putF (f g : Str) (v : V) : ∀ fs : List (Str × V), (putF f v fs).lookup g = if g = f then some v else fs.lookup g
  | [] => by
    show List.lookup g [(f, v)] = _
    by_cases h : g = f
    · have hb : (g == f) = true := beq_iff_eq.mpr h
      simp only [List.lookup, hb, if_pos h]
    · have hb : (g == f) = false := beq_eq_false_iff_ne.mpr h
      simp only [List.lookup, hb, if_neg h]
  | (k, x) :: r => by
    have ih := lookup_putF f g v r
    rw [show putF f v ((k, x) :: r) = (if k = f then (k, v) :: r else (k, x) :: putF f v r) from rfl]
    by_cases hk : k = f
    · rw [if_pos hk]
      by_cases h : g = k
      · have hb : (g == k) = true := beq_iff_eq.mpr h
        simp only [List.lookup, hb, if_pos (h.trans hk)]
      · have hb : (g == k) = false := beq_eq_false_iff_ne.mpr h
        simp only [List.lookup, hb, if_neg (fun e : g = f => h (e.trans hk.symm))]
    · rw [if_neg hk]
      by_cases h : g = k
      · have hb : (g == k) = true := beq_iff_eq.mpr h
        simp only [List.lookup, hb, if_neg (fun e : g = f => hk (h.symm.trans e))]
      · have hb : (g == k) = false := beq_eq_false_iff_ne.mpr h
        simp only [List.lookup, hb]
        exact ih
theorem keys_putF (f : Str) (v : V) : ∀ fs : List (Str × V), f ∈ (putF f v fs).map (·.1) ∧ ∀ g, g ∈ fs.map (·.1) → g ∈ (putF f v fs).map (·.1)
  | [] => ⟨by simp [putF], fun g h => by simp at h⟩
  | (k, x) :: r => by
    obtain ⟨i1, i2⟩ := keys_putF f v r
    rw [show putF f v ((k, x) :: r) = (if k = f then (k, v) :: r else (k, x) :: putF f v r) from rfl]
    by_cases hk : k = f
    · rw [if_pos hk]
      subst hk
      exact ⟨by simp, fun g h => by simpa using h⟩
    · rw [if_neg hk]
      refine ⟨?_, fun g h => ?_⟩
      · rw [List.map_cons]
        exact List.mem_cons_of_mem _ i1
      · rw [List.map_cons] at h ⊢
        rcases List.mem_cons.mp h with e | e
        · exact List.mem_cons.mpr (.inl e)
        · exact List.mem_cons_of_mem _ (i2 g e)
theorem length_putF (f : Str) (v : V) : ∀ fs : List (Str × V), (putF f v fs).length ≤ fs.length + 1
  | [] => by simp [putF]
  | (k, x) :: r => by
    have ih := length_putF f v r
    rw [show putF f v ((k, x) :: r) = (if k = f then (k, v) :: r else (k, x) :: putF f v r) from rfl]
    by_cases hk : k = f
    · rw [if_pos hk, List.length_cons, List.length_cons]; omega
    · rw [if_neg hk, List.length_cons, List.length_cons]; omega
theorem RelO.some_of {v : V} {o : Option Value} (r : RelO (some v) o) : ∃ u, o = some u ∧ RelV v u := by
  cases o with
  | none => exact (show False from r).elim
  | some u => exact ⟨u, rfl, r⟩
theorem handed_of {v : V} {u : Value} (r : RelV v u) : PySem.W.handedIn u = true := by
  cases v with
  | non => cases (show u = Value.none from r); rfl
  | bl b => cases (show u = Value.bool b from r); rfl
  | int i => obtain ⟨t, e⟩ := (show ∃ t, u = Value.int i t from r); cases e; rfl
  | str x => obtain ⟨t, e⟩ := (show ∃ t, u = Value.str x t from r); cases e; rfl
  | byt b => obtain ⟨t, e⟩ := (show ∃ t, u = Value.bytes b t from r); cases e; rfl
  | flt b => obtain ⟨t, e⟩ := (show ∃ t, u = Value.float b t from r); cases e; rfl
  | ref a => cases (show u = Value.ref a from r); rfl
  | ty n => cases (show u = Value.type n from r); rfl
section
variable {P : Program} {w : World} {H H' : Hp} {h h' : Heap} {a C dx : Addr} {fs fs' : List (Str × V)}
theorem ins_get (hok : HOk P w H h) (e : H a = some (.ins C dx fs)) : ∃ mA, ObjM h a dx C mA ∧ (∀ f, RelO (fs.lookup f) (mA f)) ∧ PySem.Within mA (fs.map (·.1)) ∧ fs.length ≤ 1000 ∧ H dx = some (.own a) := by
  obtain ⟨d, z, ne, ob, mA, n, r, q⟩ := (show ObjOk P w H h a (.ins C dx fs) from hok a _ e)
  exact ⟨mA, ⟨ob, n, ne⟩, r, q, z, d⟩
end
structure Cls (K : PySem.W.Frag) (C : Addr) : Prop where
  pg : PySem.W.plainGet K C Str.empty = true
  hd : PySem.W.hasDictIn K C = true
  po : PySem.W.plainOver K C = true
  sa : PySem.W.findIn K (.ref C) "__setattr__" = some (some (.builtin "object.__setattr__"))
theorem Cls.get {K : PySem.W.Frag} {C : Addr} (c : Cls K C) (f : Str) : PySem.W.plainGet K C f = true := c.pg
def NoAttr (K : PySem.W.Frag) (C : Addr) (f : Str) : Prop := PySem.W.findIn K (.ref C) f = some none
theorem NoAttr.taker {K : PySem.W.Frag} {C : Addr} {f : Str} (n : NoAttr K C f) : PySem.W.takerIn K C f = some none := by
  unfold PySem.W.takerIn
  rw [show PySem.W.findIn K (.ref C) f = some none from n]
  rfl
structure Con (K : PySem.W.Frag) (C : Addr) (f : Str) (v : V) (u : Value) : Prop where
  at_ : PySem.W.findIn K (.ref C) f = some (some u)
  rel : RelV v u
  get : PySem.W.specialIn K u "__get__" = some none
  cp : PySem.W.copiedNames.contains f = false
structure Meth (K : PySem.W.Frag) (C : Addr) (m : Str) (f : Addr) : Prop where
  at_ : PySem.W.findIn K (.ref C) m = some (some (.ref f))
  fn : PySem.W.isFn K (.ref f) = true
  kp : PySem.W.keepIn K (.ref f) = true
section
variable {X : Cx} {pins : List (Addr × Obj)} {σ : St} {H : Hp} {s : Shared} {a C dx : Addr} {fs : List (Str × V)} {f : Str} {v : V} {A : Around} {E : Value → Shared → Prop}
theorem getattr_ok {b : Bool} {Q : Value → Shared → Prop} (I : Inv X pins σ H s) (e : H a = some (.ins C dx fs)) (c : Cls X.K C) (n : NoAttr X.K C f) (l : fs.lookup f = some v)
    (h : ∀ u s', Inv X pins σ H s' → RelV v u → Q u s') : wpAny (model X.prog X.w) A (getAttr (.ref a) f b) Q E s := by
  obtain ⟨mA, O, r, _, _, _⟩ := ins_get I.hok e
  obtain ⟨u, hu, ru⟩ := RelO.some_of (v := v) (o := mA f) (by rw [← l]; exact r f)
  exact get_map I.kIn O (c.get f) c.hd n hu (handed_of ru) (h u _ (I.tok _) ru)
theorem setattr_ok {y : V} {u : Value} {Q : Unit → Shared → Prop} (I : Inv X pins σ H s) (e : H a = some (.ins C dx fs)) (c : Cls X.K C) (n : NoAttr X.K C f) (hl : fs.length < 1000) (ry : RelV y u)
    (h : ∀ s', Inv X pins σ (upd H a (.ins C dx (putF f y fs))) s' → Q () s') : wpAny (model X.prog X.w) A (setAttr (.ref a) f u) Q E s := by
  obtain ⟨mA, O, r, wi, _, ho⟩ := ins_get I.hok e
  have hz : (fs.map (·.1)).length ≤ sizeLine := by rw [List.length_map, sizeLine_eq]; omega
  refine set_map I.kIn O c.sa c.po n.taker c.hd wi hz fun h' O' sb => h _ ?_
  have hd : ∃ o, h'.get? dx = some o := let ⟨o, _, _, e', _⟩ := O'.ns; ⟨o, e'⟩
  refine I.write (x := a) (e := dx) (by rw [e]; exact True.intro) (.inr ho) (fun b q hb z => (sb.2 b hb).trans z) hd ?_
  refine ⟨by rw [upd_ne O.ne]; exact ho, ?_, O.ne, O'.obj, _, O'.ns, fun g => ?_, fun g hg => ?_⟩
  · have := length_putF f y fs; omega
  · show RelO ((putF f y fs).lookup g) (if g = f then some u else mA g)
    rw [lookup_putF]
    by_cases q : g = f
    · rw [if_pos q, if_pos q]; exact ry
    · rw [if_neg q, if_neg q]; exact r g
  · by_cases q : g = f
    · rw [q]; exact (keys_putF f y fs).1
    · refine (keys_putF f y fs).2 g (wi g fun z => hg ?_)
      show (if g = f then some u else mA g) = none
      rw [if_neg q]; exact z
theorem Inv.made (I : Inv X pins σ H s) : Inv X pins σ (upd (upd H s.heap.objs.size (.own (s.heap.objs.size + 1))) (s.heap.objs.size + 1) (.ins C s.heap.objs.size []))
    { s with heap := (s.heap.push PySem.W.emptyDict).push (PySem.W.instObj C s.heap.objs.size) } := by
  have e1 : (s.heap.push PySem.W.emptyDict).get? s.heap.objs.size = some PySem.W.emptyDict := Heap.get?_push_size s.heap rfl
  have e2 : ((s.heap.push PySem.W.emptyDict).push (PySem.W.instObj C s.heap.objs.size)).get? (s.heap.objs.size + 1) = some (PySem.W.instObj C s.heap.objs.size) := by
    have := Heap.get?_push_size (s.heap.push PySem.W.emptyDict) (o := PySem.W.instObj C s.heap.objs.size) rfl
    rwa [Heap.size_push] at this
  have e3 : (s.heap.push PySem.W.emptyDict).Ns s.heap.objs.size (fun _ => none) := ⟨PySem.W.emptyDict, #[], _, e1, rfl, (fun e he => absurd he (by simp)), fun _ => rfl⟩
  have I1 := I.laid (a := s.heap.objs.size) (o := .own (s.heap.objs.size + 1)) (h' := s.heap.push PySem.W.emptyDict) (t' := s.toks) (fun b u q => Heap.get?_push_of_some _ q) (Nat.le_refl _) ⟨_, e1⟩
  refine I1.laid (a := s.heap.objs.size + 1) (o := .ins C s.heap.objs.size []) (t' := s.toks) (fun b u q => Heap.get?_push_of_some _ q) (Nat.le_of_eq (Heap.size_push _ _)) ?_
  have ne : s.heap.objs.size ≠ s.heap.objs.size + 1 := Nat.ne_of_lt (Nat.lt_succ_self _)
  refine ⟨by rw [upd_ne ne, upd_same], Nat.zero_le _, ne, e2, fun _ => none, (Heap.Ns1.of_empty e3).at fun o q => Heap.get?_push_of_some _ q, fun _ => True.intro, fun y hy => absurd rfl hy⟩
theorem attr_of {prog : Program} {w : World} {env : Env} {e : Expr} {f : Str} {pos : Pos} {s : Shared} {Q : Value → Shared → Prop} (hb : attributeBase e f env (eval e env) = eval e env)
    (h : wpAny (model prog w) A (eval e env) (fun o s₁ => wpAny (model prog w) A (getAttr o f true) Q E s₁) E s) : wpAny (model prog w) A (eval (.Attribute e f pos) env) Q E s :=
  Attribute_any_ h (by rw [arm_eval_Attribute, hb])
end
def tFld (K : PySem.W.Frag) (ta : TE) (f : Str) : TE := fun σ H Q => ta σ H fun x H1 => ∃ a C dx fs v, x = .ref a ∧ H1 a = some (.ins C dx fs) ∧ Cls K C ∧ NoAttr K C f ∧ fs.lookup f = some v ∧ Q v H1
def tCon (K : PySem.W.Frag) (ta : TE) (f : Str) : TE := fun σ H Q => ta σ H fun x H1 => ∃ a C dx fs v u, x = .ref a ∧ H1 a = some (.ins C dx fs) ∧ Cls K C ∧ Con K C f v u ∧ fs.lookup f = none ∧ Q v H1
def sFld (K : PySem.W.Frag) (ta tv : TE) (f : Str) : TS := fun D σ H => tv σ H fun y H1 => ta σ H1 fun x H2 => ∃ a C dx fs, x = .ref a ∧ H2 a = some (.ins C dx fs) ∧ Cls K C ∧ NoAttr K C f ∧ fs.length < 1000 ∧
  D.nx σ (upd H2 a (.ins C dx (putF f y fs)))
def InOp (X : Cx) (op : Operator) (rd : V → V → Hp → VK → Prop) : Prop :=
  ∀ (pins : List (Addr × Obj)) (s : Shared) (σ : St) (H : Hp) (x y : V) (u v : Value) (Q : VK), Inv X pins σ H s → RelV x u → RelV y v → rd x y H Q → wpAny (model X.prog X.w) X.A (inplaceOp op u v) (EP X pins σ Q) X.xe s
def sFldAug (K : PySem.W.Frag) (ta tv : TE) (rd : V → V → Hp → VK → Prop) (f : Str) : TS := fun D σ H => ta σ H fun x H1 => ∃ a C dx fs v, x = .ref a ∧ H1 a = some (.ins C dx fs) ∧ Cls K C ∧ NoAttr K C f ∧ fs.lookup f = some v ∧
  tv σ H1 fun y H2 => rd v y H2 fun z H3 => ∃ dx' fs', H3 a = some (.ins C dx' fs') ∧ fs'.length < 1000 ∧ D.nx σ (upd H3 a (.ins C dx' (putF f z fs')))
section
variable {X : Cx} {o e value : Expr} {f : Str} {pos pos' tpos : Pos} {ta tv : TE}
theorem pe_fld (he : PE X e ta) (hb : attributeBase e f X.env (eval e X.env) = eval e X.env) : PE X (.Attribute e f pos) (tFld X.K ta f) := by
  intro pins s σ H Q I h
  refine attr_of hb (thn (he pins s σ H _ I h) fun u s1 ⟨x, H1, I1, rx, a, C, dx, fs, v, ex, ea, c, n, l, q⟩ => ?_)
  subst ex
  obtain rfl : u = Value.ref a := rx
  exact getattr_ok I1 ea c n l fun u' s2 I2 ru => ⟨v, H1, I2, ru, q⟩
theorem ps_fld (ha : PE X o ta) (hv : PE X value tv) (hs : swapsWith value (some (.Attribute o f pos')) pos.line X.env = pure false) : PS X (.Assign [.Attribute o f pos'] value pos) (sFld X.K ta tv f) := by
  intro pins s σ H D I h
  refine plainObj_wpAny_Assign_Attribute (thn (hv pins s σ H _ I h) fun u s1 ⟨y, H1, I1, ry, q⟩ => thn (ha pins s1 σ H1 _ I1 q) fun ov s2 ⟨x, H2, I2, rx, a, C, dx, fs, ex, ea, c, n, l, q2⟩ => ?_) hs
  subst ex
  obtain rfl : ov = Value.ref a := rx
  exact setattr_ok I2 ea c n l ry fun s3 I3 => ⟨σ, _, I3, q2⟩
def rAdd : V → V → Hp → VK → Prop := fun x y H Q => ∃ i j, x = .int i ∧ y = .int j ∧ Q (.int (i + j)) H
def rSub : V → V → Hp → VK → Prop := fun x y H Q => ∃ i j, x = .int i ∧ y = .int j ∧ Q (.int (i - j)) H
end
section
variable {X : Cx} {pins : List (Addr × Obj)} {σ : St} {H : Hp} {s : Shared} {A : Around} {E : Value → Shared → Prop} {Q : Value → Shared → Prop} {c : Value} {b : Bool}
inductive TyOf (K : PySem.W.Frag) (H : Hp) : V → Value → Prop where
  | non : TyOf K H .non (.type "NoneType")
  | bl (x : Bool) : TyOf K H (.bl x) (.type "bool")
  | int (i : Int) : TyOf K H (.int i) (.type "int")
  | str (x : Str) : TyOf K H (.str x) (.type "str")
  | flt (x : UInt64) : TyOf K H (.flt x) (.type "float")
  | lst {a : Addr} {xs : List V} (e : H a = some (.lst xs)) : TyOf K H (.ref a) (.type "list")
  | frz {a : Addr} {o : Obj} {xs : List V} (e : H a = some (.frz o (.lst xs))) : TyOf K H (.ref a) (.type "list")
  | tup {a : Addr} {xs : List V} (e : H a = some (.tup xs)) : TyOf K H (.ref a) (.type "tuple")
  | dK {a : Addr} {kvs : List (Key × V)} (e : H a = some (.dK kvs)) : TyOf K H (.ref a) (.type "dict")
  | dT {a : Addr} {kvs : List (List Key × V)} (e : H a = some (.dT kvs)) : TyOf K H (.ref a) (.type "dict")
  | ins {a C dx : Addr} {fs : List (Str × V)} (e : H a = some (.ins C dx fs)) (cl : Cls K C) (ha : PySem.W.findIn K (.ref C) "__class__" = some (some (.builtin "object.__class__")))
      (hn : PySem.W.specialIn K (.builtin "object.__class__") "__get__" = some (some (.builtin "getset_descriptor.__get__"))) (htk : PySem.W.takesIn K (.builtin "object.__class__") = some true)
      (hm : PySem.W.mroIn K C (.type "object") = some true) : TyOf K H (.ref a) (.ref C)
theorem isinst_ok {x : V} {u t : Value} (I : Inv X pins σ H s) (rx : RelV x u) (ty : TyOf X.K H x t) (e : PySem.W.kitOne X.K t c = some b) (h : ∀ tk, Q (.bool b) { s with toks := tk }) :
    wpAny (model X.prog X.w) A (call (.builtin "isinstance") [u, c]) Q E s := by
  cases ty with
  | non => cases (show u = Value.none from rx); exact PySem.W.kia_one PySem.W.kitx_none I.kIn True.intro e (fun z => nomatch z) h
  | bl y => cases (show u = Value.bool y from rx); exact PySem.W.kia_one PySem.W.kitx_bool I.kIn True.intro e (fun z => nomatch z) h
  | int i => obtain ⟨t, q⟩ := (show ∃ t, u = Value.int i t from rx); cases q; exact PySem.W.kia_one PySem.W.kitx_int I.kIn True.intro e (fun z => nomatch z) h
  | str y => obtain ⟨t, q⟩ := (show ∃ t, u = Value.str y t from rx); cases q; exact PySem.W.kia_one PySem.W.kitx_str I.kIn True.intro e (fun z => nomatch z) h
  | flt y => obtain ⟨t, q⟩ := (show ∃ t, u = Value.float y t from rx); cases q; exact PySem.W.kia_one PySem.W.kitx_float I.kIn True.intro e (fun z => nomatch z) h
  | @lst a xs ea =>
    cases (show u = Value.ref a from rx)
    obtain ⟨_, _, n, _, h1⟩ := (show ObjOk X.prog X.w H s.heap a (.lst xs) from I.hok a _ ea)
    exact PySem.W.kia_one PySem.W.kitx_list I.kIn ⟨_, h1, rfl⟩ e (fun z => nomatch z) h
  | @frz a ob xs ea =>
    cases (show u = Value.ref a from rx)
    obtain ⟨_, _, _, n, _, h1⟩ := (show ObjOk X.prog X.w H s.heap a (.frz ob (.lst xs)) from I.hok a _ ea)
    exact PySem.W.kia_one PySem.W.kitx_list I.kIn ⟨_, h1, rfl⟩ e (fun z => nomatch z) h
  | @tup a xs ea =>
    cases (show u = Value.ref a from rx)
    obtain ⟨_, _, _, p⟩ := (show ObjOk X.prog X.w H s.heap a (.tup xs) from I.hok a _ ea)
    obtain ⟨o, h1, h2, _⟩ := p
    exact PySem.W.kia_one PySem.W.kitx_tuple I.kIn ⟨o, h1, h2⟩ e (fun z => nomatch z) h
  | @dK a kvs ea =>
    cases (show u = Value.ref a from rx)
    obtain ⟨_, _, vs, _, p⟩ := (show ObjOk X.prog X.w H s.heap a (.dK kvs) from I.hok a _ ea)
    obtain ⟨o, es, ep, h1, h2, _⟩ := p
    exact PySem.W.kia_one PySem.W.kitx_dict I.kIn ⟨o, h1, h2.1⟩ e (fun z => nomatch z) h
  | @dT a kvs ea =>
    cases (show u = Value.ref a from rx)
    obtain ⟨_, _, xs, _, o, es, ep, h1, h2, _⟩ := (show ObjOk X.prog X.w H s.heap a (.dT kvs) from I.hok a _ ea)
    exact PySem.W.kia_one PySem.W.kitx_dict I.kIn ⟨o, h1, h2.1⟩ e (fun z => nomatch z) h
  | @ins a C dx fs ea cl ha hn htk hm =>
    cases (show u = Value.ref a from rx)
    obtain ⟨mA, O, _⟩ := ins_get I.hok ea
    obtain ⟨od, J, _⟩ := O.look
    exact PySem.W.kia_one (PySem.W.kitx_own (cl.get _) cl.hd ha hn htk hm) I.kIn J e (fun z => nomatch z) h
end
end L2
namespace L2
open PySem PySem.Spec PyProof.Rows
structure Room (k : Nat) (A : Around) : Prop where
  hd : A.handled = none
  dp : A.depth + 3 * k + 5 < recursionLimit
  un : A.units + 16 * k + 200 < cLine
theorem Room.mono {j k : Nat} {A : Around} (r : Room k A) (h : j ≤ k) : Room j A := ⟨r.hd, by have := r.dp; omega, by have := r.un; omega⟩
theorem Room.deeper {k : Nat} {A : Around} (r : Room (k + 1) A) (env : Env) : Room k (A.deeper env) :=
  ⟨r.hd, by have := r.dp; show A.depth + 1 + 3 * k + 5 < _; omega, by have := r.un; show A.units + 3 + 16 * k + 200 < _; omega⟩
theorem make_depth {A : Around} {C : Addr} {us : List Value} {kw : List (Str × Value)} : (A.under (.builtin "type.__call__" ⟨.ref C :: us, kw⟩)).depth = A.depth + 1 := by
  first | rfl | simp [Around.under, Code.weight, Code.isCreation, Code.isGuard, Code.isCaller, Code.frames, Code.isFrame, guardIds]
theorem make_units {A : Around} {C : Addr} {us : List Value} {kw : List (Str × Value)} : (A.under (.builtin "type.__call__" ⟨.ref C :: us, kw⟩)).units = A.units + 1 := by
  first | rfl | simp [Around.under, Code.cUnits, Code.frames, Code.isFrame]
theorem Room.make {k : Nat} {A : Around} (r : Room (k + 1) A) (C : Addr) (us : List Value) (kw : List (Str × Value)) : Room k (A.under (.builtin "type.__call__" ⟨.ref C :: us, kw⟩)) :=
  ⟨r.hd, by have := r.dp; rw [make_depth]; omega, by have := r.un; rw [make_units]; omega⟩
theorem Room.depth {k : Nat} {A : Around} (r : Room k A) : A.depth < recursionLimit := by have := r.dp; omega
theorem Room.units {k : Nat} {A : Around} (r : Room k A) : A.units + 64 < cLine := by have := r.un; omega
def tNil : TA := fun _ H Q => Q [] H
def tCons (ta : TE) (tr : TA) : TA := fun σ H Q => ta σ H fun x H1 => tr σ H1 fun xs H2 => Q (x :: xs) H2
section
variable {X : Cx} {e : Expr} {es : List Expr} {te : TE} {t : TA} {pos : Pos}
theorem pa_nil : PA X [] tNil := fun _ _ _ _ H Q I h => Calls.spliced_nil ⟨[], H, I, .nil, h⟩
theorem pa_cons (ha : PE X e te) (hr : PA X es t) (hs : starEach (e :: es) X.env = (false, eval e X.env) :: starEach es X.env := by rfl) : PA X (e :: es) (tCons te t) := by
  intro pos pins s σ H Q I h
  rw [hs]
  show wpAny _ _ (spliced ((false, eval e X.env) :: backTo pos (starEach es X.env))) _ _ s
  refine Calls.spliced_cons (thn (ha pins s σ H _ I h) fun u s1 ⟨x, H1, I1, r1, q1⟩ => ?_)
  exact thn (hr pos pins s1 σ H1 _ I1 q1) fun us s2 ⟨xs, H2, I2, r2, q2⟩ => ⟨x :: xs, H2, I2, .cons r1 r2, q2⟩
def tTup (t : TA) : TE := fun σ H Q => t σ H fun xs H1 => xs.length ≤ sizeLine ∧ ∀ p, H1 p = none → Q (.ref p) (upd H1 p (.tup xs))
def tLst (t : TA) : TE := fun σ H Q => t σ H fun xs H1 => xs.length ≤ sizeLine ∧ ∀ p, H1 p = none → Q (.ref p) (upd H1 p (.lst xs))
theorem pe_tup {x1} (h : PA X es t) : PE X (.Tuple es x1 pos) (tTup t) := by
  intro pins s σ H Q I hq
  refine wpAny_Tuple_spliced (thn (h pos pins s σ H _ I hq) fun us s1 ⟨xs, H1, I1, r, z, q⟩ => ⟨by rw [← r.length]; exact z, ?_⟩)
  have hf : H1 s1.heap.objs.size = none := I1.hok.fresh (Nat.le_refl _)
  refine ⟨.ref s1.heap.objs.size, upd H1 s1.heap.objs.size (.tup xs), I1.laid (t' := s1.toks) (fun b u e => Heap.get?_push_of_some _ e) (Nat.le_refl _) ?_, rfl, q _ hf⟩
  exact ⟨z, us, r, ⟨_, Heap.get?_push_size _ rfl, rfl, _, rfl⟩⟩
theorem pe_lst (h : PA X es t) : PE X (.List es pos) (tLst t) := by
  intro pins s σ H Q I hq
  refine wpAny_List_spliced (thn (h pos pins s σ H _ I hq) fun us s1 ⟨xs, H1, I1, r, z, q⟩ => ⟨by rw [← r.length]; exact z, ?_⟩)
  have hf : H1 s1.heap.objs.size = none := I1.hok.fresh (Nat.le_refl _)
  refine ⟨.ref s1.heap.objs.size, upd H1 s1.heap.objs.size (.lst xs), I1.laid (t' := s1.toks) (fun b u e => Heap.get?_push_of_some _ e) (Nat.le_refl _) ?_, rfl, q _ hf⟩
  exact ⟨z, us, 0, r, Heap.get?_push_size _ rfl⟩
end
abbrev Sp := List V → Hp → VK → XK → Prop
abbrev CXT := List Env → Hp → Shared → XK → Value → Shared → Prop
structure Env0 (P : Program) (w : World) (K : PySem.W.Frag) (mg : Str → Option Value) (base : Heap) (A : Around) (outer : List Env) (s : Shared) (H : Hp) : Prop where
  frames : A.frames = some outer
  mod : Mod K mg base
  bs : ∀ b o, base.get? b = some o → s.heap.get? b = some o ∧ H b = none
  bsz : base.objs.size ≤ s.heap.objs.size
  funs : s.heap.FunFrames base outer
  frf : ∀ b ∈ frs outer, H b = none
  hok : HOk P w H s.heap
  bare : AllBare s.gens
def CE (outer : List Env) (P : Program) (w : World) (H : Hp) (s : Shared) (Q : VK) (u : Value) (s' : Shared) : Prop :=
  ∃ v H', s'.os = s.os ∧ AllBare s'.gens ∧ Un (frs outer) [] H H' s.heap s'.heap ∧ HOk P w H' s'.heap ∧ RelV v u ∧ Q v H'
def CR (CX : CXT) (outer : List Env) (P : Program) (w : World) (H : Hp) (s : Shared) (Q : VK) (E : XK) (r : Result) (s' : Shared) : Prop :=
  match r with
  | .ok (.ret u) => CE outer P w H s Q u s'
  | .ok _ => False
  | .error e => CX outer H s E e s'
structure FnOk (P : Program) (w : World) (K : PySem.W.Frag) (mg : Str → Option Value) (base : Heap) (CX : CXT) (k : Nat) (f : Addr) (fd : FuncData) (ps : List Str) (sp : Sp) : Prop where
  len : ∀ vs H Q E, sp vs H Q E → vs.length = ps.length
  run : ∀ (A : Around) (outer : List Env) (s : Shared) (H : Hp) (args : Args) (us : List Value) (vs : List V) (Q : VK) (E : XK), Room k A → Env0 P w K mg base A outer s H → BindsTo s fd args (ps.zip us) → Vals vs us → sp vs H Q E →
    codeAny (model P w) A (.call (.ref f) args) (CR CX outer P w H s Q E) s
theorem FnOk.mono {P : Program} {w : World} {K : PySem.W.Frag} {mg : Str → Option Value} {base : Heap} {CX : CXT} {j k : Nat} {f : Addr} {fd : FuncData} {ps : List Str} {sp : Sp} (F : FnOk P w K mg base CX j f fd ps sp) (h : j ≤ k) :
    FnOk P w K mg base CX k f fd ps sp := ⟨F.len, fun A outer s H args us vs Q E hr => F.run A outer s H args us vs Q E (hr.mono h)⟩
theorem Env0.make {P : Program} {w : World} {K : PySem.W.Frag} {mg : Str → Option Value} {base : Heap} {A : Around} {outer : List Env} {s : Shared} {H : Hp} (e : Env0 P w K mg base A outer s H) (C : Addr) (us : List Value) (kw : List (Str × Value)) :
    Env0 P w K mg base (A.under (.builtin "type.__call__" ⟨.ref C :: us, kw⟩)) outer s H := ⟨by first | exact e.frames | (simpa [Around.under, Code.envs, Code.isFrame, pushEnvs] using e.frames), e.mod, e.bs, e.bsz, e.funs, e.frf, e.hok, e.bare⟩
section
variable {X : Cx} {pins : List (Addr × Obj)} {σ : St} {H : Hp} {s s' : Shared}
theorem Inv.env0 (I : Inv X pins σ H s) : Env0 X.prog X.w X.K X.mg X.base X.A X.stack s H :=
  ⟨I.ok.frames, I.ok.mod, I.bs, Nat.le_trans I.ok.bsz I.sz, I.stack, I.stkFree, I.hok, I.bare⟩
theorem Inv.after {Q : VK} {u : Value} (I : Inv X pins σ H s) (h : CE X.stack X.prog X.w H s Q u s') : EP X pins σ Q u s' := by
  obtain ⟨v, H', os, bare, un, hok, r, q⟩ := h
  obtain ⟨hh, g, d, t, os'⟩ := s'
  obtain rfl : os' = s.os := os
  exact ⟨v, H', I.call (h' := hh) (g' := g) (d' := d) (t' := t) (ch := []) un hok bare (fun b z => absurd z (by simp)), r, q⟩
end
def tCall (sp : Sp) (dvs : List V) (E : XK) (t : TA) : TE := fun σ H Q => t σ H fun vs H1 => sp (vs ++ dvs) H1 Q E
def tMeth (C : Addr) (m : Str) (sp : Sp) (dvs : List V) (E : XK) (ta : TE) (t : TA) : TE := fun σ H Q => ta σ H fun x H1 => ∃ a dx fs, x = .ref a ∧ H1 a = some (.ins C dx fs) ∧ fs.lookup m = none ∧
  t σ H1 fun vs H2 => sp (x :: (vs ++ dvs)) H2 Q E
def tMake (C : Addr) (sp : Sp) (dvs : List V) (E : XK) (t : TA) : TE := fun σ H Q => t σ H fun vs H1 => ∀ x dx, H1 x = none → H1 dx = none → dx ≠ x →
  sp (.ref x :: (vs ++ dvs)) (upd (upd H1 dx (.own x)) x (.ins C dx [])) (fun v H2 => v = .non ∧ Q (.ref x) H2) E
def Binds (K : PySem.W.Frag) (fd : FuncData) (ps : List Str) (ds : List Value) : Prop :=
  ∀ (s : Shared) (us : List Value), K.In s.heap → (us ++ ds).length = ps.length → BindsTo s fd ⟨us, []⟩ (ps.zip (us ++ ds))
theorem Binds.all {K : PySem.W.Frag} {fd : FuncData} {ps : List Str} (h : ∀ us : List Value, us.length = ps.length → bindArgs fd ⟨us, []⟩ = pure (ps.zip us)) : Binds K fd ps [] := fun s us _ hl => by
  rw [List.append_nil] at hl ⊢
  exact .of_eq (h us hl)
def Passes (CX : CXT) (X : Cx) (E : XK) : Prop := ∀ (pins : List (Addr × Obj)) (σ : St) (H : Hp) (s : Shared) (e : Value) (s' : Shared), Inv X pins σ H s → CX X.stack H s E e s' → X.xe e s'
section
variable {X : Cx} {CX : CXT} {k : Nat} {f C : Addr} {fd : FuncData} {ps : List Str} {sp : Sp} {dvs : List V} {ds : List Value} {E : XK} {x m : Str} {p pos apos : Pos} {e o : Expr} {es : List Expr} {ta : TE} {t : TA}
theorem run_fn {pins : List (Addr × Obj)} {σ : St} {H : Hp} {s : Shared} {Q : VK} {us : List Value} {vs : List V} (F : FnOk X.prog X.w X.K X.mg X.base CX k f fd ps sp) (hr : Room k X.A) (hb : Binds X.K fd ps ds) (hd : Vals dvs ds) (hx : Passes CX X E)
    (I : Inv X pins σ H s) (r : Vals vs us) (h : sp (vs ++ dvs) H Q E) : wpAny (model X.prog X.w) X.A (call (.ref f) us) (EP X pins σ Q) X.xe s := by
  have r2 : Vals (vs ++ dvs) (us ++ ds) := r.append hd
  have hl : (us ++ ds).length = ps.length := by rw [← r2.length]; exact F.len _ _ _ _ h
  refine wpAny_call (codeAny_mono (F.run X.A X.stack s H ⟨us, []⟩ (us ++ ds) (vs ++ dvs) Q E hr I.env0 (hb s us I.kIn hl) r2 h) fun r s' hq => ?_)
  cases r with
  | error e => exact hx pins σ H s e s' I hq
  | ok fl =>
    cases fl with
    | ret u => exact I.after hq
    | next => exact False.elim hq
    | brk => exact False.elim hq
    | cont => exact False.elim hq
theorem pe_call (F : FnOk X.prog X.w X.K X.mg X.base CX k f fd ps sp) (hr : Room k X.A) (hg : Gl X x) (hm : X.mg x = some (.ref f)) (hk : PySem.W.keepIn X.K (.ref f) = true) (hb : Binds X.K fd ps ds) (hd : Vals dvs ds) (hx : Passes CX X E)
    (ha : PA X (e :: es) t) (hdb : (x == ("__debug__" : Str)) = false := by decide) (he : starEach (e :: es) X.env = (false, eval e X.env) :: starEach es X.env := by rfl) (hpl : (backTo pos (starEach es X.env)).any (·.1) = false := by rfl) :
    PE X (.Call (.Name x p) (e :: es) [] pos) (tCall sp dvs E t) := by
  intro pins s σ H Q I h
  refine wpAny_Call_Name_kw (ld_glob I hg hm ?_ hdb)
  refine PySem.W.callWith_K (h₀ := X.base) I.ok.mod.kin hk (thn (ha pos pins s σ H _ I h) fun us s1 ⟨vs, H1, I1, r, q⟩ => ⟨I1.kIn, ?_⟩) he hpl
  exact run_fn F hr hb hd hx I1 r q
structure Mk (K : PySem.W.Frag) (C f : Addr) : Prop where
  makes : PySem.W.makesIn K C = true
  init : PySem.W.findIn K (.ref C) "__init__" = some (some (.ref f))
  fn : PySem.W.isFn K (.ref f) = true
  kp : PySem.W.keepIn K (.ref C) = true
theorem run_make {pins : List (Addr × Obj)} {σ : St} {H : Hp} {s : Shared} {Q : VK} {us : List Value} {vs : List V} (M : Mk X.K C f) (F : FnOk X.prog X.w X.K X.mg X.base CX k f fd ps sp) (hr : Room (k + 1) X.A) (hb : Binds X.K fd ps ds) (hd : Vals dvs ds)
    (hx : Passes CX X E) (I : Inv X pins σ H s) (r : Vals vs us)
    (h : ∀ x dx, H x = none → H dx = none → dx ≠ x → sp (.ref x :: (vs ++ dvs)) (upd (upd H dx (.own x)) x (.ins C dx [])) (fun v H2 => v = .non ∧ Q (.ref x) H2) E) :
    wpAny (model X.prog X.w) X.A (call (.ref C) us) (EP X pins σ Q) X.xe s := by
  have hq := h (s.heap.objs.size + 1) s.heap.objs.size (I.hok.fresh (Nat.le_succ _)) (I.hok.fresh (Nat.le_refl _)) (Nat.ne_of_lt (Nat.lt_succ_self _))
  have I2 := Inv.made (C := C) I
  have r2 : Vals (V.ref (s.heap.objs.size + 1) :: (vs ++ dvs)) (Value.ref (s.heap.objs.size + 1) :: (us ++ ds)) := .cons rfl (r.append hd)
  have hl : (Value.ref (s.heap.objs.size + 1) :: us ++ ds).length = ps.length := by
    have e := r2.length
    rw [F.len _ _ _ _ hq] at e
    exact e.symm
  refine wpAny_call (make_map (f := f) I.kIn M.makes M.init (beq_iff_eq.mp M.fn) (codeAny_mono (F.run _ X.stack _ _ ⟨Value.ref (s.heap.objs.size + 1) :: us, []⟩ (Value.ref (s.heap.objs.size + 1) :: (us ++ ds)) _ _ E (hr.make C us [])
    (I2.env0.make C us []) (hb _ (Value.ref (s.heap.objs.size + 1) :: us) I2.kIn hl) r2 hq) fun r s' hq' => ?_))
  cases r with
  | error e => exact hx pins σ _ _ e s' I2 hq'
  | ok fl =>
    cases fl with
    | ret u =>
      obtain ⟨v, H', I3, rv, ev, q3⟩ := I2.after hq'
      subst ev
      exact ⟨rv, ⟨V.ref (s.heap.objs.size + 1), H', I3, rfl, q3⟩⟩
    | next => exact False.elim hq'
    | brk => exact False.elim hq'
    | cont => exact False.elim hq'
theorem pe_make (M : Mk X.K C f) (F : FnOk X.prog X.w X.K X.mg X.base CX k f fd ps sp) (hr : Room (k + 1) X.A) (hg : Gl X x) (hm : X.mg x = some (.ref C)) (hb : Binds X.K fd ps ds) (hd : Vals dvs ds) (hx : Passes CX X E)
    (ha : PA X (e :: es) t) (hdb : (x == ("__debug__" : Str)) = false := by decide) (he : starEach (e :: es) X.env = (false, eval e X.env) :: starEach es X.env := by rfl) (hpl : (backTo pos (starEach es X.env)).any (·.1) = false := by rfl) :
    PE X (.Call (.Name x p) (e :: es) [] pos) (tMake C sp dvs E t) := by
  intro pins s σ H Q I h
  refine wpAny_Call_Name_kw (ld_glob I hg hm ?_ hdb)
  refine PySem.W.callWith_K (h₀ := X.base) I.ok.mod.kin M.kp (thn (ha pos pins s σ H _ I h) fun us s1 ⟨vs, H1, I1, r, q⟩ => ⟨I1.kIn, ?_⟩) he hpl
  exact run_make M F hr hb hd hx I1 r q
end
def PK (X : Cx) (kws : List Keyword) (t : TA) : Prop :=
  ∀ (pos : Pos) (pins : List (Addr × Obj)) (s : Shared) (σ : St) (H : Hp) (Q : List V → Hp → Prop), Inv X pins σ H s → t σ H Q → wpAny (model X.prog X.w) X.A (evalAll ((backToKw pos (keywordEach kws X.env)).map (·.2))) (AP X pins σ Q) X.xe s
section
variable {X : Cx} {CX : CXT} {k : Nat} {f C : Addr} {fd : FuncData} {ps ks : List Str} {sp : Sp} {E : XK} {x m : Str} {p pos apos kpos : Pos} {e o : Expr} {es : List Expr} {kws : List Keyword} {te ta : TE} {t tk : TA} {nm : Option Str}
theorem pk_nil : PK X [] tNil := fun _ _ _ _ H Q I h => wpAny_evalAll_nil ⟨[], H, I, .nil, h⟩
theorem pk_cons (ha : PE X e te) (hr : PK X kws t) : PK X (⟨nm, e, kpos⟩ :: kws) (tCons te t) := by
  intro pos pins s σ H Q I h
  show wpAny _ _ (evalAll ((do let v ← eval e X.env; standAt pos; pure v) :: (backToKw pos (keywordEach kws X.env)).map (·.2))) _ _ s
  refine wpAny_evalAll_cons (wpAny_bind (thn (ha pins s σ H _ I h) fun u s1 ⟨x, H1, I1, r1, q1⟩ => wpAny_bind (wpAny_standAt (wpAny_pure ?_))))
  exact thn (hr pos pins s1 σ H1 _ I1 q1) fun us s2 ⟨xs, H2, I2, r2, q2⟩ => ⟨x :: xs, H2, I2, .cons r1 r2, q2⟩
structure KBinds (K : PySem.W.Frag) (fd : FuncData) (ps ks : List Str) (g : List Value → List Value → List Value) (gV : List V → List V → List V) : Prop where
  to : ∀ (s : Shared) (us ws : List Value), K.In s.heap → (g us ws).length = ps.length → BindsTo s fd ⟨us, ks.zip ws⟩ (ps.zip (g us ws))
  rel : ∀ {vs : List V} {us : List Value} {zs : List V} {ws : List Value}, Vals vs us → Vals zs ws → Vals (gV vs zs) (g us ws)
def tCallK (sp : Sp) (gV : List V → List V → List V) (E : XK) (t tk : TA) : TE := fun σ H Q => t σ H fun vs H1 => tk σ H1 fun zs H2 => sp (gV vs zs) H2 Q E
variable {g : List Value → List Value → List Value} {gV : List V → List V → List V}
end
structure FnScope (N P : List Str) (sc : Scope) : Prop where
  kind : sc.kind = .function
  co : sc.isCoroutine = false
  gen : sc.isGenerator = false
  nd : N.Nodup
  pre : N.take P.length = P
  par : ∀ x ∈ P, sc.names.lookup x = some .local ∨ sc.names.lookup x = some .cell
  nofree : ∀ y ∈ sc.names, y.2 ≠ .free
theorem bindL_out {kindOf : Str → Option NameKind} {x : Str} : ∀ {binds : List (Str × Value)} {m : Str → Option Value}, (∀ v, (x, v) ∉ binds) → bindL kindOf binds m x = m x
  | [], _, _ => rfl
  | (n, v) :: r, m, h => by
    unfold bindL
    rw [bindL_out fun w hw => h w (List.mem_cons_of_mem _ hw)]
    split
    · have : x ≠ n := by rintro rfl; exact h v List.mem_cons_self
      simp [this]
    · rfl
theorem bindC_out {kindOf : Str → Option NameKind} {x : Str} : ∀ {binds : List (Str × Value)} {m : Str → Option Value}, (∀ v, (x, v) ∉ binds) → bindC kindOf binds m x = m x
  | [], _, _ => rfl
  | (n, v) :: r, m, h => by
    unfold bindC
    rw [bindC_out fun w hw => h w (List.mem_cons_of_mem _ hw)]
    split
    · rfl
    · have : x ≠ n := by rintro rfl; exact h v List.mem_cons_self
      simp [this]
theorem bindL_get {kindOf : Str → Option NameKind} {x : Str} {v : Value} : ∀ {P : List Str} {vs : List Value} {i : Nat} {m : Str → Option Value}, P.Nodup → P[i]? = some x → vs[i]? = some v → kindOf x = some .local →
    bindL kindOf (P.zip vs) m x = some v
  | [], _, _, _, _, h, _, _ => by simp at h
  | _ :: _, [], _, _, _, _, h, _ => by simp at h
  | p :: P, w :: vs, 0, m, nd, h1, h2, hk => by
    simp at h1 h2; subst h1; subst h2
    show bindL kindOf ((p, w) :: P.zip vs) m p = _
    unfold bindL
    rw [bindL_out fun v hv => (List.nodup_cons.mp nd).1 (List.of_mem_zip hv).1, if_pos hk]
    simp
  | p :: P, w :: vs, i + 1, m, nd, h1, h2, hk => by
    show bindL kindOf ((p, w) :: P.zip vs) m x = _
    unfold bindL
    exact bindL_get (i := i) (List.nodup_cons.mp nd).2 (by simpa using h1) (by simpa using h2) hk
theorem bindC_get {kindOf : Str → Option NameKind} {x : Str} {v : Value} : ∀ {P : List Str} {vs : List Value} {i : Nat} {m : Str → Option Value}, P.Nodup → P[i]? = some x → vs[i]? = some v → kindOf x ≠ some .local →
    bindC kindOf (P.zip vs) m x = some v
  | [], _, _, _, _, h, _, _ => by simp at h
  | _ :: _, [], _, _, _, _, h, _ => by simp at h
  | p :: P, w :: vs, 0, m, nd, h1, h2, hk => by
    simp at h1 h2; subst h1; subst h2
    show bindC kindOf ((p, w) :: P.zip vs) m p = _
    unfold bindC
    rw [bindC_out fun v hv => (List.nodup_cons.mp nd).1 (List.of_mem_zip hv).1, if_neg hk]
    simp
  | p :: P, w :: vs, i + 1, m, nd, h1, h2, hk => by
    show bindC kindOf ((p, w) :: P.zip vs) m x = _
    unfold bindC
    exact bindC_get (i := i) (List.nodup_cons.mp nd).2 (by simpa using h1) (by simpa using h2) hk
def start (N : List Str) (vs : List V) : St := vs.map some ++ List.replicate (N.length - vs.length) none
def cxOf (CX : CXT) (P : Program) (w : World) (K : PySem.W.Frag) (mg : Str → Option Value) (base : Heap) (N : List Str) (qual : Str) (scope : Scope) (f : Addr) (cd : Value) (A : Around) (outer : List Env) (s : Shared) (H : Hp) (E : XK) : Cx where
  prog := P
  w := w
  K := K
  mg := mg
  base := base
  A := A.deeper (envOfC qual scope s.heap.objs.size f cd)
  N := N
  s₀ := s
  H₀ := H
  env := envOfC qual scope s.heap.objs.size f cd
  outer := outer
  stack := envOfC qual scope s.heap.objs.size f cd :: outer
  ex := []
  calm := true
  fn := fun _ => true
  pn := []
  xe := fun e s' => wpAny (model P w) (A.deeper (envOfC qual scope s.heap.objs.size f cd)) (leaving (envOfC qual scope s.heap.objs.size f cd) e) (fun _ s'' => CX outer H s E e s'') (fun e' s'' => CX outer H s E e' s'') s'
theorem cell_has {sc : Scope} {n : Nat} {x : Str} (h : sc.names.lookup x = some .cell) : ∃ c, (cellsFrom n sc.names []).lookup x = some c := by
  have q := PySem.W.cellsFrom_some sc.names n [] (.inl h)
  exact Option.isSome_iff_exists.mp q
theorem inv_start {CX : CXT} {P : Program} {w : World} {K : PySem.W.Frag} {mg : Str → Option Value} {base : Heap} {N ps : List Str} {qual : Str} {scope : Scope} {f : Addr} {cd : Value} {A : Around} {outer : List Env} {s s1 : Shared} {H : Hp} {E : XK} {us : List Value} {vs : List V}
    (S : FnScope N ps scope) (hd : A.handled = none) (e0 : Env0 P w K mg base A outer s H) (hl : vs.length = ps.length) (r : Vals vs us)
    (x : InCallC s s.heap.objs.size (bindL (envOfC qual scope s.heap.objs.size f cd).kindOf (ps.zip us) fun _ => none) (cellsFrom (s.heap.objs.size + 1) scope.names []) (bindC (envOfC qual scope s.heap.objs.size f cd).kindOf (ps.zip us) fun _ => none) s1) :
    Inv (cxOf CX P w K mg base N qual scope f cd A outer s H E) [] (start N vs) H s1 := by
  have hpl : ps.length ≤ N.length := by have := congrArg List.length S.pre; rw [List.length_take] at this; omega
  obtain ⟨h1, tk, rfl, hk⟩ := x.done
  have noA : ∀ b : Addr, b ∉ (cxOf CX P w K mg base N qual scope f cd A outer s H E).ex := fun b z => absurd (show b ∈ ([] : List Addr) from z) (by simp)
  refine ⟨⟨e0.mod, S.kind, rfl, rfl, Nat.le_refl _, fun y z c h1 h2 => ?_, fun y hy => ?_, fun y c _ h => ?_, fun _ => hd, Around.frames_deeper e0.frames, .inr ⟨rfl, rfl⟩, fun b z => absurd z (noA b), e0.bs, e0.bsz, fun b _ _ => noA b, fun b z => absurd z (noA b), e0.funs, e0.frf⟩,
    rfl, e0.bare, Un.kept hk, ⟨_, x.toInCall.ns, fun i y v h1 h2 h3 => ?_⟩, fun y c h => ⟨_, x.cell y c h⟩, e0.hok.fresh (Nat.le_refl _), fun y c h => ?_, fun p hp => absurd (show p ∈ ([] : List (Addr × Obj)) from hp) (by simp), e0.hok.kept hk, ?_⟩
  · exact name_of_addr x.apart (PySem.mem_of_lookup h1) (PySem.mem_of_lookup h2)
  · have hy : scope.names.lookup y = some .cell ∨ scope.names.lookup y = some .free := hy
    rcases hy with hy | hy
    · exact cell_has hy
    · exact absurd rfl (S.nofree _ (PySem.mem_of_lookup hy))
  · exact Nat.le_of_lt (x.above y c (PySem.mem_of_lookup h))
  · have hi : i < vs.length := by
      unfold start at h2
      by_cases hi : i < vs.length
      · exact hi
      · rw [List.getElem?_append_right (by simpa using hi)] at h2
        rw [List.getElem?_replicate] at h2
        split at h2 <;> cases h2
    have ha : vs[i]? = some v := by
      unfold start at h2
      rw [List.getElem?_append_left (by simpa using hi), List.getElem?_map] at h2
      cases e : vs[i]? with
      | none => rw [e] at h2; cases h2
      | some a => rw [e] at h2; cases h2; rfl
    obtain ⟨u, hu, rv⟩ := r.get ha
    have hp : ps[i]? = some y := by
      rw [← S.pre, List.getElem?_take_of_lt (by omega)]; exact h1
    have ndP : ps.Nodup := by rw [← S.pre]; exact S.nd.sublist (List.take_sublist _ _)
    refine ⟨u, rv, ?_⟩
    rcases S.par y (List.mem_of_getElem? hp) with k | k
    · exact .inl ⟨k, bindL_get ndP hp hu k⟩
    · obtain ⟨c, e⟩ := cell_has (n := s.heap.objs.size + 1) k
      refine .inr ⟨.inl k, c, e, ?_⟩
      have q := x.cell y c e
      rw [bindC_get ndP hp hu (by show scope.names.lookup y ≠ _; rw [k]; decide)] at q
      exact q
  · exact e0.hok.fresh (Nat.le_of_lt (x.above y c (PySem.mem_of_lookup h)))
  · unfold start
    show _ = N.length
    rw [List.length_append, List.length_map, List.length_replicate]
    omega
theorem fn_of {CX : CXT} {P : Program} {w : World} {K : PySem.W.Frag} {mg : Str → Option Value} {base : Heap} {k : Nat} {f : Addr} {name qual : Str} {params : Arguments} {body : List Stmt} {scope : Scope} {dV kV doc pm cdv ct oc : Value} {an od : Option Addr}
    {osl : Array (Option Value)} {N ps : List Str} {sp : Sp} (lk : K.lookup f = some ⟨oc, od, .func (PySem.W.fnOf name qual params body scope dV kV doc pm an cdv ct), osl⟩) (hcd : PySem.W.codeIn K cdv qual = true) (S : FnScope N ps scope)
    (len : ∀ vs H Q E, sp vs H Q E → vs.length = ps.length)
    (hbody : ∀ (A : Around) (outer : List Env) (s : Shared) (H : Hp) (vs : List V) (Q : VK) (E : XK), Room k (A.deeper (envOfC qual scope s.heap.objs.size f cdv)) → sp vs H Q E →
      ∃ t, PSs (cxOf CX P w K mg base N qual scope f cdv A outer s H E) body t ∧ t { nx := fun _ H' => Q .non H', rt := Q } (start N vs) H) :
    FnOk P w K mg base CX (k + 1) f (PySem.W.fnOf name qual params body scope dV kV doc pm an cdv ct) ps sp := by
  refine ⟨len, fun A outer s H args us vs Q E hr e0 hb r hsp => ?_⟩
  have hl := len _ _ _ _ hsp
  have KX : K.In s.heap := e0.mod.kin.keeps fun b o e => (e0.bs b o e).1
  have lim : s.heap.NoLimit := e0.mod.nolimit.keeps fun b o e => (e0.bs b o e).1
  have hkind : ∀ y ∈ ps.zip us, scope.names.lookup y.1 = some .local ∨ (scope.names.lookup y.1 = some .cell ∧ ((cellsFrom (s.heap.objs.size + 1) scope.names []).lookup y.1).isSome = true) := fun ⟨n, v⟩ hy => by
    rcases S.par n (List.of_mem_zip hy).1 with q | q
    · exact .inl q
    · exact .inr ⟨q, PySem.W.cellsFrom_some _ _ _ (.inl q)⟩
  refine codeAny_call_function hr.depth (KX _ _ lk) rfl S.co S.gen rfl (PySem.W.codeRec_of KX hcd) (hb _ _ _ _ ?_)
  refine wpAny_newFunctionEnv_cells S.kind hkind fun env he s1 x => ?_
  subst he
  refine ⟨lim.keeps x.toInCall.keep, codeAny_func ?_⟩
  obtain ⟨t, ht, hq⟩ := hbody A outer s H vs Q E (hr.deeper _) hsp
  have I : Inv (cxOf CX P w K mg base N qual scope f cdv A outer s H E) [] (start N vs) H s1 := inv_start S hr.hd e0 hl r x
  refine wpAny_mono (ht [] s1 (start N vs) H _ I hq) (fun fl s' hs => ?_) fun e s' hs => hs
  have fin : ∀ {σ' : St} {H' : Hp} {v : V} {u : Value}, Inv (cxOf CX P w K mg base N qual scope f cdv A outer s H E) [] σ' H' s' → RelV v u → Q v H' → CE outer P w H s Q u s' :=
    fun {σ' H' v u} J rv q => ⟨v, H', J.os, J.bare, J.base, J.hok, rv, q⟩
  cases fl with
  | ret u =>
    obtain ⟨v, σ', H', J, rv, q⟩ := hs
    exact fin J rv q
  | next =>
    obtain ⟨σ', H', J, q⟩ := hs
    exact fin (v := V.non) (u := Value.none) J rfl q
  | brk =>
    obtain ⟨_, _, _, q⟩ := hs
    exact False.elim q
  | cont =>
    obtain ⟨_, _, _, q⟩ := hs
    exact False.elim q
end L2
namespace L2
open PySem PySem.Spec PyProof.Rows
section
variable {X : Cx} {x : Str} {p pos : Pos} {e : Expr} {es : List Expr} {t : TA} {id T : String} {r : List V → Hp → VK → Prop}
def tCB (r : List V → Hp → VK → Prop) (t : TA) : TE := fun σ H Q => t σ H fun vs H1 => r vs H1 Q
theorem pe_callB (hc : CallR X (.builtin id) r) (hg : Gl X x) (hm : X.mg x = none) (hv : bootBuiltins x = some (.builtin id)) (ha : PA X (e :: es) t) (hn : x ≠ "__name__" := by decide) (hdb : (x == ("__debug__" : Str)) = false := by decide)
    (he : starEach (e :: es) X.env = (false, eval e X.env) :: starEach es X.env := by rfl) (hpl : (backTo pos (starEach es X.env)).any (·.1) = false := by rfl) : PE X (.Call (.Name x p) (e :: es) [] pos) (tCB r t) := by
  intro pins s σ H Q I h
  refine wpAny_Call_Name_kw (ld_blt I hg hm hv ?_ hn hdb)
  exact PyProof.Rows.callWith_builtin1 (thn (ha pos pins s σ H _ I h) fun us s1 ⟨vs, H1, I1, r1, q1⟩ => hc pins s1 σ H1 vs us Q I1 r1 q1) he hpl
theorem pe_callTy (hc : CallR X (.type T) r) (hg : Gl X x) (hm : X.mg x = none) (hv : bootBuiltins x = some (.type T)) (ha : PA X (e :: es) t) (hn : x ≠ "__name__" := by decide) (hdb : (x == ("__debug__" : Str)) = false := by decide)
    (he : starEach (e :: es) X.env = (false, eval e X.env) :: starEach es X.env := by rfl) (hpl : (backTo pos (starEach es X.env)).any (·.1) = false := by rfl) : PE X (.Call (.Name x p) (e :: es) [] pos) (tCB r t) := by
  intro pins s σ H Q I h
  refine wpAny_Call_Name_kw (ld_blt I hg hm hv ?_ hn hdb)
  exact PyProof.Rows.callWith_type1 (thn (ha pos pins s σ H _ I h) fun us s1 ⟨vs, H1, I1, r1, q1⟩ => hc pins s1 σ H1 vs us Q I1 r1 q1) he hpl
end
end L2
namespace HT
open PySem PyProof.Rows
def lexLt : List Int → List Int → Bool
  | [], [] => false
  | [], _ :: _ => true
  | _ :: _, [] => false
  | x :: xs, y :: ys => if x = y then lexLt xs ys else decide (x < y)
section
open PySem.SeqAt
open PySem.AutoSeq1 (wpAny_loadPart')
open PySem.MeetsSeq PySem.MeetsSeq2 PySem.MeetsSeq3
end
section
variable {prog : Program} {w : World} {A : Around} {E : Value → Shared → Prop} {s : Shared}
def sIx (n d : Nat) : Option Int → Nat
  | none => d
  | some v => if v < 0 then (v + (n : Int)).toNat else min v.toNat n
theorem sIx_nat (n d k : Nat) : sIx n d (some (k : Int)) = min k n := by
  show (if (k : Int) < 0 then ((k : Int) + (n : Int)).toNat else min (k : Int).toNat n) = min k n
  rw [if_neg (by omega), Int.toNat_natCast]
theorem sIx_le (n d : Nat) (hd : d ≤ n) (o : Option Int) : sIx n d o ≤ n := by
  cases o with
  | none => exact hd
  | some v =>
    show (if v < 0 then (v + (n : Int)).toNat else min v.toNat n) ≤ n
    by_cases hv : v < 0
    · rw [if_pos hv]; omega
    · rw [if_neg hv]; exact Nat.min_le_right _ _
theorem clip_eq (v : Int) (n d : Nat) : (if v < 0 then max (v + (n : Int)) 0 else min v (n : Int)) = ((sIx n d (some v) : Nat) : Int) := by
  show (if v < 0 then max (v + (n : Int)) 0 else min v (n : Int)) = (((if v < 0 then (v + (n : Int)).toNat else min v.toNat n) : Nat) : Int)
  by_cases hv : v < 0
  · simp only [if_pos hv]; omega
  · simp only [if_neg hv]; omega
theorem adjust_gen (lo hi : Option Int) (n : Nat) : Builtin.Slice.sliceAdjust lo hi 1 (n : Int) = (((sIx n 0 lo : Nat) : Int), ((sIx n n hi : Nat) : Int)) := by
  have h1 : ¬ ((1 : Int) < 0) := by omega
  unfold Builtin.Slice.sliceAdjust
  simp only [h1, if_false]
  refine Prod.ext ?_ ?_
  · cases lo with
    | none => rfl
    | some v => exact clip_eq v n 0
  · cases hi with
    | none => rfl
    | some v => exact clip_eq v n n
theorem places_gen (i j : Nat) : Builtin.Slice.slicePlaces (i : Int) (j : Int) 1 = j - i := by
  unfold Builtin.Slice.slicePlaces
  have h1 : (1 : Int) > 0 := by omega
  simp only [h1, if_true, Int.ediv_one]
  split <;> omega
theorem slicePart_ {v : Value} {o : Option Int} {Q : Option Int → Shared → Prop} (p : IsPart v o) (h : Q o s) : wpAny (model prog w) A (Builtin.Slice.slicePartIndex v) Q E s := by
  cases p with
  | none => exact slicePart_none h
  | int i t => exact slicePart_int h
theorem sliceApplied_gen {sl : Addr} {vl vu : Value} {lo hi : Option Int} {n : Nat} {Q : Int × Int × Nat → Shared → Prop} (hs : s.heap.IsSliceOf sl vl vu .none) (pl : IsPart vl lo) (pu : IsPart vu hi)
    (h : Q (((sIx n 0 lo : Nat) : Int), 1, sIx n n hi - sIx n 0 lo) s) : wpAny (model prog w) A (Builtin.Slice.sliceApplied (.ref sl) (pure (n : Int))) Q E s := by
  obtain ⟨os, hos, hcs, hds⟩ := id hs
  unfold Builtin.Slice.sliceApplied Builtin.Slice.sliceFields
  refine wpAny_bind (wpAny_bind (wpAny_field hos hds (x := vl) rfl (wpAny_bind (wpAny_field hos hds (x := vu) rfl (wpAny_bind (wpAny_field hos hds (x := .none) rfl (wpAny_pure ?_)))))))
  refine wpAny_bind (slicePart_none ?_)
  show wpAny _ _ (if ((1 : Int) == 0) = true then _ else _) _ _ s
  rw [if_neg (by decide)]
  refine wpAny_bind (slicePart_ pl (wpAny_bind (slicePart_ pu (wpAny_bind (wpAny_pure ?_)))))
  show wpAny _ _ (match Builtin.Slice.sliceAdjust lo hi 1 (n : Int) with | (lo, hi) => pure (lo, (1 : Int), Builtin.Slice.slicePlaces lo hi 1)) _ _ s
  rw [adjust_gen lo hi n]
  show wpAny _ _ (pure (((sIx n 0 lo : Nat) : Int), (1 : Int), Builtin.Slice.slicePlaces ((sIx n 0 lo : Nat) : Int) ((sIx n n hi : Nat) : Int) 1)) _ _ s
  rw [places_gen]
  exact wpAny_pure h
theorem pick_gen (xs : Array Value) (i k : Nat) : ((List.range k).filterMap fun (m : Nat) => xs[((i : Int) + (m : Int) * 1).toNat]?).toArray = ((xs.toList.drop i).take k).toArray := by
  have e : (fun (m : Nat) => xs[((i : Int) + (m : Int) * 1).toNat]?) = fun m => xs[i + m]? := by
    funext m
    have : ((i : Int) + (m : Int) * 1).toNat = i + m := by omega
    rw [this]
  rw [e]
  have := pick_run xs i k
  rw [List.filterMap_map] at this
  have e2 : ((fun x => xs[x]?) ∘ fun x => i + x) = fun m => xs[i + m]? := rfl
  rw [e2] at this
  rw [this]
theorem getItem_tuple_cut {t sl : Addr} {items : Array Value} {vl vu : Value} {lo hi : Option Int} {Q : Value → Shared → Prop} (ht : IsTup s.heap t items) (hs : s.heap.IsSliceOf sl vl vu .none) (pl : IsPart vl lo) (pu : IsPart vu hi)
    (hw : ¬ (sIx items.size 0 lo = 0 ∧ sIx items.size items.size hi = items.size))
    (h : Q (.ref s.heap.objs.size) { s with heap := s.heap.push { cls := .type "tuple", data := .seq ((items.toList.drop (sIx items.size 0 lo)).take (sIx items.size items.size hi - sIx items.size 0 lo)).toArray } })
    (hsz : items.size ≤ sizeLine) : wpAny (model prog w) A (getItem (.ref t) (.ref sl)) Q E s := by
  have htake : sizeOk (.seq ((items.toList.drop (sIx items.size 0 lo)).take (sIx items.size items.size hi - sIx items.size 0 lo)).toArray) := by
    show ((items.toList.drop (sIx items.size 0 lo)).take (sIx items.size items.size hi - sIx items.size 0 lo)).toArray.size ≤ sizeLine
    rw [List.size_toArray, List.length_take, List.length_drop, Array.length_toList]
    omega
  have hj : sIx items.size items.size hi ≤ items.size := sIx_le _ _ (Nat.le_refl _) hi
  obtain ⟨os, hos, hcs, hds⟩ := id hs
  have hTs : s.TypeIs (.ref sl) "slice" := ⟨os, hos, hcs⟩
  unfold getItem
  try with_reducible refine wpAny_holding ?_
  first | refine wpAny_bind (wpAny_pure ?_) | skip
  refine wpAny_bind (wpAny_sequenceKey ht.typeIs (by decide) ?_)
  refine wpAny_bind (wpAny_callSpecial?_slot (name := Str.ofString "__getitem__") ht.typeIs PyProof.Rows.slot_tuple_getitem
    (wpAny_call_entry PyProof.Rows.slot_tuple_getitem ht.typeIs entry_tuple_getitem ?_ (args_tuple_getitem _ _)))
  show wpAny _ _ (Builtin.Tuple.tupleItemsOf (.ref t) >>= _) _ _ s
  refine wpAny_bind (tupleItemsOf_ ht ?_)
  refine wpAny_bind (wpAny_typeOf hTs ?_)
  rw [if_pos (by decide)]
  refine wpAny_bind (sliceApplied_gen hs pl pu ?_)
  have hno : ¬ ((((sIx items.size 0 lo : Nat) : Int) == 0 && (1 : Int) == 1 && (sIx items.size items.size hi - sIx items.size 0 lo) == items.size) = true) := by
    intro q
    rw [Bool.and_eq_true, Bool.and_eq_true] at q
    have q1 : ((sIx items.size 0 lo : Nat) : Int) = 0 := eq_of_beq q.1.1
    have q2 : sIx items.size items.size hi - sIx items.size 0 lo = items.size := eq_of_beq q.2
    exact hw ⟨by omega, by omega⟩
  show wpAny _ _ (if (((sIx items.size 0 lo : Nat) : Int) == 0 && (1 : Int) == 1 && (sIx items.size items.size hi - sIx items.size 0 lo) == items.size) = true then _ else _) _ _ s
  rw [if_neg hno, pick_gen]
  first
    | exact wpAny_bind (m := Builtin.Tuple.tupleExact _) (wpAny_newObj_type (wpAny_pure ⟨_, rfl, wpAny_pure h⟩) htake)
    | exact wpAny_bind (m := Builtin.Tuple.tupleExact _) (wpAny_newObj_type (wpAny_bind (wpAny_pure (wpAny_pure ⟨_, rfl, wpAny_pure h⟩))) htake)
    | exact wpAny_bind (wpAny_bind (m := Builtin.Tuple.tupleExact _) (wpAny_newObj_type (wpAny_pure (wpAny_pure ⟨_, rfl, wpAny_pure h⟩)) htake))
    | exact wpAny_bind (wpAny_bind (m := Builtin.Tuple.tupleExact _) (wpAny_newObj_type (wpAny_pure ⟨_, rfl, wpAny_pure h⟩) htake))
end
end HT
namespace L2
open PySem PySem.Spec PyProof.Rows
abbrev TO := St → Hp → (Option Int → Hp → Prop) → Prop
def PO (X : Cx) (e : Option Expr) (t : TO) : Prop :=
  ∀ (pins : List (Addr × Obj)) (s : Shared) (σ : St) (H : Hp) (Q : Option Int → Hp → Prop), Inv X pins σ H s → t σ H Q →
    wpAny (model X.prog X.w) X.A (evalPart e X.env) (fun u s' => ∃ o H', Inv X pins σ H' s' ∧ IsPart u o ∧ Q o H') X.xe s
def tNoPart : TO := fun _ H Q => Q none H
def tPart (t : TE) : TO := fun σ H Q => t σ H fun x H1 => ∃ i, x = .int i ∧ Q (some i) H1
section
variable {X : Cx} {e : Expr} {te : TE} {lo hi : Option Expr} {tl th : TO} {pos p2 : Pos}
theorem po_none : PO X none tNoPart := by
  intro pins s σ H Q I h
  rw [evalPart_none]
  exact wpAny_pure ⟨none, H, I, .none, h⟩
theorem po_some (h : PE X e te) : PO X (some e) (tPart te) := by
  intro pins s σ H Q I hw
  rw [evalPart_some]
  refine thn (h pins s σ H _ I hw) fun u s1 ⟨x, H1, I1, r1, q1⟩ => ?_
  obtain ⟨i, rfl, q⟩ := q1
  obtain ⟨t, rfl⟩ := r1
  exact ⟨some i, H1, I1, .int i t, q⟩
def SlR (X : Cx) (r : V → Option Int → Option Int → Hp → VK → Prop) : Prop :=
  ∀ (pins : List (Addr × Obj)) (s : Shared) (σ : St) (H : Hp) (x : V) (v vl vu : Value) (lo hi : Option Int) (sl : Addr) (Q : VK), Inv X pins σ H s → RelV x v → s.heap.IsSliceOf sl vl vu .none → IsPart vl lo → IsPart vu hi → r x lo hi H Q →
    ∃ T id, typeLookup (.type T) "__getitem__" = pure (some (.builtin id)) ∧ s.TypeIs v T ∧ wpAny (model X.prog X.w) X.A (getItem v (.ref sl)) (EP X pins σ Q) X.xe s
def tSl (r : V → Option Int → Option Int → Hp → VK → Prop) (te : TE) (tl th : TO) : TE := fun σ H Q => te σ H fun x H1 => tl σ H1 fun l H2 => th σ H2 fun u H3 => r x l u H3 Q
theorem pe_slice {r : V → Option Int → Option Int → Hp → VK → Prop} (hr : SlR X r) (he : PE X e te) (hl : PO X lo tl) (hu : PO X hi th) : PE X (.Subscript e (.Slice lo hi none p2) pos) (tSl r te tl th) := by
  intro pins s σ H Q I h
  refine Subscript_ (thn (he pins s σ H _ I h) fun v s1 ⟨x, H1, I1, r1, q1⟩ => ?_)
  refine wpAny_Slice (thn (hl pins s1 σ H1 _ I1 q1) fun vl s2 ⟨l, H2, I2, pl, q2⟩ => thn (hu pins s2 σ H2 _ I2 q2) fun vu s3 ⟨u, H3, I3, pu, q3⟩ => ?_)
  rw [evalPart_none]
  refine wpAny_pure ?_
  have I4 : Inv X pins σ H3 { s3 with heap := s3.heap.push { cls := .type "slice", data := .fields #[vl, vu, .none] } } := I3.kept (t' := s3.toks) fun b ob q => Heap.get?_push_of_some _ q
  obtain ⟨T, id, hT, ht, hg⟩ := hr pins { s3 with heap := s3.heap.push { cls := .type "slice", data := .fields #[vl, vu, .none] } } σ H3 x v vl vu l u s3.heap.objs.size Q I4 r1 (Heap.IsSliceOf.new ..) pl pu q3
  show wpAny (model X.prog X.w) X.A (subscriptTail e (.Slice lo hi none p2) v (.ref s3.heap.objs.size)) (EP X pins σ Q) X.xe { s3 with heap := s3.heap.push { cls := .type "slice", data := .fields #[vl, vu, .none] } }
  exact tail_any (ops := [.ref s3.heap.objs.size, v]) ht hT hg (by with_unfolding_all rfl)
def cutV (xs : List V) (lo hi : Option Int) : List V := (xs.drop (HT.sIx xs.length 0 lo)).take (HT.sIx xs.length xs.length hi - HT.sIx xs.length 0 lo)
theorem cutV_length (xs : List V) (lo hi : Option Int) : (cutV xs lo hi).length ≤ xs.length := by
  unfold cutV
  rw [List.length_take, List.length_drop]
  omega
def rSlT (K : PySem.W.Frag) : V → Option Int → Option Int → Hp → VK → Prop := fun x lo hi H Q => ∃ a xs, x = .ref a ∧ SqT K H a xs ∧
  ¬ (HT.sIx xs.length 0 lo = 0 ∧ HT.sIx xs.length xs.length hi = xs.length) ∧ ∀ p, H p = none → Q (.ref p) (upd H p (.tup (cutV xs lo hi)))
theorem sl_tup : SlR X (rSlT X.K) := by
  intro pins s σ H x v vl vu lo hi sl Q I rx hs pl pu h
  obtain ⟨a, xs, rfl, hx, hw, q⟩ := h
  cases rx
  obtain ⟨its, r, ht, hz⟩ := I.tuple hx
  have hlen : its.toArray.size = xs.length := by rw [List.size_toArray]; exact r.length.symm
  refine ⟨"tuple", _, PyProof.Rows.slot_tuple_getitem.lookup, ht.typeIs, ?_⟩
  refine HT.getItem_tuple_cut ht hs pl pu (by rw [hlen]; exact hw) ?_ (by rw [hlen]; exact hz)
  rw [hlen]
  refine ⟨.ref s.heap.objs.size, _, I.laid (t' := s.toks) (o := .tup (cutV xs lo hi)) (fun b ob q => Heap.get?_push_of_some _ q) (Nat.le_refl _) ?_, rfl, q _ (I.hok.fresh (Nat.le_refl _))⟩
  exact ⟨Nat.le_trans (cutV_length xs lo hi) hz, _, (r.drop (HT.sIx xs.length 0 lo)).take (HT.sIx xs.length xs.length hi - HT.sIx xs.length 0 lo), IsTup.new _ _⟩
def rLtT (K : PySem.W.Frag) : R2 := fun x y H Q => ∃ a b ns ms, x = .ref a ∧ y = .ref b ∧ SqT K H a (ns.map V.int) ∧ SqT K H b (ms.map V.int) ∧ Q (.bl (HT.lexLt ns ms)) H
def rCatT (K : PySem.W.Frag) : R2 := fun x y H Q => ∃ a b xs ys, x = .ref a ∧ y = .ref b ∧ SqT K H a xs ∧ SqT K H b ys ∧ xs ≠ [] ∧ xs.length + ys.length ≤ sizeLine ∧
  (ys = [] → Q (.ref a) H) ∧ (ys ≠ [] → ∀ p, H p = none → Q (.ref p) (upd H p (.tup (xs ++ ys))))
end
end L2
namespace L2
open PySem PySem.Spec PyProof.Rows
def ixN (n : Nat) (i : Int) : Option Nat := if 0 ≤ i then (if i < n then some i.toNat else none) else if -(n : Int) ≤ i then some (i + n).toNat else none
def atI {α : Type} (xs : List α) (i : Int) : Option α := (ixN xs.length i).bind fun j => xs[j]?
theorem ixN_seq {n : Nat} {i : Int} {j : Nat} (h : ixN n i = some j) : seqIndex? i n = some j ∧ j < n ∧ -(n : Int) ≤ i ∧ i < n := by
  unfold ixN at h
  by_cases h0 : 0 ≤ i
  · rw [if_pos h0] at h
    by_cases h1 : i < n
    · rw [if_pos h1] at h
      have e : i.toNat = j := Option.some.inj h
      exact ⟨by rw [seqIndex_of h0 h1, e], by omega, by omega, h1⟩
    · rw [if_neg h1] at h; cases h
  · rw [if_neg h0] at h
    by_cases h1 : -(n : Int) ≤ i
    · rw [if_pos h1] at h
      have e : (i + n).toNat = j := Option.some.inj h
      exact ⟨by rw [seqIndex_neg (by omega) h1, e], by omega, h1, by omega⟩
    · rw [if_neg h1] at h; cases h
theorem atI_get {α : Type} {xs : List α} {i : Int} {v : α} (h : atI xs i = some v) : ∃ j, seqIndex? i xs.length = some j ∧ xs[j]? = some v ∧ j < xs.length ∧ -(xs.length : Int) ≤ i ∧ i < xs.length := by
  unfold atI at h
  cases e : ixN xs.length i with
  | none => rw [e] at h; cases h
  | some j =>
    rw [e] at h
    obtain ⟨h1, h2, h3, h4⟩ := ixN_seq e
    exact ⟨j, h1, h, h2, h3, h4⟩
theorem atI_nat {α : Type} {xs : List α} {j : Nat} {v : α} (h : xs[j]? = some v) : atI xs (j : Int) = some v := by
  have hj : j < xs.length := (List.getElem?_eq_some_iff.mp h).1
  have e : ixN xs.length (j : Int) = some j := by
    unfold ixN
    rw [if_pos (by omega), if_pos (by omega)]; simp
  unfold atI; rw [e]; exact h
def PlainIx (b : Expr) : Prop := ∀ o i, subscripted b false o i = operate [o, i] (getItem o i)
def IxR (X : Cx) (r : R2) : Prop :=
  ∀ (value slice : Expr) (pins : List (Addr × Obj)) (s : Shared) (σ : St) (H : Hp) (x y : V) (v u : Value) (Q : VK), Inv X pins σ H s → RelV x v → RelV y u → r x y H Q →
    subscripted slice false v u = operate [v, u] (getItem v u) → wpAny (model X.prog X.w) X.A (subscriptTail value slice v u) (EP X pins σ Q) X.xe s
def MtR (X : Cx) (id : String) (r : V → List V → Hp → VK → Prop) : Prop :=
  ∀ (pins : List (Addr × Obj)) (s : Shared) (σ : St) (H : Hp) (x : V) (xs : List V) (v : Value) (us : List Value) (Q : VK), Inv X pins σ H s → RelV x v → Vals xs us → r x xs H Q →
    wpAny (model X.prog X.w) X.A (call (.builtin id) (v :: us)) (EP X pins σ Q) X.xe s
section
variable {X : Cx} {a b : Expr} {ta tb : TE} {pos : Pos}
theorem pe_ix {r : R2} (hr : IxR X r) (ha : PE X a ta) (hb : PE X b tb) (hs : PlainIx b) : PE X (.Subscript a b pos) (tOp r ta tb) := by
  intro pins s σ H Q I h
  exact Subscript_ (binT ha hb I h fun v u s2 x y H2 I2 rx ry q => hr a b pins s2 σ H2 x y v u Q I2 rx ry q (hs _ _))
def rIxL (K : PySem.W.Frag) : R2 := fun x y H Q => ∃ p xs i v, x = .ref p ∧ y = .int i ∧ SqL K H p xs ∧ atI xs i = some v ∧ Q v H
def rIxT (K : PySem.W.Frag) : R2 := fun x y H Q => ∃ p xs i v, x = .ref p ∧ y = .int i ∧ SqT K H p xs ∧ atI xs i = some v ∧ Q v H
def rIxS : R2 := fun x y H Q => ∃ z i c, x = .str z ∧ y = .int i ∧ z.length ≤ sizeLine ∧ atI z.cps.toList i = some c ∧ Q (.str ⟨#[c]⟩) H
theorem ix_list : IxR X (rIxL X.K) := by
  intro value slice pins s σ H x y v u Q I rx ry h hs
  obtain ⟨p, xs, i, z, rfl, rfl, hq, he, q⟩ := h
  cases rx
  obtain ⟨t, rfl⟩ := ry
  obtain ⟨its, r, pl, hz⟩ := I.list hq
  obtain ⟨j, h1, h2, h3, h4, h5⟩ := atI_get he
  obtain ⟨w, ew, rw'⟩ := r.get h2
  have hl := r.length
  have hn := line63
  have fin : EP X pins σ Q w s := ⟨z, H, I, rw', q⟩
  by_cases h0 : 0 ≤ i
  · have hj : i.toNat = j := by
      rw [seqIndex_of h0 h5] at h1
      exact Option.some.inj h1
    exact item_listR pl.isList h0 (by omega) (by rw [hj]; simpa using ew) fin hs
  · have hj : (i + (its.toArray.size : Int)).toNat = j := by
      rw [seqIndex_neg (by omega) h4] at h1
      rw [List.size_toArray, ← hl]
      exact Option.some.inj h1
    exact subscriptTail_builtinR (x := w) pl.isList.typeIs slot_list_getitem.lookup
      (wpAny_getItem_list_neg (Q := fun r s' => r = w ∧ EP X pins σ Q r s') pl.isList (by omega) (by rw [List.size_toArray] <;> omega) (by omega) (by rw [hj]; simpa using ew) ⟨rfl, fin⟩) hs
theorem ix_tup : IxR X (rIxT X.K) := by
  intro value slice pins s σ H x y v u Q I rx ry h hs
  obtain ⟨p, xs, i, z, rfl, rfl, hq, he, q⟩ := h
  cases rx
  obtain ⟨t, rfl⟩ := ry
  obtain ⟨its, r, pl, hz⟩ := I.tuple hq
  obtain ⟨j, h1, h2, h3, h4, h5⟩ := atI_get he
  obtain ⟨w, ew, rw'⟩ := r.get h2
  have hl := r.length
  have hn := line63
  have fin : EP X pins σ Q w s := ⟨z, H, I, rw', q⟩
  exact subscriptTail_builtinR (x := w) pl.typeIs slot_tuple_getitem.lookup
    (getItem_tuple (j := j) (Q := fun r s' => r = w ∧ EP X pins σ Q r s') pl (by omega) (by omega) (by rw [List.size_toArray, ← hl]; exact h1) (by simpa using ew) ⟨rfl, fin⟩) hs
def rIx (K : PySem.W.Frag) : R2 := fun x y H Q => rIxL K x y H Q ∨ rIxT K x y H Q ∨ rIxS x y H Q
theorem mapSeq_set (its : List Value) (n j : Nat) (u : Value) : Obj.mapSeq (·.setIfInBounds j u) { cls := .type "list", data := .seq its.toArray n } = { cls := .type "list", data := .seq (its.set j u).toArray n } := by
  simp [Obj.mapSeq]
theorem Inv.lst {pins : List (Addr × Obj)} {σ : St} {H : Hp} {s : Shared} {p : Addr} {xs : List V} (I : Inv X pins σ H s) (h : H p = some (.lst xs)) :
    ∃ (its : List Value) (n : Nat), Vals xs its ∧ s.heap.get? p = some { cls := .type "list", data := .seq its.toArray n } ∧ xs.length ≤ sizeLine := by
  obtain ⟨z, its, n, r, e⟩ := I.hok p _ h
  exact ⟨its, n, r, e, z⟩
theorem Inv.lstUpd {pins : List (Addr × Obj)} {σ : St} {H : Hp} {s : Shared} {p : Addr} {xs ys : List V} {its its' : List Value} {n n' : Nat} {f : Obj → Obj} (I : Inv X pins σ H s) (h : H p = some (.lst xs))
    (ho : s.heap.get? p = some { cls := .type "list", data := .seq its.toArray n }) (hf : f { cls := .type "list", data := .seq its.toArray n } = { cls := .type "list", data := .seq its'.toArray n' }) (r : Vals ys its') (hz : ys.length ≤ sizeLine) (t : Nat) :
    Inv X pins σ (upd H p (.lst ys)) { s with heap := s.heap.update p f, toks := t } := by
  have e : (s.heap.update p f).get? p = some { cls := .type "list", data := .seq its'.toArray n' } := by
    rw [Heap.get?_update_self f ho (by rw [hf] <;> rfl), hf]
  refine I.write (x := p) (e := p) (by rw [h]; trivial) (.inl rfl) (fun b u hb q => (Heap.get?_update_other _ _ (Ne.symm hb)).trans q) ⟨_, e⟩ ?_
  exact ⟨hz, its', n', r, e⟩
def rSetL : V → V → V → Hp → (Hp → Prop) → Prop := fun o i v H Q => ∃ p xs k j, o = .ref p ∧ i = .int k ∧ H p = some (.lst xs) ∧ ixN xs.length k = some j ∧ Q (upd H p (.lst (xs.set j v)))
theorem set_list : PSet X rSetL := by
  intro pins s σ H o i v ov iv u Q I ro ri rv h
  obtain ⟨p, xs, k, j, rfl, rfl, hp, hj, q⟩ := h
  cases ro
  obtain ⟨t, rfl⟩ := ri
  obtain ⟨its, n, r, ho, hz⟩ := I.lst hp
  obtain ⟨h1, h2, h3, h4⟩ := ixN_seq hj
  have hl := r.length
  have hn := line63
  have I' : Inv X pins σ (upd H p (.lst (xs.set j v))) { s with heap := s.heap.update p (Obj.mapSeq (·.setIfInBounds j u)) } :=
    I.lstUpd hp ho (mapSeq_set its n j u) (r.set rv j) (by rw [List.length_set]; exact hz) s.toks
  by_cases h0 : 0 ≤ k
  · have hk : k.toNat = j := by
      rw [seqIndex_of h0 h4] at h1
      exact Option.some.inj h1
    exact PySem.W.ki_setAt ho h0 (by omega) (by rw [List.size_toArray, ← hl]; exact h4) (by rw [hk]; exact ⟨_, I', q⟩)
  · have hk : (k + (its.toArray.size : Int)).toNat = j := by
      rw [seqIndex_neg (by omega) h3] at h1
      rw [List.size_toArray, ← hl]
      exact Option.some.inj h1
    exact PySem.W.ki_setBack ho (by omega) (by rw [List.size_toArray, ← hl]; exact h3) (by omega) (by rw [hk]; exact ⟨_, I', q⟩)
theorem slice_bounds (lo hi : Option Int) (n : Nat) : (sliceBounds lo hi none n).1 = ((HT.sIx n 0 lo : Nat) : Int) ∧ (sliceBounds lo hi none n).2.1 = ((HT.sIx n n hi : Nat) : Int) ∧ (sliceBounds lo hi none n).2.2 = 1 := by
  refine ⟨?_, ?_, rfl⟩
  · cases lo with
    | none => simp [sliceBounds, HT.sIx]
    | some i =>
      simp only [sliceBounds, HT.sIx, Option.getD_none, show (1 : Int) > 0 by decide, if_true]
      by_cases h : i < 0
      · simp only [h, if_true] <;> omega
      · simp only [h, if_false] <;> omega
  · cases hi with
    | none => simp [sliceBounds, HT.sIx]
    | some i =>
      simp only [sliceBounds, HT.sIx, Option.getD_none, show (1 : Int) > 0 by decide, if_true]
      by_cases h : i < 0
      · simp only [h, if_true] <;> omega
      · simp only [h, if_false] <;> omega
theorem slicePick_cut (its : List Value) (lo hi : Option Int) : slicePick its.toArray lo hi none = ((its.drop (HT.sIx its.length 0 lo)).take (HT.sIx its.length its.length hi - HT.sIx its.length 0 lo)).toArray := by
  obtain ⟨h1, h2, h3⟩ := slice_bounds lo hi its.toArray.size
  unfold slicePick
  rw [h1, h2, h3]
  simp only [sliceRange_one, pick_run, List.size_toArray] <;> rfl
def rSlL (K : PySem.W.Frag) : V → Option Int → Option Int → Hp → VK → Prop := fun x lo hi H Q => ∃ a xs, x = .ref a ∧ SqL K H a xs ∧ ∀ p, H p = none → Q (.ref p) (upd H p (.lst (cutV xs lo hi)))
theorem sl_list : SlR X (rSlL X.K) := by
  intro pins s σ H x v vl vu lo hi sl Q I rx hs pl pu h
  obtain ⟨a, xs, rfl, hx, q⟩ := h
  cases rx
  obtain ⟨its, r, ht, hz⟩ := I.list hx
  have hlen := r.length
  refine ⟨"list", _, slot_list_getitem.lookup, ht.isList.typeIs, ?_⟩
  refine wpAny_getItem_list_slice ht.isList hs pl pu .none (by simp) ?_ (by rw [List.size_toArray] <;> omega)
  rw [slicePick_cut, ← hlen]
  refine ⟨.ref s.heap.objs.size, _, I.laid (t' := s.toks) (o := .lst (cutV xs lo hi)) (fun b ob q => Heap.get?_push_of_some _ q) (Nat.le_refl _) ?_, rfl, q _ (I.hok.fresh (Nat.le_refl _))⟩
  exact ⟨Nat.le_trans (cutV_length xs lo hi) hz, _, 0, (r.drop (HT.sIx xs.length 0 lo)).take (HT.sIx xs.length xs.length hi - HT.sIx xs.length 0 lo), Heap.get?_push_size _ rfl⟩
def flatV : V → Bool
  | .non => true
  | .bl _ => true
  | .int _ => true
  | .str _ => true
  | _ => false
def eqV : V → V → Bool
  | .non, .non => true
  | .bl a, .bl b => a == b
  | .bl a, .int b => (if a then 1 else 0) == b
  | .int a, .bl b => a == (if b then 1 else 0)
  | .int a, .int b => a == b
  | .str a, .str b => a == b
  | _, _ => false
theorem eqAt_V {A : Around} {s : Shared} {y x : V} {u v : Value} (ry : RelV y u) (rx : RelV x v) (fy : flatV y = true) (fx : flatV x = true) : SeqAt.EqAt A s u v (eqV y x) := by
  cases y with
  | non =>
    cases ry
    cases x with
    | non => cases rx; exact SeqAt.EqAt.same _
    | bl b => cases rx; exact SeqAt.EqAt.none_bool b
    | int b => obtain ⟨t, rfl⟩ := rx; exact SeqAt.EqAt.none_int b t
    | str b => obtain ⟨t, rfl⟩ := rx; exact SeqAt.EqAt.none_str b t
    | _ => exact absurd (show false = true from fx) Bool.false_ne_true
  | bl a =>
    cases ry
    cases x with
    | non => cases rx; exact SeqAt.EqAt.bool_none a
    | bl b => cases rx; exact SeqAt.EqAt.bool_bool a b
    | int b => obtain ⟨t, rfl⟩ := rx; exact SeqAt.EqAt.bool_int a b t
    | str b => obtain ⟨t, rfl⟩ := rx; exact SeqAt.EqAt.bool_str a b t
    | _ => exact absurd (show false = true from fx) Bool.false_ne_true
  | int a =>
    obtain ⟨t', rfl⟩ := ry
    cases x with
    | non => cases rx; exact SeqAt.EqAt.int_none a t'
    | bl b => cases rx; exact SeqAt.EqAt.int_bool a t' b
    | int b => obtain ⟨t, rfl⟩ := rx; exact SeqAt.EqAt.int_int a t' b t
    | str b => obtain ⟨t, rfl⟩ := rx; exact SeqAt.EqAt.int_str a t' b t
    | _ => exact absurd (show false = true from fx) Bool.false_ne_true
  | str a =>
    obtain ⟨t', rfl⟩ := ry
    cases x with
    | non => cases rx; exact SeqAt.EqAt.str_none a t'
    | bl b => cases rx; exact SeqAt.EqAt.str_bool a t' b
    | int b => obtain ⟨t, rfl⟩ := rx; exact SeqAt.EqAt.str_int a t' b t
    | str b => obtain ⟨t, rfl⟩ := rx; exact SeqAt.EqAt.str_str a t' b t
    | _ => exact absurd (show false = true from fx) Bool.false_ne_true
  | _ => exact absurd (show false = true from fy) Bool.false_ne_true
def eqU (x : V) (u : Value) : Bool := match u with
  | .none => eqV .non x
  | .bool b => eqV (.bl b) x
  | .int i _ => eqV (.int i) x
  | .str z _ => eqV (.str z) x
  | _ => false
theorem eqU_of {x y : V} {u : Value} (r : RelV y u) (f : flatV y = true) : eqU x u = eqV y x := by
  cases y with
  | non => cases r; rfl
  | bl b => cases r; rfl
  | int i => obtain ⟨t, rfl⟩ := r; rfl
  | str z => obtain ⟨t, rfl⟩ := r; rfl
  | _ => exact absurd (show false = true from f) Bool.false_ne_true
theorem any_eqU {x : V} : ∀ {xs : List V} {us : List Value}, Vals xs us → xs.all flatV = true → us.any (eqU x) = xs.any fun y => eqV y x
  | _, _, .nil, _ => rfl
  | y :: xs, u :: us, .cons r t, f => by
    rw [List.all_cons, Bool.and_eq_true] at f
    rw [List.any_cons, List.any_cons, eqU_of r f.1, any_eqU t f.2]
theorem mem_eqAt {A : Around} {s : Shared} {x : V} {v : Value} (rx : RelV x v) (fx : flatV x = true) : ∀ {xs : List V} {us : List Value}, Vals xs us → xs.all flatV = true → ∀ u ∈ us, SeqAt.EqAt A s u v (eqU x u)
  | _, _, .nil, _ => fun u hu => by cases hu
  | y :: xs, u :: us, .cons r t, f => fun u' hu => by
    rw [List.all_cons, Bool.and_eq_true] at f
    rcases List.mem_cons.mp hu with rfl | hu
    · rw [eqU_of r f.1]; exact eqAt_V r rx f.1 fx
    · exact mem_eqAt rx fx t f.2 u' hu
def inV (x : V) (xs : List V) : Bool := xs.any fun y => eqV y x
def rIn (K : PySem.W.Frag) (neg : Bool) : R2 := fun x y H Q => ∃ p xs, y = .ref p ∧ (SqL K H p xs ∨ SqT K H p xs) ∧ flatV x = true ∧ xs.all flatV = true ∧ Q (.bl (if neg then !inV x xs else inV x xs)) H
theorem op_in_seq : OpR X (compareOp .In) (rIn X.K false) := by
  intro pins s σ H x y v u Q I rx ry h
  obtain ⟨p, xs, rfl, hq, fx, fs, q⟩ := h
  cases ry
  rcases hq with hq | hq
  · obtain ⟨its, r, pl, hz⟩ := I.list hq
    refine SeqAt.in_listAt (eqU x) pl.isList (fun w hw => mem_eqAt rx fx r fs w (by simpa using hw)) ⟨.bl _, H, I, rfl, ?_⟩
    rw [show its.toArray.any (eqU x) = its.any (eqU x) by simp, any_eqU r fs]
    exact q
  · obtain ⟨its, r, pl, hz⟩ := I.tuple hq
    refine SeqAt.in_tupleAt (eqU x) pl (fun w hw => mem_eqAt rx fx r fs w (by simpa using hw)) ⟨.bl _, H, I, rfl, ?_⟩
    rw [show its.toArray.any (eqU x) = its.any (eqU x) by simp, any_eqU r fs]
    exact q
theorem op_notIn_seq : OpR X (compareOp .NotIn) (rIn X.K true) := by
  intro pins s σ H x y v u Q I rx ry h
  obtain ⟨p, xs, rfl, hq, fx, fs, q⟩ := h
  cases ry
  rcases hq with hq | hq
  · obtain ⟨its, r, pl, hz⟩ := I.list hq
    refine SeqAt.notIn_listAt (eqU x) pl.isList (fun w hw => mem_eqAt rx fx r fs w (by simpa using hw)) ⟨.bl _, H, I, rfl, ?_⟩
    rw [show its.toArray.any (eqU x) = its.any (eqU x) by simp, any_eqU r fs]
    exact q
  · obtain ⟨its, r, pl, hz⟩ := I.tuple hq
    refine SeqAt.notIn_tupleAt (eqU x) pl (fun w hw => mem_eqAt rx fx r fs w (by simpa using hw)) ⟨.bl _, H, I, rfl, ?_⟩
    rw [show its.toArray.any (eqU x) = its.any (eqU x) by simp, any_eqU r fs]
    exact q
theorem call_len_seq : CallR X (.builtin "len") (fun xs H Q => ∃ p ys, xs = [.ref p] ∧ (SqL X.K H p ys ∨ SqT X.K H p ys) ∧ Q (.int ys.length) H) := by
  intro pins s σ H xs us Q I r h
  obtain ⟨p, ys, rfl, hq, q⟩ := h
  obtain ⟨u, rfl, rx⟩ := vals1 r
  cases rx
  have hn := line63
  rcases hq with hq | hq
  · obtain ⟨its, r', pl, hz⟩ := I.list hq
    have hlen := r'.length
    exact Calls.call_len_list pl.isList (by simp only [List.size_toArray] <;> omega) ⟨.int ys.length, H, I.tok _, ⟨s.toks + 1, by rw [List.size_toArray, hlen]⟩, q⟩
  · obtain ⟨its, r', pl, hz⟩ := I.tuple hq
    have hlen := r'.length
    exact len_tuple pl (by simp only [List.size_toArray] <;> omega) ⟨.int ys.length, H, I.tok _, ⟨s.toks + 1, by rw [List.size_toArray, hlen]⟩, q⟩
theorem call_list_of : CallR X (.type "list") (fun xs H Q => ∃ p ys, xs = [.ref p] ∧ (SqL X.K H p ys ∨ SqT X.K H p ys) ∧ ∀ l, H l = none → Q (.ref l) (upd H l (.lst ys))) := by
  intro pins s σ H xs us Q I r h
  obtain ⟨p, ys, rfl, hq, q⟩ := h
  obtain ⟨u, rfl, rx⟩ := vals1 r
  cases rx
  have fin : ∀ (its : List Value), Vals ys its → ys.length ≤ sizeLine → ∀ (h' : Heap) (c' : Nat), (∀ b o', s.heap.get? b = some o' → h'.get? b = some o') →
      h'.get? s.heap.objs.size = some { cls := .type "list", dict := none, data := .seq its.toArray c', slots := #[] } → EP X pins σ Q (.ref s.heap.objs.size) { s with heap := h' } := fun its r' hz h' c' kp e =>
    ⟨.ref s.heap.objs.size, _, I.laid (t' := s.toks) kp (Nat.le_refl _) (show ObjOk X.prog X.w _ h' _ (.lst ys) from ⟨hz, its, c', r', e⟩), rfl, q _ (I.hok.fresh (Nat.le_refl _))⟩
  rcases hq with hq | hq
  · obtain ⟨its, r', pl, hz⟩ := I.list hq
    have hlen := r'.length
    obtain ⟨o, ho, hc, n, hd⟩ := pl.isList
    exact call_list_seq p (.inl rfl) ho hc hd (fun h' c' kp e => fin its r' hz h' c' kp e) (by simp only [List.size_toArray] <;> omega)
  · obtain ⟨its, r', pl, hz⟩ := I.tuple hq
    have hlen := r'.length
    obtain ⟨o, ho, hc, n, hd⟩ := pl
    exact call_list_seq p (.inr rfl) ho hc hd (fun h' c' kp e => fin its r' hz h' c' kp e) (by simp only [List.size_toArray] <;> omega)
theorem call_tuple_of : CallR X (.type "tuple") (fun xs H Q => ∃ p ys, xs = [.ref p] ∧ ((SqL X.K H p ys ∧ ∀ l, H l = none → Q (.ref l) (upd H l (.tup ys))) ∨ (SqT X.K H p ys ∧ Q (.ref p) H))) := by
  intro pins s σ H xs us Q I r h
  obtain ⟨p, ys, rfl, h⟩ := h
  obtain ⟨u, rfl, rx⟩ := vals1 r
  cases rx
  rcases h with ⟨hq, q⟩ | ⟨hq, q⟩
  · obtain ⟨its, r', pl, hz⟩ := I.list hq
    have hlen := r'.length
    refine call_tuple_list pl.isList (fun h' kp => ?_) (by simp only [List.size_toArray] <;> omega)
    have I1 : Inv X pins σ H { s with heap := h' } := I.kept (t' := s.toks) kp
    have I2 : Inv X pins σ (upd H h'.objs.size (.tup ys)) { s with heap := h'.push { cls := .type "tuple", data := .seq its.toArray } } :=
      I1.laid (t' := s.toks) (fun b o e => Heap.get?_push_of_some _ e) (Nat.le_refl _) (show ObjOk X.prog X.w _ _ _ (.tup ys) from ⟨hz, its, r', IsTup.new _ _⟩)
    exact ⟨.ref h'.objs.size, _, I2, rfl, q _ (I1.hok.fresh (Nat.le_refl _))⟩
  · obtain ⟨its, r', pl, hz⟩ := I.tuple hq
    exact call_tuple_same pl ⟨.ref p, H, I, rfl, q⟩
def tyV (K : PySem.W.Frag) (T : String) (x : V) (H : Hp) : Prop := match x with
  | .str _ => T = "str"
  | .int _ => T = "int"
  | .ref p => (T = "list" ∧ ∃ xs, SqL K H p xs) ∨ (T = "tuple" ∧ ∃ o, K.lookup p = some o ∧ o.cls = .type "tuple" ∧ o.dict = none) ∨
      (T = "dict" ∧ ((∃ kvs, H p = some (.dK kvs)) ∨ ∃ kvs, H p = some (.dT kvs))) ∨ (T = "set" ∧ ∃ S n, H p = some (.set S n))
  | _ => False
theorem tyV_is {pins : List (Addr × Obj)} {σ : St} {H : Hp} {s : Shared} {T : String} {x : V} {v : Value} (I : Inv X pins σ H s) (r : RelV x v) (ty : tyV X.K T x H) :
    s.TypeIs v T ∧ ∀ a, v = .ref a → ∃ ob, s.heap.get? a = some ob ∧ ob.dict = none := by
  cases x with
  | str z =>
    obtain ⟨t, rfl⟩ := r
    cases (show T = "str" from ty)
    exact ⟨typeIs_str s z t, fun _ e => nomatch e⟩
  | int i =>
    obtain ⟨t, rfl⟩ := r
    cases (show T = "int" from ty)
    exact ⟨typeIs_int s i t, fun _ e => nomatch e⟩
  | ref p =>
    cases r
    rcases ty with ⟨rfl, xs, hq⟩ | ⟨rfl, o, hk, hc, hd⟩ | ⟨rfl, hk⟩ | ⟨rfl, S, n, hk⟩
    · obtain ⟨its, _, pl, _⟩ := I.list hq
      refine ⟨pl.isList.typeIs, fun a e => ?_⟩
      cases e
      obtain ⟨o, n, e, c, hd, _⟩ := pl
      exact ⟨o, e, hd⟩
    · refine ⟨⟨o, I.kIn p o hk, hc⟩, fun a e => ?_⟩
      cases e
      exact ⟨o, I.kIn _ o hk, hd⟩
    · have z : ∃ o, s.heap.get? p = some o ∧ o.ExactDict := by
        rcases hk with ⟨kvs, hk⟩ | ⟨kvs, hk⟩
        · obtain ⟨_, _, _, _, o, _, _, e, ex, _⟩ := I.hok p _ hk
          exact ⟨o, e, ex⟩
        · obtain ⟨_, _, _, _, o, _, _, e, ex, _⟩ := I.hok p _ hk
          exact ⟨o, e, ex⟩
      obtain ⟨o, e, ex⟩ := z
      refine ⟨⟨o, e, ex.1⟩, fun a e2 => ?_⟩
      cases e2
      exact ⟨o, e, ex.2.1⟩
    · obtain ⟨o, _, _, _, e, ex, _⟩ := I.hok p _ hk
      refine ⟨⟨o, e, ex.1⟩, fun a e2 => ?_⟩
      cases e2
      exact ⟨o, e, ex.2.1⟩
  | _ => exact False.elim ty
def tBM0 (K : PySem.W.Frag) (T : String) (r : V → List V → Hp → VK → Prop) (to : TE) : TE := fun σ H Q => to σ H fun x H1 => tyV K T x H1 ∧ r x [] H1 Q
def tBM (K : PySem.W.Frag) (T : String) (r : V → List V → Hp → VK → Prop) (to : TE) (t : TA) : TE := fun σ H Q => to σ H fun x H1 => tyV K T x H1 ∧ t σ H1 fun xs H2 => r x xs H2 Q
variable {o e : Expr} {es : List Expr} {to : TE} {t : TA} {name : Str} {apos cpos : Pos} {T id : String} {r : V → List V → Hp → VK → Prop}
theorem pe_bm (pa : PlainAttrs T) (slot : Slot T name id) (hty : typeOf (.builtin id) = pure (.type "method_descriptor")) (hm : MtR X id r) (ho : PE X o to) (ha : PA X (e :: es) t)
    (hbase : attributeBase o name X.env (eval o X.env) = eval o X.env := by rfl)
    (hfew : ((backTo cpos (starEach (e :: es) X.env)).all (fun x => !x.1) && (backToKw cpos (keywordEach [] X.env)).all (fun x => x.1.isSome)
      && decide ((e :: es).length + ([] : List Keyword).length + (if ([] : List Keyword).isEmpty then 0 else 1) < 30)) = true := by rfl)
    (hline : (apos.endLine == cpos.line) = true := by rfl) (hs : starEach (e :: es) X.env = (false, eval e X.env) :: starEach es X.env := by rfl) (hplain : (backTo cpos (starEach es X.env)).any (·.1) = false := by rfl) :
    PE X (.Call (.Attribute o name apos) (e :: es) [] cpos) (tBM X.K T r to t) := by
  intro pins s σ H Q I h
  refine wpAny_Call_method_late hbase hfew hline rfl (thn (ho pins s σ H _ I h) fun v s1 ⟨x, H1, I1, r1, ty, q1⟩ => ?_)
  obtain ⟨h1, h2⟩ := tyV_is I1 r1 ty
  refine ⟨T, id, pa, slot, hty, h1, h2, ?_⟩
  have hA := ha cpos pins s1 σ H1 _ I1 q1
  rw [hs] at hA ⊢
  refine Calls.callWith_builtin (by show (false || (backTo cpos (starEach es X.env)).any (·.1)) = false; rw [hplain] <;> rfl) (Calls.evalArgs_plain ?_)
  exact thn hA fun us s2 ⟨vs, H2, I2, r2, q2⟩ => hm pins s2 σ H2 x vs v us Q I2 r1 r2 q2
end
end L2
namespace L2
open PySem PySem.Spec PyProof.Rows
def MtM (X : Cx) (id : String) (r : V → List V → Hp → VK → Prop) : Prop :=
  ∀ (pins : List (Addr × Obj)) (s : Shared) (σ : St) (H : Hp) (x : V) (xs : List V) (v : Value) (us : List Value) (Q : VK), Inv X pins σ H s → RelV x v → Vals xs us → r x xs H Q →
    wpAny (model X.prog X.w) X.A (call (.builtin id) (v :: us)) (EP X pins σ Q) X.xe s
theorem Vals.one : ∀ {x : V} {us : List Value}, Vals [x] us → ∃ u, us = [u] ∧ RelV x u
  | _, _, .cons r .nil => ⟨_, rfl, r⟩
theorem Vals.rep {xs : List V} {us : List Value} (h : Vals xs us) : ∀ k : Nat, Vals (List.replicate k xs).flatten (List.replicate k us).flatten
  | 0 => .nil
  | k + 1 => by
    rw [List.replicate_succ, List.replicate_succ, List.flatten_cons, List.flatten_cons]
    exact Vals.append h (Vals.rep h k)
theorem foldl_rep (its : List Value) : ∀ (k : Nat) (acc : List Value),
    List.foldl (fun x1 x2 => x1 ++ x2) acc.toArray (List.replicate k its.toArray) = (acc ++ (List.replicate k its).flatten).toArray
  | 0, acc => by simp
  | k + 1, acc => by
    have e : acc.toArray ++ its.toArray = (acc ++ its).toArray := by simp
    have e2 : (acc ++ its) ++ (List.replicate k its).flatten = acc ++ (List.replicate (k + 1) its).flatten := by
      rw [List.replicate_succ, List.flatten_cons, List.append_assoc]
    rw [← e2, ← foldl_rep its k (acc ++ its), ← e, List.replicate_succ, List.foldl_cons]
section
variable {X : Cx} {pins : List (Addr × Obj)} {σ : St} {H : Hp} {s : Shared} {l b : Addr} {xs ys zs : List V}
theorem Inv.lset {its its' : List Value} {n : Nat} {f : Array Value → Array Value} {t' : Nat} (I : Inv X pins σ H s) (hH : H l = some (.lst xs))
    (e : s.heap.get? l = some { cls := .type "list", data := .seq its.toArray n }) (hf : f its.toArray = its'.toArray) (hv : Vals ys its') (hz : ys.length ≤ sizeLine) :
    Inv X pins σ (upd H l (.lst ys)) { s with heap := s.heap.update l (Obj.mapSeq f), toks := t' } := by
  have q := PySem.IsL.update e f
  rw [hf] at q
  refine I.write (x := l) (e := l) (by rw [hH]; exact trivial) (.inl rfl) (fun b' u hb hu => (Heap.get?_update_other s.heap (Obj.mapSeq f) (Ne.symm hb)).trans hu) ⟨_, q⟩ ?_
  exact ⟨hz, its', _, hv, q⟩
theorem Inv.lnew {its : List Value} {t' : Nat} (I : Inv X pins σ H s) (hv : Vals ys its) (hz : ys.length ≤ sizeLine) :
    Inv X pins σ (upd H s.heap.objs.size (.lst ys)) { s with heap := s.heap.push { cls := .type "list", data := .seq its.toArray }, toks := t' } :=
  I.laid (fun _ _ q => Heap.get?_push_of_some _ q) (Nat.le_refl _) ⟨hz, its, 0, hv, Heap.get?_push_size _ rfl⟩
theorem Inv.fresh (I : Inv X pins σ H s) : H s.heap.objs.size = none := I.hok.fresh (Nat.le_refl _)
theorem Inv.lstM (I : Inv X pins σ H s) (hH : H l = some (.lst xs)) : xs.length ≤ sizeLine ∧ ∃ (its : List Value) (n : Nat), Vals xs its ∧ xs.length = its.length ∧ s.heap.get? l = some { cls := .type "list", data := .seq its.toArray n } := by
  obtain ⟨z, its, n, r, e⟩ := I.hok l _ hH
  exact ⟨z, its, n, r, r.length, e⟩
theorem notLongL {n : Nat} (h : n ≤ sizeLine) : Builtin.List.listTooLong n = false := by
  unfold Builtin.List.listTooLong
  exact decide_eq_false (by omega)
end
section
variable {X : Cx}
def rAppend : V → List V → Hp → VK → Prop := fun x vs H Q => ∃ l xs y, x = .ref l ∧ vs = [y] ∧ H l = some (.lst xs) ∧ xs.length < sizeLine ∧ Q .non (upd H l (.lst (xs ++ [y])))
theorem mt_append : MtM X "list.append" rAppend := by
  intro pins s σ H x vs v us Q I rx rv h
  obtain ⟨l, xs, y, rfl, rfl, hH, hz, q⟩ := h
  cases rx
  obtain ⟨u, rfl, ru⟩ := rv.one
  obtain ⟨z, its, n, r, hl, e⟩ := I.lstM hH
  refine call_meets F.slot_list_append ⟨_, e, rfl⟩ F.entry_list_append (F.args_list_append_2 _ _) (PySem.list_append l its.toArray n u (by rw [List.size_toArray]; omega)) ⟨e, ?_⟩
  refine ⟨.non, _, I.lset (its' := its ++ [u]) hH e (by simp) (r.append (.cons ru .nil)) ?_, rfl, q⟩
  rw [List.length_append, List.length_singleton]
  omega
def rExtend : V → List V → Hp → VK → Prop := fun x vs H Q => ∃ l b xs zs, x = .ref l ∧ vs = [.ref b] ∧ H l = some (.lst xs) ∧ H b = some (.lst zs) ∧ xs.length + zs.length ≤ sizeLine ∧ Q .non (upd H l (.lst (xs ++ zs)))
def rPop : V → List V → Hp → VK → Prop := fun x vs H Q => ∃ l xs y, x = .ref l ∧ vs = [] ∧ H l = some (.lst xs) ∧ xs[xs.length - 1]? = some y ∧ Q y (upd H l (.lst xs.dropLast))
def rPopAt : V → List V → Hp → VK → Prop := fun x vs H Q => ∃ l xs i k y, x = .ref l ∧ vs = [.int i] ∧ H l = some (.lst xs) ∧ -(2 ^ 63) ≤ i ∧ i < 2 ^ 63 ∧ seqIndex? i xs.length = some k ∧ xs[k]? = some y ∧ Q y (upd H l (.lst (xs.eraseIdx k)))
def rReverse : V → List V → Hp → VK → Prop := fun x vs H Q => ∃ l xs, x = .ref l ∧ vs = [] ∧ H l = some (.lst xs) ∧ Q .non (upd H l (.lst xs.reverse))
def rClear : V → List V → Hp → VK → Prop := fun x vs H Q => ∃ l xs, x = .ref l ∧ vs = [] ∧ H l = some (.lst xs) ∧ Q .non (upd H l (.lst []))
def rCat : R2 := fun x y H Q => ∃ l b xs zs, x = .ref l ∧ y = .ref b ∧ H l = some (.lst xs) ∧ H b = some (.lst zs) ∧ xs.length + zs.length ≤ sizeLine ∧ ∀ p, H p = none → Q (.ref p) (upd H p (.lst (xs ++ zs)))
theorem op_cat : OpR X (binaryOp .Add) rCat := by
  intro pins s σ H x y v u Q I rx ry h
  obtain ⟨l, b, xs, zs, rfl, rfl, hH, hB, hz, q⟩ := h
  cases rx
  cases ry
  obtain ⟨z, its, n, r, hl, e⟩ := I.lstM hH
  obtain ⟨z2, its2, n2, r2, hl2, e2⟩ := I.lstM hB
  refine PySem.P.add_list e e2 ?_ (by rw [List.size_toArray, List.size_toArray]; omega)
  have ea : its.toArray ++ its2.toArray = (its ++ its2).toArray := by simp
  rw [ea]
  exact ⟨.ref _, _, I.lnew (t' := s.toks) (r.append r2) (by rw [List.length_append]; omega), rfl, q _ I.fresh⟩
def rRep : R2 := fun x y H Q => ∃ l k xs, x = .ref l ∧ y = .int k ∧ H l = some (.lst xs) ∧ -(2 ^ 63) ≤ k ∧ k < 2 ^ 63 ∧ xs.length * k.toNat ≤ sizeLine ∧
  ∀ p, H p = none → Q (.ref p) (upd H p (.lst (List.replicate k.toNat xs).flatten))
theorem len_rep {α : Type} (xs : List α) (k : Nat) : (List.replicate k xs).flatten.length = k * xs.length := by
  induction k with
  | zero => simp
  | succ k ih => rw [List.replicate_succ, List.flatten_cons, List.length_append, ih, Nat.succ_mul, Nat.add_comm]
theorem op_rep : OpR X (binaryOp .Mult) rRep := by
  intro pins s σ H x y v u Q I rx ry h
  obtain ⟨l, k, xs, rfl, rfl, hH, h1, h2, hz, q⟩ := h
  cases rx
  obtain ⟨t, rfl⟩ := ry
  obtain ⟨z, its, n, r, hl, e⟩ := I.lstM hH
  have hlen : its.toArray.size * k.toNat ≤ sizeLine := by rw [List.size_toArray, ← hl]; exact hz
  have hcap : ¬ its.toArray.size * k.toNat > (2 ^ 63 - 1) / 8 := by
    have : (sizeLine : Nat) ≤ (2 ^ 63 - 1) / 8 := by decide
    omega
  have hfit : ¬ (!Builtin.List.listFitsIndex k) = true := by
    rw [fitsIndex_both h1 h2]
    exact Bool.false_ne_true
  have hlong : ¬ Builtin.List.listTooLong (its.toArray.size * k.toNat) = true := by
    rw [notLongL hlen]
    exact Bool.false_ne_true
  have hnew : List.foldl (fun x1 x2 => x1 ++ x2) #[] (List.replicate (if its.toArray.isEmpty = true then 0 else k.toNat) its.toArray) = (List.replicate k.toNat its).flatten.toArray := by
    have f0 : ∀ m : Nat, List.foldl (fun x1 x2 => x1 ++ x2) #[] (List.replicate m its.toArray) = (List.replicate m its).flatten.toArray := fun m => by
      have := foldl_rep its m []
      rw [List.nil_append] at this
      exact this
    rw [f0]
    cases its with
    | nil => simp
    | cons a r' => rw [if_neg (by simp)]
  refine wpAny_binaryOp_repeat_ref (T := "list") (U := "int") (by decide) ⟨_, e, rfl⟩ (fun s' => typeIs_int s' k t) noFill_list_mul F.fills_int_mul F.slot_int_rmul repeat_list F.slot_int_index.lookup
    (call_meets F.slot_int_rmul (typeIs_int s k t) F.entry_int_rmul (F.args_int_rmul_2 _ _) (int___rmul___int_list k t l its.toArray n)
      ⟨e, rfl, ⟨_, e, rfl⟩, call_meets F.slot_list_mul ⟨_, e, rfl⟩ F.entry_list_mul (F.args_list_mul_2 _ _) (AutoListH.list___mul___list_int_3 l its.toArray n k t hfit hcap hlong) ⟨e, ?_⟩⟩)
  rw [hnew]
  exact ⟨.ref _, _, I.lnew (t' := s.toks) (r.rep k.toNat) (by rw [len_rep, Nat.mul_comm]; exact hz), rfl, q _ I.fresh⟩
end
section
variable {prog : Program} {w : World} {A : Around} {E : Value → Shared → Prop} {s : Shared}
end
section
variable {X : Cx}
end
end L2
namespace Att
open PySem PySem.W PySem.Calls PyProof.Rows
theorem ints_of_wellAll {P : Params} {h : Heap} : ∀ (ns : List Int) (vs : List Value), WellAll P h vs (ns.map WData.int) → IntsAre vs ns := by
  intro ns
  induction ns with
  | nil =>
    intro vs w
    rw [List.map_nil] at w
    cases w
    exact .nil
  | cons n ns ih =>
    intro vs w
    rw [List.map_cons] at w
    cases w with
    | cons a b =>
      cases a
      exact .cons _ _ (ih _ b)
theorem script_of {l : OpenLaw} {n : Nat} (hn : l.most = some n) {P : Params} {h : Heap} {args : List WData} {vals : List Value}
    (hpre : l.row.toRowW.claim.pre args = true) (hwl : WellAll P h vals args) :
    ∃ a vs ns, vals = [Value.ref a] ∧ args = [WData.list (ns.map WData.int)] ∧ h.get? a = some { cls := .type "list", data := .seq vs.toArray } ∧ IntsAre vs ns ∧ ns.length ≤ n := by
  have hsh : WShape.hasAll [] args [.list .int] = true := (pre_splitW hpre).1
  have hc : l.pre.holds [] { args := args } = true := (pre_splitW hpre).2
  obtain ⟨d, r, rfl, h1, h2⟩ := hasAllW_cons hsh
  obtain rfl := hasAllW_nil h2
  obtain ⟨xs, rfl, h3⟩ := hasW_list h1
  obtain ⟨ns, rfl⟩ := items_int h3
  have hlen : ns.length ≤ n := by
    unfold OpenLaw.pre at hc
    have h4 : (WTm.not (.lt (.lit (.int (n : Int))) (.len (.arg 0)))).holds [] { args := [.list (ns.map .int)] } = true := by
      have h4 := (holds_andW hc).1
      rw [hn] at h4
      exact h4
    have h5 := condW_of h4 (w_not (w_lt w_lit (w_len_list (w_arg rfl))))
    rw [List.length_map] at h5
    refine Nat.le_of_not_lt fun q => ?_
    have q' : (n : Int) < ((ns.length : Nat) : Int) := by omega
    first
      | (rw [decide_eq_true q'] at h5; exact absurd h5 (by decide))
      | (simp at h5; omega)
  cases hwl with
  | cons w1 w2 =>
    cases w2
    cases w1 with
    | list ho hall => exact ⟨_, _, ns, rfl, rfl, ho, ints_of_wellAll ns _ hall, hlen⟩
theorem post_true (l : OpenLaw) (args : List WData) : l.row.toRowW.claim.post args (.bool true) args = true :=
  postW_of (r := l.row.toRowW) (X := (true == true))
    (show WShape.has [] (.bool true) .bool = true by first | rfl | decide | simp [WShape.has, WShape.arms, WShape.armsAll])
    (show (WTm.eq .res (.lit (.bool true))).value [] { args := args, res := some (.bool true), after := args } = some (.bool (true == true)) from w_eq_bool (w_res rfl) w_lit) rfl
theorem attach_call {l : OpenLaw} {n : Nat} {q : Program} {loose : List Str} {XP : (Str → Option Value) → Heap → Prop} {YP : World → Heap → Prop} {d : DefRec}
    (hn : l.most = some n) (hdf : d.params.defaults = [])
    (call : ∀ (w : World) (s₀ s₁ : Shared) (mg mb : Str → Option Value) (fa : Addr) (o : Obj) (pm cd doc : Value) (a : Addr) (vs : List Value) (ns : List Int),
      Ground q loose [] XP w s₀ mg mb s₁.heap → YP w s₁.heap →
      s₁.heap.get? fa = some o → o.data = .func (docDef d.name d.params d.body d.scope pm cd doc) → s₁.heap.CodeRec cd d.name → mg d.name = some (.ref fa) →
      s₁.heap.get? a = some { cls := .type "list", data := .seq vs.toArray } → IntsAre vs ns → ns.length ≤ n → s₁.gens = #[] →
      codeAny (model l.prog w) callerA (.call (.ref fa) ⟨[.ref a], []⟩) (fun r s' => r = .ok (.ret (.bool true)) ∧ OldK s₁.heap s'.heap ∧ s'.os = s₁.os ∧ AllBare s'.gens) s₁) :
    WalkO q loose XP YP l.row.toRowW d [] (fun f vs => PySem.call f vs) := by
  intro w s₀ s₁ mg mb G Y fa o pm cd doc dV kV ho hd hcd hD hmg hg args vals as hpre hlay hrd hwl hlo
  obtain rfl : dV = .none := Dflts.none hD hdf
  obtain rfl : kV = .none := Dflts.noKw hD
  obtain ⟨a, vs, ns, rfl, rfl, hobj, hints, hlen⟩ := script_of hn hpre hwl
  refine enter_call (codeAny_mono (call w s₀ s₁ mg mb fa o pm cd doc a vs ns G Y ho (fd_plain hd) hcd hmg hobj hints hlen hg) fun r s' hq => ?_)
  obtain ⟨rfl, h2, h3, h4⟩ := hq
  exact ⟨.inl ⟨.bool true, .bool true, [], rfl, fun _ => rfl, .bool true, post_true l _, fun _ => ⟨List.Pairwise.nil, fun _ hm => (nomatch hm)⟩⟩, h2, h3, h4⟩
section
variable {prog : Program} {w : World} {A : Around} {E : Value → Shared → Prop} {s : Shared} {K : Frag}
def noObjs (h : Heap) : Heap := { h with objs := #[] }
def ledger (h : Heap) (L d : Addr) : List (Addr × Obj) := (List.range h.objs.size).filterMap fun a => if a = L ∨ a = d then none else (h.get? a).map fun o => (a, o)
end
end Att
namespace L2
open PySem PySem.Spec PyProof.Rows
theorem vals_ints : ∀ {vs : List Value} {ns : List Int}, IntsAre vs ns → Vals (ns.map V.int) vs
  | _, _, .nil => .nil
  | _, _, .cons n t h => .cons ⟨t, rfl⟩ (vals_ints h)
def Only (H : Hp) : Prop := ∀ b, H b = none ∨ ∃ o xs, H b = some (.frz o (.lst xs))
theorem law_call {P : Program} {w : World} {K : PySem.W.Frag} {mg mb : Str → Option Value} {CX : CXT} {k : Nat} {fa a : Addr} {fd : FuncData} {x : Str} {sp : Sp} {s₁ : Shared} {vs : List Value} {ns : List Int}
    (KX : K.In s₁.heap) (hns : s₁.heap.Ns mainGlobals mg) (hb : s₁.heap.Ns builtinsNs mb) (hbb : ∀ x : Str, x ≠ "__name__" → mb x = bootBuiltins x) (hlim : s₁.heap.NoLimit) (hg : s₁.gens = #[])
    (ha : s₁.heap.get? a = some { cls := .type "list", data := .seq vs.toArray }) (hi : IntsAre vs ns) (hl : ns.length ≤ sizeLine) (hr : Room k callerA)
    (F : ∀ base : Heap, K.In base → base.Ns mainGlobals mg → FnOk P w K mg base CX k fa fd [x] sp) (hbind : ∀ (s : Shared) (u : Value), BindsTo s fd ⟨[u], []⟩ [(x, u)])
    (hsp : ∀ H : Hp, Only H → SqL K H a (ns.map V.int) → sp [.ref a] H (fun v _ => v = .bl true) fun _ _ _ => False)
    (hCX : ∀ H e s', CX [] H s₁ (fun _ _ _ => False) e s' → False) :
    codeAny (model P w) callerA (.call (.ref fa) ⟨[.ref a], []⟩) (fun r s' => r = .ok (.ret (.bool true)) ∧ OldK s₁.heap s'.heap ∧ s'.os = s₁.os ∧ AllBare s'.gens) s₁ := by
  have rv := vals_ints hi
  have lenV := hi.length
  have core : ∀ H : Hp, Only H → SqL K H a (ns.map V.int) → HOk P w H s₁.heap → (∀ b, H b ≠ none → b = a) → (H a ≠ none → K.lookup a = none) →
      codeAny (model P w) callerA (.call (.ref fa) ⟨[.ref a], []⟩) (fun r s' => r = .ok (.ret (.bool true)) ∧ OldK s₁.heap s'.heap ∧ s'.os = s₁.os ∧ AllBare s'.gens) s₁ := by
    intro H hO hS hok hA hK
    have base_of : ∀ {b : Addr} {o : Obj}, s₁.heap.get? b = some o → H b = none → (hidT s₁.heap H).get? b = some o := fun e n => hidT_get e n
    have noA : ∀ {b : Addr} {o : Obj} {es : Array DictEntry} {ep : Nat}, s₁.heap.get? b = some o → o.data = .dict es ep → H b = none := fun {b o es ep} e d => by
      cases q : H b with
      | none => rfl
      | some u =>
        have e' : b = a := hA b (by rw [q]; simp)
        subst e'
        rw [ha] at e; cases e
        have d' : Data.seq vs.toArray _ = Data.dict es ep := d
        cases d'
    have nsK : ∀ {b : Addr} {m : Str → Option Value}, s₁.heap.Ns b m → (hidT s₁.heap H).Ns b m := fun {b m} ⟨o, es, ep, e, d, r⟩ => ⟨o, es, ep, base_of e (noA e d), d, r⟩
    have hKb : K.In (hidT s₁.heap H) := fun b o e => base_of (KX b o e) (by
      cases q : H b with
      | none => rfl
      | some u =>
        have e' : b = a := hA b (by rw [q]; simp)
        subst e'
        rw [hK (by rw [q]; simp)] at e; cases e)
    have hM : Mod K mg (hidT s₁.heap H) := ⟨hKb, nsK hns, ⟨mb, nsK hb, hbb⟩, let ⟨mc, h1, h2⟩ := hlim; ⟨mc, nsK h1, h2⟩⟩
    have e0 : Env0 P w K mg (hidT s₁.heap H) callerA [] s₁ H := ⟨rfl, hM, fun b o e => of_hidT e, Nat.le_of_eq (hidT_size _ _), trivial, fun b hb => absurd (show b ∈ ([] : List Addr) from hb) (by simp), hok, .of_eq hg⟩
    refine codeAny_mono ((F _ hKb (nsK hns)).run callerA [] s₁ H ⟨[.ref a], []⟩ [.ref a] [.ref a] _ _ hr e0 (hbind s₁ (.ref a)) (.cons rfl .nil) (hsp H hO hS)) fun r s' h => ?_
    cases r with
    | error e => exact (hCX H e s' h).elim
    | ok fl =>
      cases fl with
      | next => exact False.elim h
      | brk => exact False.elim h
      | cont => exact False.elim h
      | ret u =>
        obtain ⟨v, H', os, bare, un, hok', r', q⟩ := h
        have q' : v = .bl true := q
        subst q'
        obtain rfl : u = Value.bool true := r'
        refine ⟨rfl, OldK.of_keep fun b o e => ?_, os, bare⟩
        cases q : H b with
        | none => exact un.keep b o e q (by intro z; exact absurd (show b ∈ ([] : List Addr) from z) (by simp)) (by simp)
        | some u =>
          rcases hO b with z | ⟨ob, xs, z⟩
          · rw [q] at z; cases z
          · have z2 := un.frzs b ob _ z
            obtain ⟨e1, _⟩ := hok b _ z
            obtain ⟨e2, _⟩ := hok' b _ z2
            rw [e] at e1; cases e1
            exact e2
  cases hk : K.lookup a with
  | some o =>
    have e := KX a o hk
    rw [ha] at e
    cases e
    refine core (fun _ => none) (fun _ => .inl rfl) (.inr ⟨_, vs.toArray, _, hk, rfl, rfl, rfl, by rw [List.size_toArray, lenV]; exact hl, by simpa using rv⟩) (fun b u z => by have z' : (none : Option HO) = some u := z; cases z') (fun b z => absurd rfl z) fun z => absurd rfl z
  | none =>
    refine core (fun b => if b = a then some (.frz { cls := .type "list", data := .seq vs.toArray } (.lst (ns.map V.int))) else none) (fun b => ?_) (.inl (.inr ⟨{ cls := .type "list", data := .seq vs.toArray }, if_pos rfl⟩)) (fun b u z => ?_) (fun b z => ?_) fun _ => hk
    · by_cases hb : b = a
      · exact .inr ⟨_, _, if_pos hb⟩
      · exact .inl (if_neg hb)
    · by_cases hb : b = a
      · have z' := (if_pos hb).symm.trans z
        cases z'
        subst hb
        exact ⟨ha, by rw [List.length_map]; exact hl, vs, _, rv, ha⟩
      · have z' := (if_neg hb).symm.trans z
        cases z'
    · by_cases hb : b = a
      · exact hb
      · exact absurd (if_neg hb) z
end L2
namespace L2
open PySem PySem.Spec PyProof.Rows
abbrev KOf {K : PySem.W.Frag} {h : Heap} (_ : K.In h) : PySem.W.Frag := K
theorem walk_of {l : PySem.W.OpenLaw} {n k : Nat} {q : Program} {loose : List Str} {XP : (Str → Option Value) → Heap → Prop} {YP : World → Heap → Prop} {d : DefRec} {K : Params → PySem.W.Frag} {CX : World → CXT} {sp : World → Sp} {x : Str}
    (hn : l.most = some n) (hn2 : n ≤ sizeLine) (hdf : d.params.defaults = []) (hr : Room k callerA)
    (hY : ∀ (w : World) (h : Heap), YP w h → (K w.params).In h)
    (F : ∀ (w : World) (mg : Str → Option Value) (fa : Addr) (h : Heap), (K w.params).In h → h.Ns mainGlobals mg → mg d.name = some (.ref fa) →
      ∃ fd : FuncData, (∀ (s : Shared) (u : Value), BindsTo s fd ⟨[u], []⟩ [(x, u)]) ∧
        ∀ base : Heap, (K w.params).In base → base.Ns mainGlobals mg → FnOk l.prog w (K w.params) mg base (CX w) k fa fd [x] (sp w))
    (hsp : ∀ (w : World) (H : Hp) (a : Addr) (ns : List Int), ns.length ≤ n → Only H → SqL (K w.params) H a (ns.map V.int) → sp w [.ref a] H (fun v _ => v = .bl true) fun _ _ _ => False)
    (hCX : ∀ (w : World) (H : Hp) (s : Shared) (e : Value) (s' : Shared), CX w [] H s (fun _ _ _ => False) e s' → False) :
    PySem.W.WalkO q loose XP YP l.row.toRowW d [] (fun f vs => PySem.call f vs) := by
  refine Att.attach_call hn hdf fun w s₀ s₁ mg mb fa o pm cd doc a vs ns G Y ho hd hcd hmg hobj hints hlen hg => ?_
  have KX := hY w _ Y
  obtain ⟨fd, hb, hF⟩ := F w mg fa _ KX G.T.g hmg
  exact law_call KX G.T.g G.T.b G.T.builtins G.T.nolimit hg hobj hints (Nat.le_trans hlen hn2) hr hF hb (fun H hO hS => hsp w H a ns hlen hO hS) fun H e s' => hCX w H s₁ e s'
theorem walk_ofK {l : PySem.W.OpenLaw} {n k : Nat} {q : Program} {loose : List Str} {XP : (Str → Option Value) → Heap → Prop} {YP : World → Heap → Prop} {d : DefRec} {K : Params → PySem.W.Frag} {CX : CXT} {sp : PySem.W.Frag → Sp} {x : Str}
    (hn : l.most = some n) (hn2 : n ≤ sizeLine) (hdf : d.params.defaults = []) (hr : Room k callerA)
    (hY : ∀ (w : World) (h : Heap), YP w h → (K w.params).In h)
    (F : ∀ (w : World) (mg : Str → Option Value) (fa : Addr) (h : Heap), (K w.params).In h → h.Ns mainGlobals mg → mg d.name = some (.ref fa) →
      ∃ fd : FuncData, (∀ (s : Shared) (u : Value), BindsTo s fd ⟨[u], []⟩ [(x, u)]) ∧
        ∀ base : Heap, (K w.params).In base → base.Ns mainGlobals mg → FnOk l.prog w (K w.params) mg base CX k fa fd [x] (sp (K w.params)))
    (hsp : ∀ (K : PySem.W.Frag) (H : Hp) (a : Addr) (ns : List Int), ns.length ≤ n → Only H → SqL K H a (ns.map V.int) → sp K [.ref a] H (fun v _ => v = .bl true) fun _ _ _ => False)
    (hCX : ∀ (H : Hp) (s : Shared) (e : Value) (s' : Shared), CX [] H s (fun _ _ _ => False) e s' → False) :
    PySem.W.WalkO q loose XP YP l.row.toRowW d [] (fun f vs => PySem.call f vs) :=
  walk_of (K := K) (CX := fun _ => CX) (sp := fun w => sp (K w.params)) hn hn2 hdf hr hY F (fun w H a ns h1 h2 h3 => hsp (K w.params) H a ns h1 h2 h3) fun _ H s e s' => hCX H s e s'
end L2
namespace L2
open PySem PySem.Spec PyProof.Rows
def inClass (s : Stmt) (j : Nat) : Stmt := match s with
  | .ClassDef _ _ _ body _ _ _ _ _ _ _ => body.getD j (.Pass ⟨0, 0, 0, 0⟩)
  | _ => .Pass ⟨0, 0, 0, 0⟩
def defArgs (s : Stmt) : Arguments := match s with
  | .FunctionDef _ a _ _ _ _ _ _ _ _ => a
  | _ => { posonlyargs := [], args := [], vararg := none, kwonlyargs := [], kw_defaults := [], kwarg := none, defaults := [] }
def defBody (s : Stmt) : List Stmt := match s with
  | .FunctionDef _ _ b _ _ _ _ _ _ _ => b
  | _ => []
def defScope (s : Stmt) : Scope := match s with
  | .FunctionDef _ _ _ _ _ _ sc _ _ _ => sc
  | _ => { kind := .function, names := [], isGenerator := false, isCoroutine := false }
abbrev CX0 : CXT := fun _ _ _ _ _ _ => False
abbrev E0 : XK := fun _ _ _ => False
theorem pass0 {X : Cx} : Passes CX0 X E0 := fun _ _ _ _ _ _ _ h => h.elim
structure Fun (K : PySem.W.Frag) (x qual : Str) (st : Stmt) (f : Addr) (fd : FuncData) : Prop where
  ex : ∃ (oc : Value) (od : Option Addr) (kV doc pm : Value) (an : Option Addr) (cdv ct : Value) (osl : Array (Option Value)),
    fd = PySem.W.fnOf x qual (defArgs st) (defBody st) (defScope st) .none kV doc pm an cdv ct ∧ K.lookup f = some ⟨oc, od, .func fd, osl⟩ ∧ PySem.W.codeIn K cdv qual = true
  kp : PySem.W.keepIn K (.ref f) = true
section
variable {P : Program} {w : World} {K : PySem.W.Frag} {mg : Str → Option Value} {base : Heap}
theorem Fun.ok {x qual : Str} {st : Stmt} {f : Addr} {fd : FuncData} {N ps : List Str} {k : Nat} {sp : Sp} (F : Fun K x qual st f fd) (S : FnScope N ps (defScope st)) (len : ∀ vs H Q E, sp vs H Q E → vs.length = ps.length)
    (hbody : ∀ (cdv : Value) (A : Around) (outer : List Env) (s : Shared) (H : Hp) (vs : List V) (Q : VK) (E : XK), Room k (A.deeper (envOfC qual (defScope st) s.heap.objs.size f cdv)) → sp vs H Q E →
      ∃ t, PSs (cxOf CX0 P w K mg base N qual (defScope st) f cdv A outer s H E).nox (defBody st) t ∧ t { nx := fun _ H' => Q .non H', rt := Q } (start N vs) H) : FnOk P w K mg base CX0 (k + 1) f fd ps sp := by
  obtain ⟨oc, od, kV, doc, pm, an, cdv, ct, osl, rfl, lk, hcd⟩ := F.ex
  refine fn_of lk hcd S len fun A outer s H vs Q E hr hsp => ?_
  obtain ⟨t, h, q⟩ := hbody cdv A outer s H vs Q E hr hsp
  exact ⟨t, h.nox, q⟩
theorem Fun.binds {x qual : Str} {st : Stmt} {f : Addr} {fd : FuncData} {ps : List Str} (F : Fun K x qual st f fd)
    (h : ∀ (kV doc pm : Value) (an : Option Addr) (cdv ct : Value) (us : List Value), us.length = ps.length → bindArgs (PySem.W.fnOf x qual (defArgs st) (defBody st) (defScope st) .none kV doc pm an cdv ct) ⟨us, []⟩ = pure (ps.zip us)) : Binds K fd ps [] := by
  obtain ⟨oc, od, kV, doc, pm, an, cdv, ct, osl, rfl, lk, hcd⟩ := F.ex
  exact .all (h kV doc pm an cdv ct)
theorem fun_mk {x qual : Str} {st : Stmt} {f : Addr} {oc : Value} {od an : Option Addr} {osl : Array (Option Value)} {kV doc pm cdv ct : Value} (l : K.lookup f = some ⟨oc, od, .func (PySem.W.fnOf x qual (defArgs st) (defBody st) (defScope st) .none kV doc pm an cdv ct), osl⟩)
    (c : PySem.W.codeIn K cdv qual = true) (k : PySem.W.keepIn K (.ref f) = true) : Fun K x qual st f (PySem.W.fnOf x qual (defArgs st) (defBody st) (defScope st) .none kV doc pm an cdv ct) := ⟨⟨oc, od, kV, doc, pm, an, cdv, ct, osl, rfl, l, c⟩, k⟩
end
theorem hu_of {A : Around} {k : Nat} (hr : Room k A) : A.units + 1 < cLine := Nat.lt_of_le_of_lt (Nat.add_le_add_left (by decide : 1 ≤ 64) _) hr.units
section
variable {X : Cx}
end
theorem iteF {A B : Prop} (h : B) : if false = true then A else B := by
  rw [if_neg Bool.false_ne_true]
  exact h
theorem iteT {A B : Prop} (h : A) : if true = true then A else B := by
  rw [if_pos rfl]
  exact h
theorem ite2 {c A B : Prop} [Decidable c] (h1 : c → A) (h2 : ¬ c → B) : if c then A else B := by
  by_cases h : c
  · rw [if_pos h]
    exact h1 h
  · rw [if_neg h]
    exact h2 h
def Same (H H' : Hp) : Prop := ∀ b o, H b = some o → H' b = some o
end L2

namespace L2
open PySem PySem.Spec PyProof.Rows
section
variable {κ : Type} [DecidableEq κ]
def valV (kvs : List (κ × V)) (k : κ) : Option V := (kvs.find? fun kv => decide (kv.1 = k)).map (·.2)
def putK (kvs : List (κ × V)) (k : κ) (v : V) : List (κ × V) :=
  if (kvs.any fun kv => decide (kv.1 = k)) = true then kvs.map (fun kv => if kv.1 = k then (kv.1, v) else kv) else kvs ++ [(k, v)]
def dropK (kvs : List (κ × V)) (k : κ) : List (κ × V) := kvs.filter fun kv => decide (kv.1 ≠ k)
theorem valV_pos {p : κ × V} {r : List (κ × V)} {k : κ} (e : p.1 = k) : valV (p :: r) k = some p.2 := by simp [valV, List.find?_cons, e]
theorem valV_neg {p : κ × V} {r : List (κ × V)} {k : κ} (e : ¬ p.1 = k) : valV (p :: r) k = valV r k := by simp [valV, List.find?_cons, e]
theorem length_putK (kvs : List (κ × V)) (k : κ) (v : V) : (putK kvs k v).length ≤ kvs.length + 1 := by
  unfold putK
  split
  · rw [List.length_map]; omega
  · rw [List.length_append, List.length_cons, List.length_nil]; omega
theorem RelO.isSome_eq {o : Option V} {u : Option Value} (r : RelO o u) : o.isSome = u.isSome := by
  cases o with
  | none => cases u with
    | none => rfl
    | some _ => exact (show False from r).elim
  | some _ => cases u with
    | none => exact (show False from r).elim
    | some _ => rfl
theorem KV.val {kvs : List (κ × V)} {vs : List (κ × Value)} (r : KV kvs vs) (k : κ) : RelO (valV kvs k) (valueAt vs k) := by
  unfold KV at r
  induction r with
  | nil => exact True.intro
  | @cons p q ps qs h t ih =>
    obtain ⟨h1, h2⟩ := h
    by_cases e : p.1 = k
    · have e' : q.1 = k := h1.symm.trans e
      have b : valueAt (q :: qs) k = some q.2 := by simp [valueAt, List.find?_cons, e']
      rw [valV_pos e, b]; exact h2
    · have e' : ¬ q.1 = k := fun z => e (h1.trans z)
      have b : valueAt (q :: qs) k = valueAt qs k := by simp [valueAt, List.find?_cons, e']
      rw [valV_neg e, b]; exact ih
theorem KV.any {kvs : List (κ × V)} {vs : List (κ × Value)} (r : KV kvs vs) (k : κ) : (kvs.any fun kv => decide (kv.1 = k)) = vs.any fun kv => decide (kv.1 = k) := by
  unfold KV at r
  induction r with
  | nil => rfl
  | cons h t ih => rw [List.any_cons, List.any_cons, ih, h.1]
theorem KV.repl {kvs : List (κ × V)} {vs : List (κ × Value)} (r : KV kvs vs) (k : κ) {y : V} {u : Value} (ry : RelV y u) :
    KV (kvs.map fun kv => if kv.1 = k then (kv.1, y) else kv) (vs.map fun kv => if kv.1 = k then (kv.1, u) else kv) := by
  unfold KV at r ⊢
  induction r with
  | nil => exact .nil
  | @cons p q ps qs h t ih =>
    rw [List.map_cons, List.map_cons]
    refine .cons ?_ ih
    obtain ⟨h1, h2⟩ := h
    by_cases e : p.1 = k
    · rw [if_pos e, if_pos (h1.symm.trans e)]; exact ⟨h1, ry⟩
    · rw [if_neg e, if_neg (fun z => e (h1.trans z))]; exact ⟨h1, h2⟩
theorem KV.put {kvs : List (κ × V)} {vs : List (κ × Value)} (r : KV kvs vs) (k : κ) {y : V} {u : Value} (ry : RelV y u) : KV (putK kvs k y) (stored vs k u) := by
  unfold putK stored
  rw [r.any k]
  by_cases e : (vs.any fun kv => decide (kv.1 = k)) = true
  · rw [if_pos e, if_pos e]; exact r.repl k ry
  · rw [if_neg e, if_neg e]; exact Paired.snoc r ⟨rfl, ry⟩
end
theorem kV_is {P : Program} {w : World} {k : Key} {u : Value} (r : RelV (kV k) u) : (mixKind P w).is k u = true := by
  cases k with
  | inl i => obtain ⟨t, e⟩ := (show ∃ t, u = Value.int i t from r); subst e; exact mixKind_int P w i t
  | inr x => obtain ⟨t, e⟩ := (show ∃ t, u = Value.str x t from r); subst e; exact mixKind_str P w x t
theorem items_are {P : Program} {w : World} : ∀ {ks : List Key} {us : List Value}, Vals (ks.map kV) us → ItemsAre (mixKind P w) ks us
  | [], _, r => by rw [List.map_nil] at r; cases r; exact .nil
  | k :: ks, _, r => by
    rw [List.map_cons] at r
    cases r with
    | cons h t => exact .cons (kV_is h) (items_are t)
abbrev KT (H : Hp) : List (List Key × V) → List (List Key × Addr × Value) → Prop := Paired fun p q => p.1 = q.1 ∧ H q.2.1 = some (.tup (p.1.map kV)) ∧ RelV p.2 q.2.2
theorem KT.val {H : Hp} {kvs : List (List Key × V)} {xs : List (List Key × Addr × Value)} (r : KT H kvs xs) (k : List Key) : RelO (valV kvs k) ((atKey xs k).map (·.2)) := by
  induction r with
  | nil => exact True.intro
  | @cons p q ps qs h t ih =>
    obtain ⟨h1, _, h2⟩ := h
    by_cases e : p.1 = k
    · have e' : q.1 = k := h1.symm.trans e
      have b : atKey (q :: qs) k = some q.2 := by simp [atKey, List.find?_cons, e']
      rw [valV_pos e, b]; exact h2
    · have e' : ¬ q.1 = k := fun z => e (h1.trans z)
      have b : atKey (q :: qs) k = atKey qs k := by simp [atKey, List.find?_cons, e']
      rw [valV_neg e, b]; exact ih
section
variable {P : Program} {w : World} {H : Hp} {h : Heap} {a : Addr}
theorem rd_of {u : HO} (ok : HOk P w H h) (e : Rd H a u) : ObjOk P w H h a u := e.ok ok
theorem dk_rd {kvs : List (Key × V)} (ok : HOk P w H h) (e : Rd H a (.dK kvs)) : kvs.length ≤ sizeLine ∧ (a == sysModules) = false ∧ ∃ vs, KV kvs vs ∧ h.DictOf (mixKind P w) a vs :=
  show ObjOk P w H h a (.dK kvs) from rd_of ok e
theorem dk_of {kvs : List (Key × V)} (ok : HOk P w H h) (e : H a = some (.dK kvs)) : kvs.length ≤ sizeLine ∧ (a == sysModules) = false ∧ ∃ vs, KV kvs vs ∧ h.DictOf (mixKind P w) a vs := dk_rd ok (.inl e)
theorem key_of {ks : List Key} (ok : HOk P w H h) (e : H a = some (.tup (ks.map kV))) : (tupleKind (mixKind P w)).is h ks a := by
  obtain ⟨_, its, r, o, h1, h2, n, h3⟩ := (show ObjOk P w H h a (.tup (ks.map kV)) from ok a _ e)
  exact ⟨o, its.toArray, n, h1, h2, h3, by simpa using items_are r⟩
theorem dt_rd {kvs : List (List Key × V)} (ok : HOk P w H h) (e : Rd H a (.dT kvs)) : kvs.length ≤ sizeLine ∧ (a == sysModules) = false ∧
    ∃ xs, KT H kvs xs ∧ h.DictOfH (tupleKind (mixKind P w)) a xs := by
  obtain ⟨z, y, xs, r, o, es, ep, h1, h2, h3, h4, h5⟩ := (show ObjOk P w H h a (.dT kvs) from rd_of ok e)
  refine ⟨z, y, xs, r, o, es, ep, h1, h2, h3, h4, fun x hx => ?_, h5⟩
  have all : ∀ {l : List (List Key × V)} {m : List (List Key × Addr × Value)}, KT H l m → ∀ x ∈ m, (tupleKind (mixKind P w)).is h x.1 x.2.1 := by
    intro l m q
    induction q with
    | nil => intro x hx; exact nomatch hx
    | @cons p q ps qs hq t ih =>
      intro x hx
      rcases List.mem_cons.mp hx with e | hx
      · subst e
        exact key_of ok (by rw [← hq.1]; exact hq.2.1)
      · exact ih x hx
  exact all r x hx
end
def DGet (H : Hp) (a : Addr) (y : V) (r : Option V) : Prop :=
  (∃ kvs k, Rd H a (.dK kvs) ∧ y = kV k ∧ r = valV kvs k) ∨ ∃ kvs k b, Rd H a (.dT kvs) ∧ y = .ref b ∧ H b = some (.tup (k.map kV)) ∧ r = valV kvs k
def DPut (H : Hp) (a : Addr) (y v : V) (H' : Hp) : Prop :=
  (∃ kvs k, H a = some (.dK kvs) ∧ y = kV k ∧ kvs.length < sizeLine ∧ H' = upd H a (.dK (putK kvs k v))) ∨
  ∃ kvs k b, H a = some (.dT kvs) ∧ y = .ref b ∧ H b = some (.tup (k.map kV)) ∧ kvs.length < sizeLine ∧ H' = upd H a (.dT (putK kvs k v))
theorem DGet.k {H : Hp} {a : Addr} {kvs : List (Key × V)} {k : Key} (e : H a = some (.dK kvs)) : DGet H a (kV k) (valV kvs k) := .inl ⟨kvs, k, .inl e, rfl, rfl⟩
section
variable {X : Cx} {pins : List (Addr × Obj)} {σ : St} {H : Hp} {s : Shared} {a : Addr} {y v : V} {u r : Value} {o : Option V} {A : Around} {E : Value → Shared → Prop}
theorem Inv.big (I : Inv X pins σ H s) : sysModules < s.heap.objs.size := by
  have h : mainGlobals < s.heap.objs.size := (I.mod.glob.keeps I.bk).lt
  exact Nat.lt_trans (by decide) h
theorem d_getItem {Q : Value → Shared → Prop} (hu : A.units + 1 < cLine) (I : Inv X pins σ H s) (g : DGet H a y (some v)) (ry : RelV y u) (h : ∀ w' s', Inv X pins σ H s' → RelV v w' → Q w' s') :
    wpAny (model X.prog X.w) A (getItem (.ref a) u) Q E s := by
  rcases g with ⟨kvs, k, e, ey, l⟩ | ⟨kvs, k, b, e, ey, eb, l⟩
  · subst ey
    obtain ⟨z, hd, vs, rel, dd⟩ := dk_rd I.hok e
    obtain ⟨w', hw, rw'⟩ := RelO.some_of (v := v) (o := valueAt vs k) (by rw [l]; exact rel.val k)
    exact wpAny_getItem_of (kV_is ry) dd.mapOf hw (h w' _ (I.tok _) rw')
  · subst ey
    cases (show u = Value.ref b from ry)
    obtain ⟨z, hd, xs, rel, dd⟩ := dt_rd I.hok e
    obtain ⟨w', hw, rw'⟩ := RelO.some_of (v := v) (o := (atKey xs k).map (·.2)) (by rw [l]; exact rel.val k)
    obtain ⟨p, hp, hp2⟩ := Option.map_eq_some_iff.mp hw
    refine wpAny_getItem_heap (tupleKind_room_in1 hu) (key_of I.hok eb) dd hp ?_
    rw [hp2]
    exact h w' _ (I.tok _) rw'
theorem d_in {Q : Value → Shared → Prop} (hu : A.units + 1 < cLine) (I : Inv X pins σ H s) (g : DGet H a y o) (ry : RelV y u) (h : ∀ s', Inv X pins σ H s' → Q (.bool o.isSome) s') :
    wpAny (model X.prog X.w) A (compareOp .In u (.ref a)) Q E s := by
  rcases g with ⟨kvs, k, e, ey, l⟩ | ⟨kvs, k, b, e, ey, eb, l⟩
  · subst ey
    obtain ⟨z, hd, vs, rel, dd⟩ := dk_rd I.hok e
    refine wpAny_in_of (kV_is ry) hd dd.mapOf ?_
    rw [← (rel.val k).isSome_eq, ← l]
    exact h _ (I.tok _)
  · subst ey
    cases (show u = Value.ref b from ry)
    obtain ⟨z, hd, xs, rel, dd⟩ := dt_rd I.hok e
    refine wpAny_in_heap (tupleKind_room_in1 hu) (key_of I.hok eb) hd dd ?_
    have q := (rel.val k).isSome_eq
    rw [Option.isSome_map] at q
    rw [← q, ← l]
    exact h _ (I.tok _)
theorem d_write {h' : Heap} {t' : Nat} {ob : HO} (I : Inv X pins σ H s) (mu : Mut (H a)) (hs : Heap.SameBut a s.heap h') (he : ∃ q, h'.get? a = some q) (new : ObjOk X.prog X.w (upd H a ob) h' a ob) :
    Inv X pins σ (upd H a ob) { s with heap := h', toks := t' } :=
  I.write (x := a) (e := a) mu (.inl rfl) (fun b q hb z => (hs.2 b hb).trans z) he new
theorem dk_new {P : Program} {w : World} {H' : Hp} {h' : Heap} {kvs : List (Key × V)} {vs : List (Key × Value)} (z : kvs.length ≤ sizeLine) (hd : (a == sysModules) = false) (rel : KV kvs vs) (dd : h'.DictOf (mixKind P w) a vs) :
    ObjOk P w H' h' a (.dK kvs) := ⟨z, hd, vs, rel, dd⟩
end
section
variable {X : Cx} {pins : List (Addr × Obj)} {σ : St} {H : Hp} {s : Shared} {a : Addr} {kvs : List (Key × V)} {k : Key} {u : Value} {A : Around} {E : Value → Shared → Prop}
end
def NoSl (i : Expr) : Prop := ∀ ov iv, subscripted i false ov iv = operate [ov, iv] (getItem ov iv)
theorem subD_of {prog : Program} {w : World} {A : Around} {E : Value → Shared → Prop} {s : Shared} {env : Env} {value slice : Expr} {pos : Pos} {T id : String} {Q : Value → Shared → Prop}
    (hl : typeLookup (.type T) "__getitem__" = pure (some (.builtin id))) (hs : NoSl slice)
    (h : wpAny (model prog w) A (eval value env) (fun o s₁ => wpAny (model prog w) A (eval slice env) (fun i s₂ => s₂.TypeIs o T ∧ wpAny (model prog w) A (getItem o i) Q E s₂) E s₁) E s) :
    wpAny (model prog w) A (eval (.Subscript value slice pos) env) Q E s := by
  refine Subscript_ (wpAny_mono h (fun o s₁ h₁ => wpAny_mono h₁ (fun i s₂ h₂ => ?_) fun _ _ x => x) fun _ _ x => x)
  obtain ⟨hT, h₂⟩ := h₂
  unfold subscriptTail
  refine wpAny_bind ?_
  rw [getitemInPython_of_ne hT.not_modules]
  refine wpAny_bind (wpAny_specialOf hT hl ?_)
  have fin : wpAny (model prog w) A (subscripted slice false o i) (fun r s₃ => wpAny (model prog w) A (letTemporaryGo value o r >>= fun _ => pure r) Q E s₃) E s₂ := by
    rw [hs o i]
    exact wpAny_operating (wpAny_mono h₂ (fun r s₃ h₃ => wpAny_bind (wpAny_letTemporaryGo (wpAny_pure h₃))) fun _ _ x => x)
  first
    | exact wpAny_pure (wpAny_bind fin)
    | exact wpAny_bind (wpAny_pure (wpAny_bind fin))
    | exact wpAny_bind fin
theorem dict_typeIs {X : Cx} {pins : List (Addr × Obj)} {σ : St} {H : Hp} {s : Shared} {a : Addr} {y : V} {o : Option V} (I : Inv X pins σ H s) (g : DGet H a y o) : s.TypeIs (.ref a) "dict" := by
  rcases g with ⟨kvs, k, e, _, _⟩ | ⟨kvs, k, b, e, _, _, _⟩
  · obtain ⟨_, _, vs, _, dd⟩ := dk_rd I.hok e
    exact dd.typeIs
  · obtain ⟨_, _, xs, _, dd⟩ := dt_rd I.hok e
    exact dd.typeIs
def tDGet (td ty : TE) : TE := fun σ H Q => td σ H fun x H1 => ty σ H1 fun y H2 => ∃ a v, x = .ref a ∧ DGet H2 a y (some v) ∧ Q v H2
def tDIn (ty td : TE) : TE := fun σ H Q => ty σ H fun y H1 => td σ H1 fun x H2 => ∃ a o, x = .ref a ∧ DGet H2 a y o ∧ Q (.bl o.isSome) H2
def tDNotIn (ty td : TE) : TE := fun σ H Q => ty σ H fun y H1 => td σ H1 fun x H2 => ∃ a o, x = .ref a ∧ DGet H2 a y o ∧ Q (.bl (!o.isSome)) H2
def sDPut (td ty tv : TE) : TS := fun D σ H => tv σ H fun v H1 => td σ H1 fun x H2 => ty σ H2 fun y H3 => ∃ a H4, x = .ref a ∧ DPut H3 a y v H4 ∧ D.nx σ H4
def sDAug (td ty tv : TE) (rd : V → V → Hp → VK → Prop) : TS := fun D σ H => td σ H fun x H1 => ty σ H1 fun y H2 => ∃ a v, x = .ref a ∧ DGet H2 a y (some v) ∧
  tv σ H2 fun y2 H3 => rd v y2 H3 fun z H4 => ∃ H5, DPut H4 a y z H5 ∧ D.nx σ H5
def sDDel (td ty : TE) : TS := fun D σ H => td σ H fun x H1 => ty σ H1 fun y H2 => ∃ a kvs k, x = .ref a ∧ H2 a = some (.dK kvs) ∧ y = kV k ∧ (valV kvs k).isSome = true ∧ D.nx σ (upd H2 a (.dK (dropK kvs k)))
section
variable {X : Cx} {o i e value : Expr} {pos pos' tpos : Pos} {td ty tv : TE}
theorem pe_dget (hu : X.A.units + 1 < cLine) (ho : PE X o td) (hi : PE X i ty) (hs : NoSl i) : PE X (.Subscript o i pos) (tDGet td ty) := by
  intro pins s σ H Q I h
  refine subD_of PySem.F.slot_dict_getitem.lookup hs (thn (ho pins s σ H _ I h) fun u s1 ⟨x, H1, I1, rx, q1⟩ => thn (hi pins s1 σ H1 _ I1 q1) fun iv s2 ⟨y, H2, I2, ry, a, v, ex, g, q2⟩ => ?_)
  subst ex
  obtain rfl : u = Value.ref a := rx
  exact ⟨dict_typeIs I2 g, d_getItem hu I2 g ry fun w' s3 I3 rw' => ⟨v, H2, I3, rw', q2⟩⟩
theorem pc_din (hu : X.A.units + 1 < cLine) (hi : PE X i ty) (ho : PE X o td) : PC X .In i o (tDIn ty td) := by
  intro pins s σ H Q I h
  refine thn (hi pins s σ H _ I h) fun iv s1 ⟨y, H1, I1, ry, q1⟩ => thn (ho pins s1 σ H1 _ I1 q1) fun u s2 ⟨x, H2, I2, rx, a, ov, ex, g, q2⟩ => ?_
  subst ex
  obtain rfl : u = Value.ref a := rx
  exact d_in hu I2 g ry fun s3 I3 => ⟨.bl ov.isSome, H2, I3, rfl, q2⟩
end
theorem dk_empty {P : Program} {w : World} {H : Hp} (h : Heap) (hb : sysModules < h.objs.size) : ObjOk P w H (h.push { cls := .type "dict", data := .dict #[] }) h.objs.size (.dK []) :=
  ⟨Nat.zero_le _, beq_eq_false_iff_ne.mpr (Ne.symm (Nat.ne_of_lt hb)), [], .nil, Heap.DictOf.new h⟩
def tDNewK : TE := fun _ H Q => ∀ p, H p = none → Q (.ref p) (upd H p (.dK []))
def tDNewT : TE := fun _ H Q => ∀ p, H p = none → Q (.ref p) (upd H p (.dT []))
section
variable {X : Cx} {pos : Pos}
end
def tPairs : List (TE × TE) → St → Hp → (List (V × V) → Hp → Prop) → Prop
  | [], _, H, Q => Q [] H
  | (tk, tv) :: r, σ, H, Q => tk σ H fun x H1 => tv σ H1 fun y H2 => tPairs r σ H2 fun ps H3 => Q ((x, y) :: ps) H3
abbrev VV : List (V × V) → List (Value × Value) → Prop := Paired fun p q => RelV p.1 q.1 ∧ RelV p.2 q.2
def PPs (X : Cx) (pos : Pos) (keys : List (Option Expr)) (values : List Expr) (trs : List (TE × TE)) : Prop :=
  ∀ (pins : List (Addr × Obj)) (s : Shared) (σ : St) (H : Hp) (Q : List (V × V) → Hp → Prop), Inv X pins σ H s → tPairs trs σ H Q →
    wpAny (model X.prog X.w) X.A (evalPairs (pairTrees keys values X.env pos)) (fun vs s' => ∃ ps H', Inv X pins σ H' s' ∧ VV ps vs ∧ Q ps H') X.xe s
theorem pps_nil {X : Cx} {pos : Pos} : PPs X pos [] [] [] := fun pins s σ H Q I h => pairTrees_nil_walk ⟨[], H, I, .nil, h⟩
theorem pps_cons {X : Cx} {pos : Pos} {k v : Expr} {ks : List (Option Expr)} {vs : List Expr} {tk tv : TE} {trs : List (TE × TE)} (hk : PE X k tk) (hv : PE X v tv) (hr : PPs X pos ks vs trs) :
    PPs X pos (some k :: ks) (v :: vs) ((tk, tv) :: trs) := fun pins s σ H Q I h =>
  pairTrees_cons_walk (thn (hk pins s σ H _ I h) fun u s1 ⟨x, H1, I1, rx, q1⟩ => thn (hv pins s1 σ H1 _ I1 q1) fun w2 s2 ⟨y, H2, I2, ry, q2⟩ =>
    thn (hr pins s2 σ H2 _ I2 q2) fun ws s3 ⟨ps, H3, I3, rel, q3⟩ => ⟨(x, y) :: ps, H3, I3, .cons ⟨rx, ry⟩ rel, q3⟩)
def mergeK (kvs more : List (Key × V)) : List (Key × V) := more.foldl (fun acc kv => putK acc kv.1 kv.2) kvs
theorem KV.merge : ∀ {more : List (Key × V)} {rs : List (Key × Value)} {kvs : List (Key × V)} {vs : List (Key × Value)}, KV more rs → KV kvs vs → KV (mergeK kvs more) (merged vs rs) := by
  intro more rs kvs vs r
  unfold KV at r
  induction r generalizing kvs vs with
  | nil => intro q; exact q
  | @cons p q ps qs h t ih =>
    intro r0
    have e : KV (putK kvs p.1 p.2) (stored vs q.1 q.2) := by
      have := r0.put p.1 h.2
      rw [← h.1]; exact this
    exact ih e
theorem length_mergeK : ∀ (more kvs : List (Key × V)), (mergeK kvs more).length ≤ kvs.length + more.length
  | [], kvs => by show kvs.length ≤ kvs.length + 0; omega
  | p :: r, kvs => by
    have h1 := length_mergeK r (putK kvs p.1 p.2)
    have h2 := length_putK kvs p.1 p.2
    show (mergeK (putK kvs p.1 p.2) r).length ≤ _
    rw [List.length_cons]; omega
theorem carries_of {P : Program} {w : World} : ∀ {kvs : List (Key × V)} {ws : List (Value × Value)}, VV (kvs.map fun kv => (kV kv.1, kv.2)) ws → ∃ rs, Carries (mixKind P w) ws rs ∧ KV kvs rs
  | [], _, r => by rw [List.map_nil] at r; cases r; exact ⟨[], True.intro, .nil⟩
  | p :: kvs, _, r => by
    rw [List.map_cons] at r
    cases r with
    | @cons a b as bs h t =>
      obtain ⟨rs, c, q⟩ := carries_of (P := P) (w := w) t
      obtain ⟨b1, b2⟩ := b
      exact ⟨(p.1, b2) :: rs, ⟨kV_is h.1, rfl, c⟩, .cons ⟨rfl, h.2⟩ q⟩
def tDisp (trs : List (TE × TE)) : TE := fun σ H Q => ∀ p, H p = none → tPairs trs σ (upd H p (.dK [])) fun ps H2 => H2 p = some (.dK []) ∧ ∃ kvs : List (Key × V), ps = kvs.map (fun kv => (kV kv.1, kv.2)) ∧ kvs.length ≤ 15 ∧ Q (.ref p) (upd H2 p (.dK (mergeK [] kvs)))
theorem pe_disp {X : Cx} {pos : Pos} {keys : List (Option Expr)} {values : List Expr} {trs : List (TE × TE)} (h : PPs X pos keys values trs) (hall : keys.all (·.isSome) = true) (hl : keys.length = values.length) (h0 : keys ≠ [])
    (h15 : keys.length ≤ 15) : PE X (.Dict keys values pos) (tDisp trs) := by
  intro pins s σ H Q I q
  have hn := I.hok.fresh (Nat.le_refl s.heap.objs.size)
  have I1 := I.laid (a := s.heap.objs.size) (o := .dK []) (h' := s.heap.push { cls := .type "dict", data := .dict #[] }) (t' := s.toks) (fun _ _ q => Heap.get?_push_of_some _ q) (Nat.le_refl _) (dk_empty s.heap I.big)
  refine wpAny_Dict_walk (knd := mixKind X.prog X.w) hall hl h0 h15 (thn (h pins _ σ _ _ I1 (q _ hn)) fun ws s2 ⟨ps, H2, I2, rel, e, kvs, ep, lk, q2⟩ => ?_)
  subst ep
  obtain ⟨rs, c, rk⟩ := carries_of (P := X.prog) (w := X.w) rel
  obtain ⟨z, hd, vs0, r0, dd⟩ := dk_of I2.hok e
  cases r0
  refine ⟨rs, c, dd, fun h' dd' hs => ⟨.ref s.heap.objs.size, _, ?_, rfl, q2⟩⟩
  have hz : (mergeK [] kvs).length ≤ sizeLine := by
    have h1 := length_mergeK kvs []
    rw [List.length_nil] at h1
    rw [sizeLine_eq]; omega
  have he : ∃ q, h'.get? s.heap.objs.size = some q := let ⟨q, _, _, hq, _⟩ := dd'; ⟨q, hq⟩
  exact d_write I2 (by rw [e]; exact True.intro) hs he (dk_new hz hd (rk.merge .nil) dd')
structure M1 (X : Cx) (o : Expr) (m : Str) (apos : Pos) (e : Expr) (cpos : Pos) : Prop where
  base : attributeBase o m X.env (eval o X.env) = eval o X.env
  few : ((backTo cpos (starEach [e] X.env)).all (fun x => !x.1) && (backToKw cpos (keywordEach [] X.env)).all (fun x => x.1.isSome)
    && decide (([e] : List Expr).length + ([] : List Keyword).length + (if ([] : List Keyword).isEmpty then 0 else 1) < 30)) = true
  line : (apos.endLine == cpos.line) = true
  trees : backTo cpos (starEach [e] X.env) = [(false, eval e X.env)]
structure M2 (X : Cx) (o : Expr) (m : Str) (apos : Pos) (e f : Expr) (cpos : Pos) : Prop where
  base : attributeBase o m X.env (eval o X.env) = eval o X.env
  few : ((backTo cpos (starEach [e, f] X.env)).all (fun x => !x.1) && (backToKw cpos (keywordEach [] X.env)).all (fun x => x.1.isSome)
    && decide (([e, f] : List Expr).length + ([] : List Keyword).length + (if ([] : List Keyword).isEmpty then 0 else 1) < 30)) = true
  line : (apos.endLine == cpos.line) = true
  trees : backTo cpos (starEach [e, f] X.env) = [(false, eval e X.env), (false, eval f X.env)]
def IsD (H : Hp) (a : Addr) : Prop := (∃ kvs, Rd H a (.dK kvs)) ∨ ∃ kvs, Rd H a (.dT kvs)
section
variable {X : Cx} {pins : List (Addr × Obj)} {σ : St} {H : Hp} {s : Shared} {a : Addr} {y d : V} {u r : Value} {o : Option V} {A : Around} {E : Value → Shared → Prop}
end
def tDGet1 (td ty : TE) : TE := fun σ H Q => td σ H fun x H1 => ∃ a, x = .ref a ∧ IsD H1 a ∧ ty σ H1 fun y H2 => ∃ o, DGet H2 a y o ∧ Q (o.getD .non) H2
def tDGet2 (td ty tx : TE) : TE := fun σ H Q => td σ H fun x H1 => ∃ a, x = .ref a ∧ IsD H1 a ∧ ty σ H1 fun y H2 => tx σ H2 fun z H3 => ∃ o, DGet H3 a y o ∧ Q (o.getD z) H3
def tDPop1 (td ty : TE) : TE := fun σ H Q => td σ H fun x H1 => ∃ a, x = .ref a ∧ IsD H1 a ∧ ty σ H1 fun y H2 => ∃ kvs k v, H2 a = some (.dK kvs) ∧ y = kV k ∧ valV kvs k = some v ∧ Q v (upd H2 a (.dK (dropK kvs k)))
def tDPop2 (td ty tx : TE) : TE := fun σ H Q => td σ H fun x H1 => ∃ a, x = .ref a ∧ IsD H1 a ∧ ty σ H1 fun y H2 => tx σ H2 fun z H3 => ∃ kvs k, H3 a = some (.dK kvs) ∧ y = kV k ∧
  (∀ v, valV kvs k = some v → Q v (upd H3 a (.dK (dropK kvs k)))) ∧ (valV kvs k = none → Q z H3)
section
variable {X : Cx} {o e f : Expr} {apos cpos : Pos} {td ty tx : TE}
end
section
variable {X : Cx} {pins : List (Addr × Obj)} {σ : St} {H : Hp} {s : Shared} {a : Addr} {kvs : List (Key × V)} {A : Around} {E : Value → Shared → Prop}
end
section
variable {X : Cx} {pins : List (Addr × Obj)} {σ : St} {H : Hp} {s : Shared} {a : Addr} {y : V} {u : Value} {A : Around} {E : Value → Shared → Prop}
end
section
variable {X : Cx}
end
section
variable {κ : Type} [DecidableEq κ]
end
end L2

namespace L2
open PySem PySem.Spec PyProof.Rows
structure DefOk (P : Program) (w : World) (K : PySem.W.Frag) (mg : Str → Option Value) (base : Heap) (CX : CXT) (k : Nat) (x : Str) (ps : List Str) (sp : Sp) : Prop where
  ex : ∃ (f : Addr) (fd : FuncData), FnOk P w K mg base CX k f fd ps sp ∧ Binds K fd ps [] ∧ PySem.W.keepIn K (.ref f) = true ∧ mg x = some (.ref f)
theorem DefOk.mono {P : Program} {w : World} {K : PySem.W.Frag} {mg : Str → Option Value} {base : Heap} {CX : CXT} {j k : Nat} {x : Str} {ps : List Str} {sp : Sp} (D : DefOk P w K mg base CX j x ps sp) (h : j ≤ k) : DefOk P w K mg base CX k x ps sp := by
  obtain ⟨f, fd, F, b⟩ := D.ex
  exact ⟨f, fd, F.mono h, b⟩
section
variable {X : Cx} {CX : CXT} {k : Nat} {ps : List Str} {sp : Sp} {E : XK} {x : Str} {p pos : Pos} {e : Expr} {es : List Expr} {t : TA}
theorem pe_callD (D : DefOk X.prog X.w X.K X.mg X.base CX k x ps sp) (hr : Room k X.A) (hg : Gl X x) (hx : Passes CX X E) (ha : PA X (e :: es) t) (hdb : (x == ("__debug__" : Str)) = false := by decide)
    (he : starEach (e :: es) X.env = (false, eval e X.env) :: starEach es X.env := by rfl) (hpl : (backTo pos (starEach es X.env)).any (·.1) = false := by rfl) :
    PE X (.Call (.Name x p) (e :: es) [] pos) (tCall sp [] E t) := by
  obtain ⟨f, fd, F, b, kp, m⟩ := D.ex
  exact pe_call F hr hg m kp b .nil hx ha hdb he hpl
end
def CDivW (_ j : Int) : Prop := 0 < j ∧ j < 2 ^ 64
theorem op_fdivW {X : Cx} : OpR X (binaryOp .FloorDiv) (rI CDivW fun i j => .int (i / j)) := opI fun i j _ _ _ _ _ hc q => by
  have h1 : (0 : Int) < j := hc.1
  have h2 : j < 2 ^ 64 := hc.2
  have h3 : j.natAbs.log2 < 64 := (Nat.log2_lt (by omega)).mpr (by omega)
  exact floordiv_int (by omega) (by rw [Int.fdiv_eq_ediv_of_nonneg i (by omega)]; exact q) (.inl (PyProof.noPylong_of_log2 (by omega)))
def Ch (W : List Addr) (H H' : Hp) : Prop := ∀ b o, H b = some o → b ∉ W → H' b = some o
theorem Ch.refl (W : List Addr) (H : Hp) : Ch W H H := fun _ _ h _ => h
theorem Ch.trans {W : List Addr} {H H1 H2 : Hp} (a : Ch W H H1) (b : Ch W H1 H2) : Ch W H H2 := fun c o h n => b c o (a c o h n) n
theorem Ch.get {W : List Addr} {H H' : Hp} {b : Addr} {o : HO} (c : Ch W H H') (h : H b = some o) (n : b ∉ W) : H' b = some o := c b o h n
theorem Ch.mono {W W' : List Addr} {H H' : Hp} (c : Ch W H H') (h : ∀ b ∈ W, b ∈ W') : Ch W' H H' := fun b o q n => c b o q fun z => n (h b z)
theorem Ch.wk {W : List Addr} {H H' : Hp} (c : Ch [] H H') : Ch W H H' := c.mono fun b h => nomatch h
theorem Ch.new {W : List Addr} {H : Hp} {p : Addr} (h : H p = none) (o : HO) : Ch W H (upd H p o) := fun b u q _ => by rw [upd_ne (ne_of_none q h)]; exact q
theorem Ch.put {H : Hp} {p : Addr} {o : HO} : Ch [p] H (upd H p o) := fun b u q n => by rw [upd_ne (fun z => n (by simp [z]))]; exact q
def Scr (K : PySem.W.Frag) (H : Hp) (a : Addr) (ns : List Int) : Prop :=
  ns.length ≤ 63 ∧ ((∃ o, H a = some (.frz o (.lst (ns.map V.int)))) ∨
    ∃ (o : Obj) (its : Array Value) (n : Nat), K.lookup a = some o ∧ o.cls = .type "list" ∧ o.dict = none ∧ o.data = .seq its n ∧ its.size ≤ sizeLine ∧ Vals (ns.map V.int) its.toList)
theorem Scr.sq {K : PySem.W.Frag} {H : Hp} {a : Addr} {ns : List Int} (S : Scr K H a ns) : SqL K H a (ns.map V.int) := by
  rcases S.2 with ⟨o, h⟩ | h
  · exact .inl (.inr ⟨o, h⟩)
  · exact .inr h
theorem Scr.ch {K : PySem.W.Frag} {H H' : Hp} {a b : Addr} {ns : List Int} {xs : List V} (S : Scr K H a ns) (hb : H b = some (.lst xs)) (c : Ch [b] H H') : Scr K H' a ns := by
  refine ⟨S.1, ?_⟩
  rcases S.2 with ⟨o, h⟩ | h
  · exact .inl ⟨o, c.get h (by
      intro z
      have e : a = b := by simpa using z
      subst e
      rw [h] at hb
      cases hb)⟩
  · exact .inr h
theorem Scr.same {K : PySem.W.Frag} {H H' : Hp} {a : Addr} {ns : List Int} (S : Scr K H a ns) (c : Ch [] H H') : Scr K H' a ns := by
  refine ⟨S.1, ?_⟩
  rcases S.2 with ⟨o, h⟩ | h
  · exact .inl ⟨o, c.get h (by simp)⟩
  · exact .inr h
theorem Scr.of {K : PySem.W.Frag} {H : Hp} {a : Addr} {ns : List Int} (h : SqL K H a (ns.map V.int)) (hl : ns.length ≤ 63) (hO : Only H) : Scr K H a ns := by
  refine ⟨hl, ?_⟩
  rcases h with (h | ⟨o, h⟩) | h
  · rcases hO a with z | ⟨o, xs, z⟩
    · rw [h] at z; cases z
    · rw [h] at z; cases z
  · exact .inl ⟨o, h⟩
  · exact .inr h
end L2
namespace L2
open PySem PySem.Spec PyProof.Rows
theorem g_new {H : Hp} {p q : Addr} {o u : HO} (hq : H q = none) (h : H p = some o) : upd H q u p = some o := by rw [upd_ne (ne_of_none h hq)]; exact h
theorem g_put {H : Hp} {p q : Addr} {o u : HO} (n : p ≠ q) (h : H p = some o) : upd H q u p = some o := by rw [upd_ne n]; exact h
structure Loop (J : It) (g : TG) (tb : TS) (D : Ends) (σ : St) (H : Hp) : Prop where
  ex : ∃ W : Nat → Nat → St → Hp → Prop, (∃ m, W 0 m σ H) ∧ ∀ i m σ H, W i m σ H →
    (J.stop i H ∧ D.nx σ H) ∨ (J.go i H ∧ ∃ N : St → Hp → Prop, (∀ σ' H', N σ' H' → ∃ m', m' < m ∧ W (i + 1) m' σ' H') ∧ ∀ x H', J.yld i H x H' → g x σ H' fun σ2 H2 => tb { D with nx := N, ct := N, bk := D.nx } σ2 H2)
def tLoop (wi : TI) (g : TG) (tb : TS) : TS := fun D σ H => wi σ H fun J H1 => Loop J g tb D σ H1
theorem ps_loop {X : Cx} {tg iter : Expr} {body : List Stmt} {wi : TI} {g : TG} {tb : TS} {pos : Pos} (hp : PassesOwn (model X.prog X.w) X.A X.env X.xe) (hc : X.calm = true) (hi : PI X tg iter wi) (hg : PG X tg g) (hb : PSs X body tb)
    (hs : ∀ x, foldedSetIterable iter X.env x = pure x := by intro _; rfl) : PS X (.For tg iter body [] pos) (tLoop wi g tb) := by
  have hi' : PI X tg iter (fun σ H R => ∃ R0 : It → Hp → Prop, wi σ H R0 ∧ ∀ J H1, R0 J H1 → R J H1) := by
    intro pins s σ H R I ⟨R0, h, m⟩
    refine thn (hi pins s σ H _ I h) fun v s1 h1 => thn h1 fun itv s2 h2 => ?_
    obtain ⟨it, fp, tn, J, H2, e, I2, T, st2, f2, r⟩ := h2
    exact ⟨it, fp, tn, J, H2, e, I2, T, st2, f2, m _ _ r⟩
  intro pins s σ H D I h
  exact ps_for hp hc hi' hg hb hs pins s σ H D I ⟨_, h, fun J H1 l => l.ex⟩
theorem loop_list {K : PySem.W.Frag} {a : Addr} {xs : List V} {g : TG} {tb : TS} {D : Ends} {σ : St} {H : Hp} (Pv : Nat → St → Hp → Prop) (h0 : Pv 0 σ H) (hl : ∀ i σ H, i ≤ xs.length → Pv i σ H → SqL K H a xs)
    (hs : ∀ i x σ H, xs[i]? = some x → Pv i σ H → g x σ H fun σ2 H2 => tb { D with nx := Pv (i + 1), ct := Pv (i + 1), bk := D.nx } σ2 H2) (hd : ∀ σ H, Pv xs.length σ H → D.nx σ H) : Loop (Itl K a) g tb D σ H := ⟨for_list Pv h0 hl hs hd⟩
theorem loop_tup {K : PySem.W.Frag} {a : Addr} {xs : List V} {g : TG} {tb : TS} {D : Ends} {σ : St} {H : Hp} (Pv : Nat → St → Hp → Prop) (h0 : Pv 0 σ H) (hl : ∀ i σ H, i ≤ xs.length → Pv i σ H → SqT K H a xs)
    (hs : ∀ i x σ H, xs[i]? = some x → Pv i σ H → g x σ H fun σ2 H2 => tb { D with nx := Pv (i + 1), ct := Pv (i + 1), bk := D.nx } σ2 H2) (hd : ∀ σ H, Pv xs.length σ H → D.nx σ H) : Loop (Itt K a) g tb D σ H := ⟨for_tup Pv h0 hl hs hd⟩
theorem loop_range {lo : Int} {n : Nat} {g : TG} {tb : TS} {D : Ends} {σ : St} {H : Hp} (Pv : Nat → St → Hp → Prop) (h0 : Pv 0 σ H)
    (hs : ∀ i σ H, i < n → Pv i σ H → g (.int (lo + i)) σ H fun σ2 H2 => tb { D with nx := Pv (i + 1), ct := Pv (i + 1), bk := D.nx } σ2 H2) (hd : ∀ σ H, Pv n σ H → D.nx σ H) : Loop (Itr lo n) g tb D σ H := ⟨for_range Pv h0 hs hd⟩
structure Cut (t u : TS) (D : Ends) (σ : St) (H : Hp) : Prop where
  ex : ∃ P : St → Hp → Prop, t { D with nx := P } σ H ∧ ∀ σ' H', P σ' H' → u D σ' H'
def tCut (t u : TS) : TS := fun D σ H => Cut t u D σ H
theorem pss_cut {X : Cx} {st : Stmt} {rest : List Stmt} {t u : TS} (h1 : PS X st t) (h2 : PSs X rest u) : PSs X (st :: rest) (tCut t u) := by
  intro pins s σ H D I h
  obtain ⟨P, a, b⟩ := h.ex
  have h1' : PS X st (fun D' σ' H' => ∃ P : St → Hp → Prop, t { D' with nx := P } σ' H' ∧ ∀ σ2 H2, P σ2 H2 → D'.nx σ2 H2) := by
    intro pins s σ H D I ⟨P, a, b⟩
    refine thn (h1 pins s σ H _ I a) fun f s' q => ?_
    cases f with
    | next => obtain ⟨σ7, H7, I7, n7⟩ := q; exact ⟨σ7, H7, I7, b _ _ n7⟩
    | cont => exact q
    | brk => exact q
    | ret v => exact q
  exact pss_cons h1' h2 pins s σ H D I ⟨P, a, b⟩
theorem cut_by {t u : TS} {D : Ends} {σ : St} {H : Hp} (P : St → Hp → Prop) (h1 : t { D with nx := P } σ H) (h2 : ∀ σ' H', P σ' H' → u D σ' H') : Cut t u D σ H := ⟨P, h1, h2⟩
theorem atI_ints {ns : List Int} {i : Int} (h0 : 0 ≤ i) (h1 : i < (ns.length : Int)) : ∃ n : Int, atI (ns.map V.int) i = some (.int n) := by
  have hk : i.toNat < ns.length := by omega
  have ek : i = ((i.toNat : Nat) : Int) := by omega
  have q : atI (ns.map V.int) ((i.toNat : Nat) : Int) = some (.int ns[i.toNat]) := atI_nat (by rw [List.getElem?_map, List.getElem?_eq_getElem hk]; rfl)
  rw [← ek] at q
  exact ⟨_, q⟩
end L2

namespace L2
open PySem PySem.Spec PyProof.Rows
structure Atx {α : Type} (xs : List α) (i : Int) (R : α → Prop) : Prop where
  ex : ∃ v, atI xs i = some v ∧ R v
theorem Atx.of {α : Type} {xs : List α} {i : Int} {v : α} {R : α → Prop} (h : atI xs i = some v) (r : R v) : Atx xs i R := ⟨v, h, r⟩
theorem atI_get0 {α : Type} {xs : List α} {i : Int} (h0 : 0 ≤ i) (h1 : i < (xs.length : Int)) : ∃ h : i.toNat < xs.length, atI xs i = some xs[i.toNat] := by
  have hk : i.toNat < xs.length := by omega
  have ek : i = ((i.toNat : Nat) : Int) := by omega
  have q : atI xs ((i.toNat : Nat) : Int) = some xs[i.toNat] := atI_nat (List.getElem?_eq_getElem hk)
  rw [← ek] at q
  exact ⟨hk, q⟩
theorem Atx.any {α : Type} {xs : List α} {i : Int} {R : α → Prop} (h0 : 0 ≤ i) (h1 : i < (xs.length : Int)) (h : ∀ v, v ∈ xs → atI xs i = some v → R v) : Atx xs i R := by
  obtain ⟨hk, q⟩ := atI_get0 h0 h1
  exact ⟨_, q, h _ (List.getElem_mem hk) q⟩
section
variable {X : Cx}
theorem IxR.imp {r r' : R2} (h : IxR X r) (f : ∀ x y H Q, r' x y H Q → r x y H Q) : IxR X r' := fun value slice pins s σ H x y v u Q I rx ry q hs => h value slice pins s σ H x y v u Q I rx ry (f _ _ _ _ q) hs
def aIxL (K : PySem.W.Frag) : R2 := fun x y H Q => ∃ p xs i, x = .ref p ∧ y = .int i ∧ SqL K H p xs ∧ Atx xs i fun v => Q v H
def aIxT (K : PySem.W.Frag) : R2 := fun x y H Q => ∃ p xs i, x = .ref p ∧ y = .int i ∧ SqT K H p xs ∧ Atx xs i fun v => Q v H
def aIxS : R2 := fun x y H Q => ∃ z i, x = .str z ∧ y = .int i ∧ z.length ≤ sizeLine ∧ Atx z.cps.toList i fun c => Q (.str ⟨#[c]⟩) H
theorem ixa_list : IxR X (aIxL X.K) := ix_list.imp fun x y H Q ⟨p, xs, i, e1, e2, h, a⟩ => let ⟨v, hv, q⟩ := a.ex; ⟨p, xs, i, v, e1, e2, h, hv, q⟩
theorem ixa_tup : IxR X (aIxT X.K) := ix_tup.imp fun x y H Q ⟨p, xs, i, e1, e2, h, a⟩ => let ⟨v, hv, q⟩ := a.ex; ⟨p, xs, i, v, e1, e2, h, hv, q⟩
end
end L2
namespace L2
open PySem
section
variable {es : List Expr} {env : Env}
theorem se_Name {x pos} : starEach (.Name x pos :: es) env = (false, eval (.Name x pos) env) :: starEach es env := rfl
theorem se_Constant {c k pos} : starEach (.Constant c k pos :: es) env = (false, eval (.Constant c k pos) env) :: starEach es env := rfl
theorem se_BinOp {a o b pos} : starEach (.BinOp a o b pos :: es) env = (false, eval (.BinOp a o b pos) env) :: starEach es env := rfl
theorem se_UnaryOp {a o pos} : starEach (.UnaryOp o a pos :: es) env = (false, eval (.UnaryOp o a pos) env) :: starEach es env := rfl
theorem se_Call {a o b pos} : starEach (.Call a o b pos :: es) env = (false, eval (.Call a o b pos) env) :: starEach es env := rfl
theorem se_Tuple {a k pos} : starEach (.Tuple a k pos :: es) env = (false, eval (.Tuple a k pos) env) :: starEach es env := rfl
theorem se_List {a pos} : starEach (.List a pos :: es) env = (false, eval (.List a pos) env) :: starEach es env := rfl
theorem se_Subscript {a b pos} : starEach (.Subscript a b pos :: es) env = (false, eval (.Subscript a b pos) env) :: starEach es env := rfl
theorem se_Compare {a b c pos} : starEach (.Compare a b c pos :: es) env = (false, eval (.Compare a b c pos) env) :: starEach es env := rfl
theorem se_Attribute {a b pos} : starEach (.Attribute a b pos :: es) env = (false, eval (.Attribute a b pos) env) :: starEach es env := rfl
theorem se_ListComp {a b c pos} : starEach (.ListComp a b c pos :: es) env = (false, eval (.ListComp a b c pos) env) :: starEach es env := rfl
theorem se_Dict {a b pos} : starEach (.Dict a b pos :: es) env = (false, eval (.Dict a b pos) env) :: starEach es env := rfl
end
end L2
namespace L2
open PySem
theorem Ch.own {W : List Addr} {H H' : Hp} {p : Addr} {o : HO} (n : H p = none) (c : Ch W H H') : Ch W H (upd H' p o) := fun b u h k => by
  rw [upd_ne (ne_of_none h n)]
  exact c b u h k
theorem cut1_not (x : V) (ys : List V) : ¬ (HT.sIx (x :: ys).length 0 (some 1) = 0 ∧ HT.sIx (x :: ys).length (x :: ys).length none = (x :: ys).length) := by
  intro h
  have e : HT.sIx (x :: ys).length 0 (some 1) = 1 := by
    have z := HT.sIx_nat (x :: ys).length 0 1
    rw [List.length_cons] at z ⊢
    refine z.trans ?_
    omega
  rw [e] at h
  exact absurd h.1 (by decide)
end L2
namespace L2
open PySem
theorem Atx.head {α : Type} {x : α} {xs : List α} {R : α → Prop} (r : R x) : Atx (x :: xs) 0 R := ⟨x, atI_nat (j := 0) rfl, r⟩
end L2

namespace L2
open PySem PySem.Spec PyProof.Rows
inductive SK where
  | list | tuple
def SIt (k : SK) (h : Heap) (it l : Addr) (i : Nat) : Prop := match k with
  | .list => h.IsListIter it l i
  | .tuple => h.IsTupleIter it l i
def SIs (k : SK) (h : Heap) (l : Addr) (items : Array Value) : Prop := match k with
  | .list => h.IsList l items
  | .tuple => h.IsTuple l items
def Sq (k : SK) (K : PySem.W.Frag) (H : Hp) (a : Addr) (xs : List V) : Prop := match k with
  | .list => SqL K H a xs
  | .tuple => SqT K H a xs
theorem SIt.at {k : SK} {h h' : Heap} {a l i} (x : SIt k h a l i) (e : ∀ o, h.get? a = some o → h'.get? a = some o) : SIt k h' a l i := by
  cases k with
  | list => exact Heap.IsListIter.at x e
  | tuple => exact Heap.IsTupleIter.at x e
theorem SIt.obj {k : SK} {h : Heap} {a l i} (x : SIt k h a l i) : ∃ o, h.get? a = some o ∧ ∀ v, o.data ≠ .cell v := by
  cases k with
  | list => obtain ⟨o, e, c, d⟩ := (show h.IsListIter a l i from x); exact ⟨o, e, fun v z => by rw [d] at z; cases z⟩
  | tuple => obtain ⟨o, e, c, d⟩ := (show h.IsTupleIter a l i from x); exact ⟨o, e, fun v z => by rw [d] at z; cases z⟩
theorem SIs.at {k : SK} {h h' : Heap} {a items} (x : SIs k h a items) (e : ∀ o, h.get? a = some o → h'.get? a = some o) : SIs k h' a items := by
  cases k with
  | list => exact Heap.IsList.at x e
  | tuple => obtain ⟨o, ho, r⟩ := (show h.IsTuple a items from x); exact ⟨o, e _ ho, r⟩
theorem SIs.lt {k : SK} {h : Heap} {a items} (x : SIs k h a items) : a < h.objs.size := by
  cases k with
  | list => obtain ⟨_, e, _⟩ := (show h.IsList a items from x); exact Heap.lt_size e
  | tuple => obtain ⟨_, e, _⟩ := (show h.IsTuple a items from x); exact Heap.lt_size e
section
variable {prog : Program} {w : World} {A : Around} {E : Value → Shared → Prop} {s : Shared}
theorem nextOf_tuple_item {it l : Addr} {i : Nat} {items} {x : Value} {Q : Value → Shared → Prop} (hit : s.heap.IsTupleIter it l i)
    (hl : s.heap.IsTuple l items) (hx : items[i]? = some x)
    (hQ : ∀ h', h'.IsTupleIter it l (i + 1) → Heap.SameBut it s.heap h' → Q x { s with heap := h' }) :
    wpAny (model prog w) A (Builtin.SmallTypes.nextOf (.ref it)) Q E s := by
  obtain ⟨o, ho, hc, hd⟩ := id hit
  obtain ⟨ol, hol, _, nl, hdl⟩ := hl
  unfold Builtin.SmallTypes.nextOf
  refine wpAny_bind (wpAny_callSpecial?_slot (name := Str.ofString "__next__") hit.typeIs F.slot_tuple_iterator_next
    (wpAny_call_entry F.slot_tuple_iterator_next hit.typeIs F.entry_tuple_iterator_next ?_ (F.args_tuple_iterator_next_1 _)))
  show wpAny _ _ (field (.ref it) 0 >>= _) _ _ s
  refine wpAny_bind (wpAny_field ho hd (x := .ref l) rfl ?_)
  show wpAny _ _ (if (Value.ref l == Value.none) = true then _ else _) _ _ s
  rw [if_neg (show ¬ ((Value.ref l == Value.none) = true) from Bool.false_ne_true)]
  show wpAny _ _ (field (.ref it) 1 >>= _) _ _ s
  refine wpAny_bind (wpAny_field ho hd (x := .int i 0) rfl ?_)
  show wpAny _ _ (seqItems? (.ref l) >>= _) _ _ s
  refine wpAny_bind (wpAny_seqItems hol hdl ?_)
  simp only [Int.toNat_natCast, hx]
  refine wpAny_bind (wpAny_setField ho hd (by simp) (wpAny_pure ⟨x, rfl, wpAny_pure (hQ _ ?_ (Heap.SameBut.update ..))⟩))
  exact ⟨_, Heap.get?_update_self _ ho (Obj.isFreed_of_fields (Obj.data_mapFields hd _)), (Obj.cls_mapFields ..).trans hc, by
    rw [Obj.data_mapFields hd]; simp [rawInt]⟩
theorem nextOf_tuple_end {it l : Addr} {i : Nat} {items} {Q : Value → Shared → Prop} (hh : A.handled = none)
    (hit : s.heap.IsTupleIter it l i) (hl : s.heap.IsTuple l items) (hx : items[i]? = none)
    (hE : ∀ h' e, Heap.ExtBut it s.heap h' → (∃ o, h'.get? e = some o ∧ o.cls = .type "StopIteration") → E (.ref e) { s with heap := h' }) :
    wpAny (model prog w) A (Builtin.SmallTypes.nextOf (.ref it)) Q E s := by
  obtain ⟨o, ho, hc, hd⟩ := id hit
  obtain ⟨ol, hol, _, nl, hdl⟩ := hl
  unfold Builtin.SmallTypes.nextOf
  refine wpAny_bind (wpAny_callSpecial?_slot (name := Str.ofString "__next__") hit.typeIs F.slot_tuple_iterator_next
    (wpAny_call_entry F.slot_tuple_iterator_next hit.typeIs F.entry_tuple_iterator_next ?_ (F.args_tuple_iterator_next_1 _)))
  show wpAny _ _ (field (.ref it) 0 >>= _) _ _ s
  refine wpAny_bind (wpAny_field ho hd (x := .ref l) rfl ?_)
  show wpAny _ _ (if (Value.ref l == Value.none) = true then _ else _) _ _ s
  rw [if_neg (show ¬ ((Value.ref l == Value.none) = true) from Bool.false_ne_true)]
  show wpAny _ _ (field (.ref it) 1 >>= _) _ _ s
  refine wpAny_bind (wpAny_field ho hd (x := .int i 0) rfl ?_)
  show wpAny _ _ (seqItems? (.ref l) >>= _) _ _ s
  refine wpAny_bind (wpAny_seqItems hol hdl ?_)
  simp only [Int.toNat_natCast, hx]
  refine wpAny_bind (wpAny_rule (wpAny_bind (wpAny_setField ho hd (by simp) ?_)))
  show wpAny _ _ (newExc (.type "StopIteration") [] >>= _) _ _ _
  refine wpAny_bind ?_
  simp only [newExc, newTuple]
  refine wpAny_bind (wpAny_newObj_type ?_ (by size_fits))
  refine wpAny_bind (m := firstArgMember _ _) (wpAny_of_eq (a := Value.none) (by first | rfl | (simp only [firstArgMember]; rfl)) ?_)
  refine wpAny_newObj_type ?_ (by size_fits)
  simp only [raiseNew]
  refine wpAny_bind (wpAny_handled ?_)
  first | rw [show A.in1.handled = none from hh] | rw [hh]
  refine wpAny_bind (wpAny_pure (wpAny_throw ?_))
  exact hE _ _ (((Heap.SameBut.update ..).extBut.push _).push _) ⟨_, Heap.get?_push_size _ rfl, rfl⟩
theorem nextOf_item {k : SK} {it l : Addr} {i : Nat} {items} {x : Value} {Q : Value → Shared → Prop} (hit : SIt k s.heap it l i) (hl : SIs k s.heap l items) (hx : items[i]? = some x)
    (hQ : ∀ h', SIt k h' it l (i + 1) → Heap.SameBut it s.heap h' → Q x { s with heap := h' }) : wpAny (model prog w) A (Builtin.SmallTypes.nextOf (.ref it)) Q E s := by
  cases k with
  | list => exact wpAny_nextOf_list_item hit hl hx hQ
  | tuple => exact nextOf_tuple_item hit hl hx hQ
theorem nextOf_end {k : SK} {it l : Addr} {i : Nat} {items} {Q : Value → Shared → Prop} (hh : A.handled = none) (hit : SIt k s.heap it l i) (hl : SIs k s.heap l items) (hx : items[i]? = none)
    (hE : ∀ h' e, Heap.ExtBut it s.heap h' → (∃ o, h'.get? e = some o ∧ o.cls = .type "StopIteration") → E (.ref e) { s with heap := h' }) :
    wpAny (model prog w) A (Builtin.SmallTypes.nextOf (.ref it)) Q E s := by
  cases k with
  | list => exact wpAny_nextOf_list_end hh hit hl hx hE
  | tuple => exact nextOf_tuple_end hh hit hl hx hE
theorem SIt.ext {k : SK} {h h' : Heap} {a b l i} (x : SIt k h a l i) (hs : Heap.ExtBut b h h') (hab : a ≠ b) : SIt k h' a l i := x.at fun o e => hs _ _ hab e
theorem SIs.ext {k : SK} {h h' : Heap} {a b items} (x : SIs k h a items) (hs : Heap.ExtBut b h h') (hab : a ≠ b) : SIs k h' a items := x.at fun o e => hs _ _ hab e
theorem zipS_item {k1 k2 : SK} {z TI TO i1 i2 l1 l2 : Addr} {n1 n2 : Nat} {xs ys : Array Value} {x y a b : Value} {Q : Value → Shared → Prop} (D : ZipApart z TI TO i1 i2 l1 l2)
    (hz : IsZip s.heap z TI TO .none) (hTI : IsPair s.heap TI (.ref i1) (.ref i2)) (hTO : IsPair s.heap TO a b)
    (h1 : SIt k1 s.heap i1 l1 n1) (h2 : SIt k2 s.heap i2 l2 n2) (hl1 : SIs k1 s.heap l1 xs) (hl2 : SIs k2 s.heap l2 ys) (hx : xs[n1]? = some x) (hy : ys[n2]? = some y)
    (hQ : ∀ h', IsZip h' z TI TO (rawInt s.heap.objs.size) → IsPair h' TO x y → SIt k1 h' i1 l1 (n1 + 1) → SIt k2 h' i2 l2 (n2 + 1) → IsPair h' s.heap.objs.size x y → h'.objs.size = s.heap.objs.size + 1 →
      (∀ c o, c ≠ z → c ≠ TO → c ≠ i1 → c ≠ i2 → s.heap.get? c = some o → h'.get? c = some o) → Q (.ref s.heap.objs.size) { s with heap := h' }) :
    wpAny (model prog w) A (Builtin.«zip.__next__» ⟨[.ref z], []⟩) (fun fin s' => ∃ v, fin = .done (.ret v) ∧ Q v s') E s := by
  show wpAny _ _ (field (.ref z) 2 >>= _) _ _ _
  refine wpAny_bind (wpAny_field hz rfl (x := .bool false) rfl ?_)
  show wpAny _ _ (field (.ref z) 3 >>= _) _ _ _
  refine wpAny_bind (wpAny_field hz rfl (x := .ref TI) rfl ?_)
  refine wpAny_bind (wpAny_seqItems hTI rfl ?_)
  show wpAny _ _ (Builtin.SmallTypes.ownedTupleIsFree (.ref z) >>= _) _ _ _
  refine wpAny_bind ?_
  unfold Builtin.SmallTypes.ownedTupleIsFree
  refine wpAny_bind (wpAny_field hz rfl (x := .none) rfl (wpAny_pure ?_))
  simp only [if_true]
  refine wpAny_bind (wpAny_rule ?_)
  refine wpAny_bind (wpAny_field hz rfl (x := .ref TO) rfl ?_)
  refine wpAny_bind (wpAny_setField_rec hz (by simp) fun h₁ hz₁ hs₁ => ?_)
  replace hz₁ : IsZip h₁ z TI TO .ellipsis := hz₁
  refine wpAny_bind ?_
  simp only [List.zipIdx_cons, List.zipIdx_nil, List.forIn_cons, List.forIn_nil]
  refine wpAny_bind (wpAny_bind (wpAny_onRaise ?_))
  show wpAny _ _ (Builtin.SmallTypes.nextOf (.ref i1) >>= _) _ _ _
  refine wpAny_bind (nextOf_item (h1.ext hs₁.extBut D.i1z) (hl1.ext hs₁.extBut D.l1z) hx fun h₂ h1₂ hs₂ => wpAny_pure ?_)
  have hTO₂ : IsPair h₂ TO a b := hs₂.extBut _ _ D.TOi1 (hs₁.extBut _ _ D.TOz hTO)
  refine wpAny_bind (wpAny_seqItems hTO₂ rfl ?_)
  refine wpAny_bind (wpAny_updateSeq_pair hTO₂ fun h₃ hTO₃ hs₃ => ?_)
  replace hTO₃ : IsPair h₃ TO x b := hTO₃
  refine wpAny_bind (wpAny_letGo (wpAny_pure ?_))
  refine wpAny_bind (wpAny_bind (wpAny_onRaise ?_))
  show wpAny _ _ (Builtin.SmallTypes.nextOf (.ref i2) >>= _) _ _ _
  refine wpAny_bind (nextOf_item (((h2.ext hs₁.extBut D.i2z).ext hs₂.extBut D.i12.symm).ext hs₃.extBut D.TOi2.symm)
    (((hl2.ext hs₁.extBut D.l2z).ext hs₂.extBut D.l2i1).ext hs₃.extBut D.l2TO) hy fun h₄ h2₄ hs₄ => wpAny_pure ?_)
  have hTO₄ : IsPair h₄ TO x b := hs₄.extBut _ _ D.TOi2 hTO₃
  refine wpAny_bind (wpAny_seqItems hTO₄ rfl ?_)
  refine wpAny_bind (wpAny_updateSeq_pair hTO₄ fun h₅ hTO₅ hs₅ => ?_)
  replace hTO₅ : IsPair h₅ TO x y := hTO₅
  refine wpAny_bind (wpAny_letGo (wpAny_pure (wpAny_pure ?_)))
  refine wpAny_bind (wpAny_seqItems hTO₅ rfl ?_)
  refine wpAny_bind (wpAny_newTuple ?_)
  have hsz : h₅.objs.size = s.heap.objs.size := by rw [hs₅.1, hs₄.1, hs₃.1, hs₂.1, hs₁.1]
  have hz₅ : IsZip h₅ z TI TO .ellipsis := hs₅.extBut _ _ D.TOz.symm (hs₄.extBut _ _ D.i2z.symm (hs₃.extBut _ _ D.TOz.symm (hs₂.extBut _ _ D.i1z.symm hz₁)))
  have hk₅ : ∀ c o, c ≠ z → c ≠ TO → c ≠ i1 → c ≠ i2 → s.heap.get? c = some o → h₅.get? c = some o := fun c o c1 c2 c3 c4 e =>
    hs₅.extBut _ _ c2 (hs₄.extBut _ _ c4 (hs₃.extBut _ _ c2 (hs₂.extBut _ _ c3 (hs₁.extBut _ _ c1 e))))
  have h1₅ : SIt k1 h₅ i1 l1 (n1 + 1) := ((h1₂.ext hs₃.extBut D.TOi1.symm).ext hs₄.extBut D.i12).ext hs₅.extBut D.TOi1.symm
  have h2₅ : SIt k2 h₅ i2 l2 (n2 + 1) := h2₄.ext hs₅.extBut D.TOi2.symm
  have hzlt : z < h₅.objs.size := Heap.lt_size hz₅
  show wpAny _ _ (Builtin.SmallTypes.ownedTupleHandOut (.ref z) (.ref h₅.objs.size) >>= _) _ _ _
  refine wpAny_bind ?_
  unfold Builtin.SmallTypes.ownedTupleHandOut
  have hz₆ : IsZip (h₅.push { cls := .type "tuple", data := .seq #[x, y] }) z TI TO .ellipsis := Heap.get?_push_of_some _ hz₅
  refine wpAny_bind (wpAny_setField_rec hz₆ (by simp) fun h₇ hz₇ hs₇ => ?_)
  replace hz₇ : IsZip h₇ z TI TO (rawInt h₅.objs.size) := hz₇
  refine wpAny_setField_rec hz₇ (by simp) fun h₈ hz₈ hs₈ => ?_
  replace hz₈ : IsZip h₈ z TI TO (rawInt h₅.objs.size) := hz₈
  have up : ∀ c o, c ≠ z → h₅.get? c = some o → h₈.get? c = some o := fun c o c1 e => hs₈.extBut _ _ c1 (hs₇.extBut _ _ c1 (Heap.get?_push_of_some _ e))
  have hT₈ : IsPair h₈ h₅.objs.size x y := hs₈.extBut _ _ (Nat.ne_of_gt hzlt) (hs₇.extBut _ _ (Nat.ne_of_gt hzlt) (Heap.get?_push_size _ rfl))
  have hz8 : h₈.objs.size = h₅.objs.size + 1 := by rw [hs₈.1, hs₇.1, Heap.size_push]
  rw [hsz] at hz₈ hT₈ hz8
  refine wpAny_pure ⟨_, rfl, ?_⟩
  show Q (.ref h₅.objs.size) _
  rw [hsz]
  exact hQ h₈ hz₈ (up _ _ D.TOz hTO₅) (h1₅.at fun o e => up _ o D.i1z e) (h2₅.at fun o e => up _ o D.i2z e) hT₈ hz8 fun c o c1 c2 c3 c4 e => up c o c1 (hk₅ c o c1 c2 c3 c4 e)
theorem zipS_end {k1 k2 : SK} {z TI TO i1 i2 l1 l2 : Addr} {n1 n2 : Nat} {xs ys : Array Value} {a b : Value} {Q : Fin → Shared → Prop} (hh : A.handled = none) (D : ZipApart z TI TO i1 i2 l1 l2)
    (hz : IsZip s.heap z TI TO .none) (hTI : IsPair s.heap TI (.ref i1) (.ref i2)) (hTO : IsPair s.heap TO a b)
    (h1 : SIt k1 s.heap i1 l1 n1) (h2 : SIt k2 s.heap i2 l2 n2) (hl1 : SIs k1 s.heap l1 xs) (hl2 : SIs k2 s.heap l2 ys) (hend : xs[n1]? = none ∨ ys[n2]? = none)
    (hE : ∀ h' e, (∀ c o, c ≠ z → c ≠ TO → c ≠ i1 → c ≠ i2 → s.heap.get? c = some o → h'.get? c = some o) → (∃ o, h'.get? e = some o ∧ o.cls = .type "StopIteration") → E (.ref e) { s with heap := h' }) :
    wpAny (model prog w) A (Builtin.«zip.__next__» ⟨[.ref z], []⟩) Q E s := by
  show wpAny _ _ (field (.ref z) 2 >>= _) _ _ _
  refine wpAny_bind (wpAny_field hz rfl (x := .bool false) rfl ?_)
  show wpAny _ _ (field (.ref z) 3 >>= _) _ _ _
  refine wpAny_bind (wpAny_field hz rfl (x := .ref TI) rfl ?_)
  refine wpAny_bind (wpAny_seqItems hTI rfl ?_)
  show wpAny _ _ (Builtin.SmallTypes.ownedTupleIsFree (.ref z) >>= _) _ _ _
  refine wpAny_bind ?_
  unfold Builtin.SmallTypes.ownedTupleIsFree
  refine wpAny_bind (wpAny_field hz rfl (x := .none) rfl (wpAny_pure ?_))
  simp only [if_true]
  refine wpAny_bind (wpAny_rule ?_)
  refine wpAny_bind (wpAny_field hz rfl (x := .ref TO) rfl ?_)
  refine wpAny_bind (wpAny_setField_rec hz (by simp) fun h₁ hz₁ hs₁ => ?_)
  replace hz₁ : IsZip h₁ z TI TO .ellipsis := hz₁
  refine wpAny_bind ?_
  simp only [List.zipIdx_cons, List.zipIdx_nil, List.forIn_cons, List.forIn_nil]
  refine wpAny_bind (wpAny_bind (wpAny_onRaise ?_))
  show wpAny _ _ (Builtin.SmallTypes.nextOf (.ref i1) >>= _) _ _ _
  cases hx : xs[n1]? with
  | none =>
    refine wpAny_bind (nextOf_end hh (h1.ext hs₁.extBut D.i1z) (hl1.ext hs₁.extBut D.l1z) hx fun h₂ e hs₂ he => ?_)
    obtain ⟨oe, hoe, hce⟩ := he
    have hz₂ : IsZip h₂ z TI TO .ellipsis := hs₂ _ _ D.i1z.symm hz₁
    have hez : e ≠ z := fun x => by subst x; rw [hz₂] at hoe; cases hoe; simp at hce
    refine wpAny_setField_rec hz₂ (by simp) fun h₃ _ hs₃ => hE h₃ e (fun c o c1 _ c3 _ x => hs₃.extBut _ _ c1 (hs₂ _ _ c3 (hs₁.extBut _ _ c1 x))) ⟨oe, hs₃.extBut _ _ hez hoe, hce⟩
  | some x =>
    have hy : ys[n2]? = none := by rcases hend with h | h; rw [hx] at h; cases h; exact h
    refine wpAny_bind (nextOf_item (h1.ext hs₁.extBut D.i1z) (hl1.ext hs₁.extBut D.l1z) hx fun h₂ h1₂ hs₂ => wpAny_pure ?_)
    have hTO₂ : IsPair h₂ TO a b := hs₂.extBut _ _ D.TOi1 (hs₁.extBut _ _ D.TOz hTO)
    refine wpAny_bind (wpAny_seqItems hTO₂ rfl ?_)
    refine wpAny_bind (wpAny_updateSeq_pair hTO₂ fun h₃ hTO₃ hs₃ => ?_)
    refine wpAny_bind (wpAny_letGo (wpAny_pure ?_))
    refine wpAny_bind (wpAny_bind (wpAny_onRaise ?_))
    show wpAny _ _ (Builtin.SmallTypes.nextOf (.ref i2) >>= _) _ _ _
    refine wpAny_bind (nextOf_end hh (((h2.ext hs₁.extBut D.i2z).ext hs₂.extBut D.i12.symm).ext hs₃.extBut D.TOi2.symm)
      (((hl2.ext hs₁.extBut D.l2z).ext hs₂.extBut D.l2i1).ext hs₃.extBut D.l2TO) hy fun h₄ e hs₄ he => ?_)
    obtain ⟨oe, hoe, hce⟩ := he
    have hz₄ : IsZip h₄ z TI TO .ellipsis := hs₄ _ _ D.i2z.symm (hs₃.extBut _ _ D.TOz.symm (hs₂.extBut _ _ D.i1z.symm hz₁))
    have hez : e ≠ z := fun x => by subst x; rw [hz₄] at hoe; cases hoe; simp at hce
    refine wpAny_setField_rec hz₄ (by simp) fun h₅ _ hs₅ => hE h₅ e (fun c o c1 c2 c3 c4 x => hs₅.extBut _ _ c1 (hs₄ _ _ c4 (hs₃.extBut _ _ c2 (hs₂.extBut _ _ c3 (hs₁.extBut _ _ c1 x))))) ⟨oe, hs₅.extBut _ _ hez hoe, hce⟩
end
end L2
namespace L2
open PySem PySem.Spec PyProof.Rows
section
variable {X : Cx} {pins : List (Addr × Obj)} {σ : List (Option V)} {H H' : Hp} {s : Shared} {h' : Heap}
theorem Inv.turnedL {t' : Nat} {its : List Addr} (I : Inv X pins σ H s) (k : ∀ b o, b ∉ its → s.heap.get? b = some o → h'.get? b = some o) (hf : ∀ b ∈ its, FpOk X pins H b) : Inv X pins σ H { s with heap := h', toks := t' } := by
  have nit : ∀ b u, H b = some u → b ∉ its := fun b u e z => by rw [(hf b z).1] at e; cases e
  refine I.step (g' := s.gens) (d' := s.drawn) (ch := its) (fun b hb => ?_) (fun b o _ _ hc e _ => k b o hc e) (fun b o _ _ hc e _ => ⟨o.slots, k b o hc e⟩) (fun _ _ _ _ n => n)
    (fun b o hc e => ⟨o, k b o hc e⟩) (fun _ _ e => e) (fun _ _ _ e => e) (fun b ps e => ⟨#[], by rw [e]; simp⟩) (fun m hm => ?_) (fun b u e => ?_) I.bare
  · obtain ⟨f0, f1, f2, f3, f4, f5⟩ := hf b hb
    exact ⟨f3, f1, f4, f5⟩
  · obtain ⟨o, es, ep, ho, r⟩ := hm
    exact ⟨o, es, ep, k _ o (fun z => (hf _ z).2.1 rfl) ho, r⟩
  · refine (I.hok b u e).stay (fun c v hc q => k c v ?_ q) (fun _ q => q) fun _ _ q => q
    rcases hc with z | z
    · rw [z]; exact nit b u e
    · exact nit c _ z
theorem Inv.turnedNew {t' : Nat} {its : List Addr} {T : Addr} {o : HO} (I : Inv X pins σ H s) (k : ∀ b ob, b ∉ its → s.heap.get? b = some ob → h'.get? b = some ob) (hf : ∀ b ∈ its, FpOk X pins H b)
    (hT : s.heap.objs.size ≤ T) (new : ObjOk X.prog X.w (upd H T o) h' T o) : Inv X pins σ (upd H T o) { s with heap := h', toks := t' } := by
  have nit : ∀ b u, H b = some u → b ∉ its := fun b u e z => by rw [(hf b z).1] at e; cases e
  have hn : H T = none := I.hok.fresh hT
  have neT : ∀ b ob, s.heap.get? b = some ob → b ≠ T := fun b ob e => Nat.ne_of_lt (Nat.lt_of_lt_of_le (Heap.lt_size e) hT)
  have up : ∀ b u, H b = some u → upd H T o b = some u := fun b u e => by rw [upd_ne (ne_of_none e hn)]; exact e
  refine I.step (g' := s.gens) (d' := s.drawn) (ch := its) (fun b hb => ?_) (fun b ob _ _ hc e _ => k b ob hc e) (fun b ob _ _ hc e _ => ⟨ob.slots, k b ob hc e⟩) (fun b ob _ e n => by rw [upd_ne (neT b ob e)]; exact n)
    (fun b ob hc e => ⟨ob, k b ob hc e⟩) (fun b _ e => up b _ e) (fun b _ _ e => up b _ e) (fun b ps e => ⟨#[], by rw [up b _ e]; simp⟩) (fun m hm => ?_) (fun b u e => ?_) I.bare
  · obtain ⟨f0, f1, f2, f3, f4, f5⟩ := hf b hb
    exact ⟨f3, f1, f4, f5⟩
  · obtain ⟨ob, es, ep, ho, r⟩ := hm
    exact ⟨ob, es, ep, k _ ob (fun z => (hf _ z).2.1 rfl) ho, r⟩
  · by_cases hb : b = T
    · subst hb; rw [upd_same] at e; cases e; exact new
    · rw [upd_ne hb] at e
      refine (I.hok b u e).stay (fun c v hc q => k c v ?_ q) (fun c q => up c _ q) fun c xs q => up c _ q
      rcases hc with z | z
      · rw [z]; exact nit b u e
      · exact nit c _ z
end
theorem Inv.sis {X : Cx} {pins : List (Addr × Obj)} {σ : St} {H : Hp} {s : Shared} {k : SK} {a : Addr} {xs : List V} (I : Inv X pins σ H s) (h : Sq k X.K H a xs) : ∃ its : List Value, Vals xs its ∧ SIs k s.heap a its.toArray := by
  cases k with
  | list => obtain ⟨its, r, p, _⟩ := I.list h; exact ⟨its, r, p.isList⟩
  | tuple => obtain ⟨its, r, p, _⟩ := I.tuple h; exact ⟨its, r, (show s.heap.IsTuple a its.toArray from p)⟩
theorem Inv.sq_inj {X : Cx} {pins : List (Addr × Obj)} {σ : St} {H : Hp} {s : Shared} {k : SK} {a : Addr} {xs ys : List V} (I : Inv X pins σ H s) (h : Sq k X.K H a xs) (h' : Sq k X.K H a ys) : xs = ys := by
  cases k with
  | list => exact I.list_inj h h'
  | tuple => exact I.tuple_inj h h'
def Itz (K : PySem.W.Frag) (k1 k2 : SK) (a b : Addr) : It :=
  ⟨fun i H => ∃ xs ys x y, Sq k1 K H a xs ∧ Sq k2 K H b ys ∧ xs[i]? = some x ∧ ys[i]? = some y,
   fun i H v H' => ∃ T, H T = none ∧ v = .ref T ∧ ∀ xs ys, Sq k1 K H a xs → Sq k2 K H b ys → ∃ x y, xs[i]? = some x ∧ ys[i]? = some y ∧ H' = upd H T (.tup [x, y]),
   fun i H => ∃ xs ys, Sq k1 K H a xs ∧ Sq k2 K H b ys ∧ (xs.length ≤ i ∨ ys.length ≤ i)⟩
theorem turn_zip {P : Program} {w : World} {K : PySem.W.Frag} {elts : List Expr} {kk : Nat} {tpos : Pos} {k1 k2 : SK} {z TI TO i1 i2 a b : Addr} (D : ZipApart z TI TO i1 i2 a b) :
    Turn P w K (.Tuple elts kk tpos) (Itz K k1 k2 a b) [z, TI, TO, i1, i2] z (fun i h => IsZip h z TI TO .none ∧ IsPair h TI (.ref i1) (.ref i2) ∧ (∃ c d, IsPair h TO c d) ∧ SIt k1 h i1 a i ∧ SIt k2 h i2 b i) where
  mem := by simp
  obj := fun i h st b hb => by
    obtain ⟨hz, hTI, ⟨c, d, hTO⟩, h1, h2⟩ := st
    simp only [List.mem_cons, List.not_mem_nil, or_false] at hb
    rcases hb with rfl | rfl | rfl | rfl | rfl
    · exact ⟨_, hz, fun v q => nomatch q⟩
    · exact ⟨_, hTI, fun v q => nomatch q⟩
    · exact ⟨_, hTO, fun v q => nomatch q⟩
    · exact h1.obj
    · exact h2.obj
  keep := fun i h h' st k => by
    obtain ⟨hz, hTI, ⟨c, d, hTO⟩, h1, h2⟩ := st
    exact ⟨k _ (by simp) _ hz, k _ (by simp) _ hTI, ⟨c, d, k _ (by simp) _ hTO⟩, h1.at fun o e => k _ (by simp) o e, h2.at fun o e => k _ (by simp) o e⟩
  item := by
    intro X hP hw hK hc i pins s σ H E I hf st hg
    subst hP hw hK
    obtain ⟨hz, hTI, ⟨c, d, hTO⟩, h1, h2⟩ := st
    obtain ⟨xs, ys, x, y, q1, q2, hx, hy⟩ := hg
    obtain ⟨ix, rx, px⟩ := I.sis q1
    obtain ⟨iy, ry, py⟩ := I.sis q2
    obtain ⟨u, hu, ru⟩ := rx.get hx
    obtain ⟨v, hv, rv⟩ := ry.get hy
    have hT : s.TypeIs (.ref z) "zip" := ⟨_, hz, rfl⟩
    unfold pyNext
    refine wpAny_bind (wpAny_attempt (wpAny_callSpecial?_slot (name := Str.ofString "__next__") hT F.slot_zip_next
      (wpAny_call_entry F.slot_zip_next hT F.entry_zip_next
        (zipS_item D hz hTI hTO h1 h2 px py (x := u) (y := v) (by simpa using hu) (by simpa using hv) fun h' a1 a2 a3 a4 a5 a6 a7 => wpAny_pure ?_) (F.args_zip_next_1 _))))
    refine ⟨_, rfl, wpAny_letOwnedTupleGo_zip (s := { s with heap := h' }) a1 fun h'' b1 b2 => ?_⟩
    have zlt : z < s.heap.objs.size := Heap.lt_size hz
    have k2 : ∀ c o, c ∉ [z, TI, TO, i1, i2] → s.heap.get? c = some o → h''.get? c = some o := fun c o hc e => by
      simp only [List.mem_cons, List.not_mem_nil, or_false, not_or] at hc
      exact b2.extBut _ _ hc.1 (a7 c o hc.1 hc.2.2.1 hc.2.2.2.1 hc.2.2.2.2 e)
    have hT2 : IsPair h'' s.heap.objs.size u v := b2.extBut _ _ (Nat.ne_of_gt zlt) a5
    refine ⟨.ref s.heap.objs.size, upd H s.heap.objs.size (.tup [x, y]), I.turnedNew (t' := s.toks) (o := .tup [x, y]) k2 hf (Nat.le_refl _) ⟨by show 2 ≤ sizeLine; decide, [u, v], .cons ru (.cons rv .nil), ⟨_, hT2, rfl, _, rfl⟩⟩, rfl,
      ⟨_, I.hok.fresh (Nat.le_refl _), rfl, fun xs' ys' e1 e2 => ?_⟩, ⟨b1, ?_, ⟨_, _, b2.extBut _ _ D.TOz a2⟩, a3.at fun o e => b2.extBut _ _ D.i1z e, a4.at fun o e => b2.extBut _ _ D.i2z e⟩, fun b hb => ?_⟩
    · rw [I.sq_inj e1 q1, I.sq_inj e2 q2]
      exact ⟨x, y, hx, hy, rfl⟩
    · exact b2.extBut _ _ D.TIz (a7 _ _ D.TIz D.TITO D.TIi1 D.TIi2 hTI)
    · have blt : b < s.heap.objs.size := by
        simp only [List.mem_cons, List.not_mem_nil, or_false] at hb
        rcases hb with rfl | rfl | rfl | rfl | rfl
        · exact zlt
        · exact Heap.lt_size hTI
        · exact Heap.lt_size hTO
        · obtain ⟨o, e, _⟩ := h1.obj; exact Heap.lt_size e
        · obtain ⟨o, e, _⟩ := h2.obj; exact Heap.lt_size e
      rw [upd_ne (Nat.ne_of_lt blt)]
      exact (hf b hb).1
  done := by
    intro X hP hw hK hc i pins s σ H E I hf st hg
    subst hP hw hK
    obtain ⟨hz, hTI, ⟨c, d, hTO⟩, h1, h2⟩ := st
    obtain ⟨xs, ys, q1, q2, hl⟩ := hg
    obtain ⟨ix, rx, px⟩ := I.sis q1
    obtain ⟨iy, ry, py⟩ := I.sis q2
    have l1 := rx.length
    have l2 := ry.length
    have hend : ix.toArray[i]? = none ∨ iy.toArray[i]? = none := by
      rcases hl with h | h
      · exact .inl (by simp; omega)
      · exact .inr (by simp; omega)
    have hT : s.TypeIs (.ref z) "zip" := ⟨_, hz, rfl⟩
    unfold pyNext
    refine wpAny_bind (wpAny_attempt (wpAny_callSpecial?_slot (name := Str.ofString "__next__") hT F.slot_zip_next
      (wpAny_call_entry F.slot_zip_next hT F.entry_zip_next (zipS_end (I.ok.hd hc) D hz hTI hTO h1 h2 px py hend fun h' e hk he => ?_) (F.args_zip_next_1 _))))
    obtain ⟨o, ho, hc'⟩ := he
    refine wpAny_bind (wpAny_isInstance (T := "StopIteration") (b := true) ⟨o, ho, hc'⟩ isSubtype_stop ?_)
    refine wpAny_pure ⟨rfl, I.turnedL (t' := s.toks) (its := [z, TI, TO, i1, i2]) (fun b o hb e => ?_) hf⟩
    simp only [List.mem_cons, List.not_mem_nil, or_false, not_or] at hb
    exact hk b o hb.1 hb.2.2.1 hb.2.2.2.1 hb.2.2.2.2 e
  self := fun _ _ _ _ _ st h => wpAny_pyIter_zip st.1 h
end L2
namespace L2
open PySem PySem.Spec PyProof.Rows
def itObj (k : SK) (l : Addr) : Obj := match k with
  | .list => { cls := .type "list_iterator", data := .fields #[.ref l, .int 0 0] }
  | .tuple => { cls := .type "tuple_iterator", data := .fields #[.ref l, .int 0 0] }
theorem itObj_it {k : SK} {l it : Addr} {h : Heap} (e : h.get? it = some (itObj k l)) : SIt k h it l 0 := by
  cases k with
  | list => exact ⟨_, e, rfl, rfl⟩
  | tuple => exact ⟨_, e, rfl, rfl⟩
abbrev zS1 (h : Heap) (k1 : SK) (l1 : Addr) : Heap := h.push (itObj k1 l1)
abbrev zS2 (h : Heap) (k1 k2 : SK) (l1 l2 : Addr) : Heap := (zS1 h k1 l1).push (itObj k2 l2)
abbrev zS3 (h : Heap) (k1 k2 : SK) (l1 l2 : Addr) : Heap := (zS2 h k1 k2 l1 l2).push { cls := .type "tuple", data := .seq #[.ref h.objs.size, .ref (zS1 h k1 l1).objs.size] }
abbrev zS4 (h : Heap) (k1 k2 : SK) (l1 l2 : Addr) : Heap := (zS3 h k1 k2 l1 l2).push { cls := .type "tuple", data := .seq #[.none, .none] }
abbrev zS5 (h : Heap) (k1 k2 : SK) (l1 l2 : Addr) : Heap := (zS4 h k1 k2 l1 l2).push { cls := .type "zip", data := .fields #[.none, .bool false, .bool false, .ref (zS2 h k1 k2 l1 l2).objs.size, .ref (zS3 h k1 k2 l1 l2).objs.size] }
set_option maxHeartbeats 4000000 in
theorem meets_zipS_new (k1 k2 : SK) (l1 l2 : Addr) (xs ys : Array Value) :
    Meets (Builtin.«zip.__new__» ⟨[.type "zip", .ref l1, .ref l2], []⟩) (fun _ R s => SIs k1 s.heap l1 xs ∧ SIs k2 s.heap l2 ys ∧
      R (.ok (.ret (.ref (zS4 s.heap k1 k2 l1 l2).objs.size))) { s with heap := zS5 s.heap k1 k2 l1 l2 }) := by
  cases k1 with
  | list =>
    cases k2 with
    | list =>
      exact .of_wp fun prog w A R s h => by
        obtain ⟨hp, g, d, tk, os⟩ := s; obtain ⟨hl1, hl2, h⟩ := h
        have hsub := sub_zip
        have hL1 : Heap.IsList (Shared.heap ⟨hp, g, d, tk, os⟩) l1 xs := hl1
        have hL2 : Heap.IsList (Shared.heap ⟨hp.push { cls := .type "list_iterator", data := .fields #[.ref l1, .int 0 0] }, g, d, tk, os⟩) l2 ys := Heap.IsList.push hl2 _
        wp_walk using wpAny_pyIter_list hL1, wpAny_pyIter_list hL2
        exact ⟨_, rfl, h⟩
    | tuple =>
      exact .of_wp fun prog w A R s h => by
        obtain ⟨hp, g, d, tk, os⟩ := s; obtain ⟨hl1, hl2, h⟩ := h
        have hsub := sub_zip
        have hL1 : Heap.IsList (Shared.heap ⟨hp, g, d, tk, os⟩) l1 xs := hl1
        have hL2 : Heap.IsTuple (Shared.heap ⟨hp.push { cls := .type "list_iterator", data := .fields #[.ref l1, .int 0 0] }, g, d, tk, os⟩) l2 ys := SIs.at (k := .tuple) hl2 fun o e => Heap.get?_push_of_some _ e
        wp_walk using wpAny_pyIter_list hL1, wpAny_pyIter_tuple hL2
        exact ⟨_, rfl, h⟩
  | tuple =>
    cases k2 with
    | list =>
      exact .of_wp fun prog w A R s h => by
        obtain ⟨hp, g, d, tk, os⟩ := s; obtain ⟨hl1, hl2, h⟩ := h
        have hsub := sub_zip
        have hL1 : Heap.IsTuple (Shared.heap ⟨hp, g, d, tk, os⟩) l1 xs := hl1
        have hL2 : Heap.IsList (Shared.heap ⟨hp.push { cls := .type "tuple_iterator", data := .fields #[.ref l1, .int 0 0] }, g, d, tk, os⟩) l2 ys := SIs.at (k := .list) hl2 fun o e => Heap.get?_push_of_some _ e
        wp_walk using wpAny_pyIter_tuple hL1, wpAny_pyIter_list hL2
        exact ⟨_, rfl, h⟩
    | tuple =>
      exact .of_wp fun prog w A R s h => by
        obtain ⟨hp, g, d, tk, os⟩ := s; obtain ⟨hl1, hl2, h⟩ := h
        have hsub := sub_zip
        have hL1 : Heap.IsTuple (Shared.heap ⟨hp, g, d, tk, os⟩) l1 xs := hl1
        have hL2 : Heap.IsTuple (Shared.heap ⟨hp.push { cls := .type "tuple_iterator", data := .fields #[.ref l1, .int 0 0] }, g, d, tk, os⟩) l2 ys := SIs.at (k := .tuple) hl2 fun o e => Heap.get?_push_of_some _ e
        wp_walk using wpAny_pyIter_tuple hL1, wpAny_pyIter_tuple hL2
        exact ⟨_, rfl, h⟩
section
variable {prog : Program} {w : World} {A : Around} {E : Value → Shared → Prop} {s : Shared}
theorem call_zipS {k1 k2 : SK} {l1 l2 : Addr} {xs ys : Array Value} {Q : Value → Shared → Prop} (hl1 : SIs k1 s.heap l1 xs) (hl2 : SIs k2 s.heap l2 ys)
    (h : ∀ h', IsZip h' (s.heap.objs.size + 4) (s.heap.objs.size + 2) (s.heap.objs.size + 3) .none → IsPair h' (s.heap.objs.size + 2) (.ref s.heap.objs.size) (.ref (s.heap.objs.size + 1)) →
      IsPair h' (s.heap.objs.size + 3) .none .none → SIt k1 h' s.heap.objs.size l1 0 → SIt k2 h' (s.heap.objs.size + 1) l2 0 →
      (∀ c o, s.heap.get? c = some o → h'.get? c = some o) → Q (.ref (s.heap.objs.size + 4)) { s with heap := h' }) :
    wpAny (model prog w) A (call (.type "zip") [.ref l1, .ref l2]) Q E s := by
  refine callType_new F.called_zip (by decide) (F.typeCall_zip_2 _ _) (F.newCall_zip_2 _ _) (fun obj => F.args_object_init_3 obj _ _) F.entry_zip_new
    (meets_zipS_new k1 k2 l1 l2 xs ys) ⟨hl1, hl2, ?_⟩
  have z1 : (zS1 s.heap k1 l1).objs.size = s.heap.objs.size + 1 := Heap.size_push ..
  have z2 : (zS2 s.heap k1 k2 l1 l2).objs.size = s.heap.objs.size + 2 := by rw [Heap.size_push, z1]
  have z3 : (zS3 s.heap k1 k2 l1 l2).objs.size = s.heap.objs.size + 3 := by rw [Heap.size_push, z2]
  have z4 : (zS4 s.heap k1 k2 l1 l2).objs.size = s.heap.objs.size + 4 := by rw [Heap.size_push, z3]
  have r1 : (itObj k1 l1).isFreed = false := by cases k1 <;> rfl
  have r2 : (itObj k2 l2).isFreed = false := by cases k2 <;> rfl
  have g5 : (zS5 s.heap k1 k2 l1 l2).get? (zS4 s.heap k1 k2 l1 l2).objs.size = some _ := Heap.get?_push_size _ rfl
  have g4 : (zS5 s.heap k1 k2 l1 l2).get? (zS3 s.heap k1 k2 l1 l2).objs.size = some _ := Heap.get?_push_of_some _ (Heap.get?_push_size _ rfl)
  have g3 : (zS5 s.heap k1 k2 l1 l2).get? (zS2 s.heap k1 k2 l1 l2).objs.size = some _ := Heap.get?_push_of_some _ (Heap.get?_push_of_some _ (Heap.get?_push_size _ rfl))
  have g2 : (zS5 s.heap k1 k2 l1 l2).get? (zS1 s.heap k1 l1).objs.size = some _ := Heap.get?_push_of_some _ (Heap.get?_push_of_some _ (Heap.get?_push_of_some _ (Heap.get?_push_size _ r2)))
  have g1 : (zS5 s.heap k1 k2 l1 l2).get? s.heap.objs.size = some _ := Heap.get?_push_of_some _ (Heap.get?_push_of_some _ (Heap.get?_push_of_some _ (Heap.get?_push_of_some _ (Heap.get?_push_size _ r1))))
  show _ ∧ _
  rw [z2, z3, z4] at g5
  rw [z1, z2] at g3
  rw [z3] at g4
  rw [z1] at g2
  rw [z4]
  exact ⟨⟨_, g5, rfl⟩, h _ g5 g3 g4 (itObj_it g1) (itObj_it g2) fun c o x =>
    Heap.get?_push_of_some _ (Heap.get?_push_of_some _ (Heap.get?_push_of_some _ (Heap.get?_push_of_some _ (Heap.get?_push_of_some _ x))))⟩
end
section
variable {X : Cx} {elts : List Expr} {kk : Nat} {tpos : Pos}
def iZip (K : PySem.W.Frag) (k1 k2 : SK) (ta : TA) : TI := fun σ H R => ta σ H fun vs H1 => ∃ a b, vs = [.ref a, .ref b] ∧ (∃ xs, Sq k1 K H1 a xs) ∧ (∃ ys, Sq k2 K H1 b ys) ∧ R (Itz K k1 k2 a b) H1
theorem pi_zip (k1 k2 : SK) {a b : Expr} {ta : TA} {p pos : Pos} (hg : Gl X "zip") (hm : X.mg "zip" = none) (ha : PA X [a, b] ta) (hs : starEach [a, b] X.env = [(false, eval a X.env), (false, eval b X.env)] := by rfl) (hs2 : starEach [b] X.env = [(false, eval b X.env)] := by rfl) :
    PI X (.Tuple elts kk tpos) (.Call (.Name "zip" p) [a, b] [] pos) (iZip X.K k1 k2 ta) := by
  intro pins s σ H R I h
  refine Call_ (ld_blt I hg hm boot_zip (PyProof.Rows.callWith_type1 (thn (ha pos pins s σ H _ I h) fun us s1 ⟨vs, H1, I1, r1, q1⟩ => ?_) (by rw [hs, hs2]) (by rw [hs2]; rfl)))
  obtain ⟨a', b', e, ⟨xs, qx⟩, ⟨ys, qy⟩, q⟩ := q1
  subst e
  obtain ⟨u, v, rfl, ru, rv⟩ := vals2 r1
  cases ru
  cases rv
  obtain ⟨ix, rx, px⟩ := I1.sis qx
  obtain ⟨iy, ry, py⟩ := I1.sis qy
  refine call_zipS px py fun h' b1 b2 b3 b4 b5 b6 => wpAny_pyIter_zip (s := { s1 with heap := h' }) b1 ?_
  have nn : ∀ b, s1.heap.objs.size ≤ b → FpOk X pins H1 b := fun b hb => I1.fpOk hb (I1.hok.fresh hb)
  refine ⟨_, [s1.heap.objs.size + 4, s1.heap.objs.size + 2, s1.heap.objs.size + 3, s1.heap.objs.size, s1.heap.objs.size + 1], _, _, H1, rfl, I1.kept (t' := s1.toks) b6, turn_zip (k1 := k1) (k2 := k2) (zipApart_new px.lt py.lt), ⟨b1, b2, ⟨_, _, b3⟩, b4, b5⟩, fun b hb => ?_, q⟩
  simp only [List.mem_cons, List.not_mem_nil, or_false] at hb
  rcases hb with rfl | rfl | rfl | rfl | rfl
  · exact nn _ (Nat.le_add_right _ _)
  · exact nn _ (Nat.le_add_right _ _)
  · exact nn _ (Nat.le_add_right _ _)
  · exact nn _ (Nat.le_refl _)
  · exact nn _ (Nat.le_add_right _ _)
end
end L2

namespace L2
open PySem PySem.Spec PyProof.Rows PySem.Builtin PySem.Builtin.Str
section
variable {X : Cx}
def rSlS : V → Option Int → Option Int → Hp → VK → Prop := fun x lo hi H Q => ∃ z, x = .str z ∧ z.length ≤ sizeLine ∧ Q (.str (Txt.slice z lo hi)) H
def rMulS : R2 := fun x y H Q => ∃ c n, x = .str ⟨#[c]⟩ ∧ y = .int n ∧ 1 ≤ n ∧ n ≤ 1000 ∧ ∀ z : Str, z.cps.toList = List.replicate n.toNat c → Q (.str z) H
def rJoin (K : PySem.W.Frag) : V → List V → Hp → VK → Prop := fun x vs H Q => ∃ sep p ys, x = .str sep ∧ vs = [.ref p] ∧ SqL K H p (ys.map V.str) ∧ (ys.map (·.length)).sum + ys.length * sep.length ≤ 16777216 ∧ Q (.str (Str.join sep ys)) H
def rSplit : V → List V → Hp → VK → Prop := fun x vs H Q => ∃ z y, x = .str z ∧ vs = [.str y] ∧ y.length ≠ 0 ∧ z.length + 2 ≤ sizeLine ∧ ∀ p, H p = none → Q (.ref p) (upd H p (.lst ((Txt.split z y).map V.str)))
def rIsT (K : PySem.W.Frag) : List V → Hp → VK → Prop := fun xs H Q => ∃ x T t b, xs = [x, .ty T] ∧ TyOf K H x t ∧ PySem.W.kitOne K t (.type T) = some b ∧ Q (.bl b) H
theorem call_isT : CallR X (.builtin "isinstance") (rIsT X.K) := by
  intro pins s σ H xs us Q I r h
  obtain ⟨x, T, t, b, rfl, ty, e, q⟩ := h
  obtain ⟨u, v, rfl, ru, rv⟩ := vals2 r
  cases rv
  exact isinst_ok I ru ty e fun tk => ⟨.bl b, H, I.tok _, rfl, q⟩
example (K : PySem.W.Frag) : PySem.W.kitOne K (.type "int") (.type "int") = some true := rfl
example (K : PySem.W.Frag) : PySem.W.kitOne K (.type "str") (.type "int") = some false := rfl
example (K : PySem.W.Frag) : PySem.W.kitOne K (.type "tuple") (.type "int") = some false := rfl
example (K : PySem.W.Frag) : PySem.W.kitOne K (.type "bool") (.type "int") = some true := rfl
end
end L2
namespace L2
open PySem PySem.Spec PyProof.Rows
end L2

namespace L2
open PySem PySem.Spec PyProof.Rows
def ent (w : World) (x : Str × Tok × Value) : DictEntry := ⟨hashStr w x.1, .str x.1 x.2.1, x.2.2⟩
structure KD (P : Program) (w : World) (K : PySem.W.Frag) (a : Addr) (kvs : List (Key × V)) : Prop where
  ex : ∃ (o : Obj) (es : Array DictEntry) (ep : Nat) (vs : List (Key × Value)), K.lookup a = some o ∧ o.ExactDict ∧ o.data = .dict es ep ∧ KeysOf (mixKind P w) es ∧ Pairs (mixKind P w) es.toList vs ∧ (vs.map (·.1)).Nodup ∧ KV kvs vs
  ns : (a == sysModules) = false
def DK (P : Program) (w : World) (K : PySem.W.Frag) (H : Hp) (a : Addr) (kvs : List (Key × V)) : Prop := Rd H a (.dK kvs) ∨ KD P w K a kvs
theorem Inv.dict {X : Cx} {pins : List (Addr × Obj)} {σ : St} {H : Hp} {s : Shared} {a : Addr} {kvs : List (Key × V)} (I : Inv X pins σ H s) (h : DK X.prog X.w X.K H a kvs) :
    (a == sysModules) = false ∧ ∃ vs, KV kvs vs ∧ s.heap.DictOf (mixKind X.prog X.w) a vs := by
  rcases h with h | h
  · obtain ⟨_, b, c⟩ := dk_rd I.hok h
    exact ⟨b, c⟩
  · obtain ⟨o, es, ep, vs, h1, h2, h3, h4, h5, h6, h7⟩ := h.ex
    exact ⟨h.ns, vs, h7, o, es, ep, I.kIn a o h1, h2, h3, h4, h5, h6⟩
theorem dictOf_type {P : Program} {w : World} {s : Shared} {a : Addr} {vs : List (Key × Value)} (d : s.heap.DictOf (mixKind P w) a vs) : s.TypeIs (.ref a) "dict" := by
  obtain ⟨o, es, ep, h1, h2, _⟩ := d
  exact ⟨o, h1, h2.1⟩
section
variable {X : Cx}
def rIxD (X : Cx) : R2 := fun x y H Q => ∃ a kvs k v, x = .ref a ∧ y = kV k ∧ DK X.prog X.w X.K H a kvs ∧ valV kvs k = some v ∧ Q v H
theorem pe_ixD {o i : Expr} {td ty : TE} {pos : Pos} (ho : PE X o td) (hi : PE X i ty) (hs : NoSl i) : PE X (.Subscript o i pos) (tOp (rIxD X) td ty) := by
  intro pins s σ H Q I h
  refine subD_of PySem.F.slot_dict_getitem.lookup hs (thn (ho pins s σ H _ I h) fun u s1 ⟨x, H1, I1, rx, q1⟩ => thn (hi pins s1 σ H1 _ I1 q1) fun iv s2 ⟨y, H2, I2, ry, q2⟩ => ?_)
  obtain ⟨a, kvs, k, v, rfl, rfl, dk, hv, q⟩ := q2
  obtain rfl : u = Value.ref a := rx
  obtain ⟨_, vs, rel, dd⟩ := I2.dict dk
  obtain ⟨w', hw, rw'⟩ := RelO.some_of (v := v) (o := valueAt vs k) (by rw [← hv]; exact rel.val k)
  exact ⟨dictOf_type dd, wpAny_getItem_of (kV_is ry) dd.mapOf hw ⟨v, H2, I2.tok _, rw', q⟩⟩
def rInD (X : Cx) (neg : Bool) : R2 := fun x y H Q => ∃ a kvs k, y = .ref a ∧ x = kV k ∧ DK X.prog X.w X.K H a kvs ∧ Q (.bl (if neg then !(valV kvs k).isSome else (valV kvs k).isSome)) H
end
end L2

namespace L2
open PySem PySem.Spec PyProof.Rows
structure Pr (p : Prop) : Prop where
  h : p
section
variable {X : Cx}
theorem qpe_var {i : Nat} {x : Str} {pos : Pos} (hN : X.N[i]? = some x) (hv : Vis X.env.scope x) (hd : (x == ("__debug__" : Str)) = false := by decide) (hcd : (x == ("__classdict__" : Str)) = false := by decide) : Pr (PE X (.Name x pos) (tVar i)) := ⟨pe_var hN hv hd hcd⟩
end
section
variable {X : Cx}
theorem qpe_int {i j pos} : Pr (PE X (.Constant (.int i) j pos) (tC (.int i))) := ⟨pe_int⟩
end
section
variable {X : Cx}
theorem qpe_bl {b j pos} : Pr (PE X (.Constant (.bool b) j pos) (tC (.bl b))) := ⟨pe_bl⟩
end
section
variable {X : Cx}
theorem qpe_non {j pos} : Pr (PE X (.Constant .none j pos) (tC .non)) := ⟨pe_non⟩
end
section
variable {X : Cx}
theorem qpe_str {x j pos} : Pr (PE X (.Constant (.str x) j pos) (tC (.str x))) := ⟨pe_str⟩
end
section
variable {X : Cx}
theorem qpe_glob {x : Str} {v : V} {u : Value} {pos : Pos} (hg : Gl X x) (hm : X.mg x = some u) (r : RelV v u) (hd : (x == ("__debug__" : Str)) = false := by decide) : Pr (PE X (.Name x pos) (tC v)) := ⟨pe_glob hg hm r hd⟩
end
section
variable {X : Cx}
theorem qpe_bltn {x : Str} {v : V} {u : Value} {pos : Pos} (hg : Gl X x) (hm : X.mg x = none) (hv : bootBuiltins x = some u) (r : RelV v u) (hn : x ≠ "__name__" := by decide) (hd : (x == ("__debug__" : Str)) = false := by decide) : Pr (PE X (.Name x pos) (tC v)) := ⟨pe_bltn hg hm hv r hn hd⟩
end
section
variable {X : Cx} {a b c : Expr} {ta tb tc : TE} {pos : Pos}
theorem qpe_op {op : Operator} {r : R2} (ho : OpR X (binaryOp op) r) (ha : Pr (PE X a ta)) (hb : Pr (PE X b tb)) : Pr (PE X (.BinOp a op b pos) (tOp r ta tb)) := ⟨pe_op ho ha.h hb.h⟩
end
section
variable {X : Cx} {a b c : Expr} {ta tb tc : TE} {pos : Pos}
theorem qpe_un {op : UnaryOp} {r : V → Hp → VK → Prop} (ho : UnR X (unaryOp op) r) (ha : Pr (PE X a ta)) : Pr (PE X (.UnaryOp op a pos) (tUn r ta)) := ⟨pe_un ho ha.h⟩
end
section
variable {X : Cx} {a b c : Expr} {ta tb tc : TE} {pos : Pos}
theorem qpe_cmpR {op : CmpOp} {r : R2} (ho : OpR X (compareOp op) r) (ha : Pr (PE X a ta)) (hb : Pr (PE X b tb)) (hm : behindInMarks op b = false) : Pr (PE X (.Compare a [op] [b] pos) (tOp r ta tb)) := ⟨pe_cmpR ho ha.h hb.h hm⟩
end
section
variable {X : Cx} {a b c : Expr} {ta tb tc : TE} {pos : Pos}
theorem qpe_chain {op op' : CmpOp} {r r' : R2} (ho : OpR X (compareOp op) r) (ho' : OpR X (compareOp op') r') (ha : Pr (PE X a ta)) (hb : Pr (PE X b tb)) (hc : Pr (PE X c tc)) (hm : lastMarks [op, op'] [b, c] = false := by with_unfolding_all rfl) : Pr (PE X (.Compare a [op, op'] [b, c] pos) (tChain r r' ta tb tc)) := ⟨pe_chain ho ho' ha.h hb.h hc.h hm⟩
end
section
variable {X : Cx}
variable {a b : Expr} {ta tb : TE} {pos : Pos}
variable {tA tB' : TT} {rest : List Expr}
theorem qpe_and (ha : Pr (PE X a ta)) (hb : Pr (PE X (.BoolOp .And (b :: rest) pos) tb)) : Pr (PE X (.BoolOp .And (a :: b :: rest) pos) (tAndV ta tb)) := ⟨pe_and ha.h hb.h⟩
end
section
variable {X : Cx}
variable {a b : Expr} {ta tb : TE} {pos : Pos}
variable {tA tB' : TT} {rest : List Expr}
end
section
variable {X : Cx}
variable {a b : Expr} {ta tb : TE} {pos : Pos}
variable {tA tB' : TT} {rest : List Expr}
theorem qpe_one {op} {t : TE} (h : Pr (PE X a t)) : Pr (PE X (.BoolOp op [a] pos) t) := ⟨pe_one h.h⟩
end
section
variable {X : Cx}
variable {a b : Expr} {ta tb : TE} {pos : Pos}
variable {tA tB' : TT} {rest : List Expr}
theorem qpe_not (ha : Pr (PE X a ta)) : Pr (PE X (.UnaryOp .Not a pos) (tNotV ta)) := ⟨pe_not ha.h⟩
end
section
variable {X : Cx}
variable {a b : Expr} {ta tb : TE} {pos : Pos}
variable {tA tB' : TT} {rest : List Expr}
end
section
variable {X : Cx} {e : Expr} {es : List Expr} {te : TE} {t : TA} {pos : Pos}
theorem qpe_tup {x1} (h : Pr (PA X es t)) : Pr (PE X (.Tuple es x1 pos) (tTup t)) := ⟨pe_tup h.h⟩
end
section
variable {X : Cx} {e : Expr} {es : List Expr} {te : TE} {t : TA} {pos : Pos}
theorem qpe_lst (h : Pr (PA X es t)) : Pr (PE X (.List es pos) (tLst t)) := ⟨pe_lst h.h⟩
end
section
variable {X : Cx} {e : Expr} {te : TE} {lo hi : Option Expr} {tl th : TO} {pos p2 : Pos}
theorem qpe_slice {r : V → Option Int → Option Int → Hp → VK → Prop} (hr : SlR X r) (he : Pr (PE X e te)) (hl : Pr (PO X lo tl)) (hu : Pr (PO X hi th)) : Pr (PE X (.Subscript e (.Slice lo hi none p2) pos) (tSl r te tl th)) := ⟨pe_slice hr he.h hl.h hu.h⟩
end
section
variable {X : Cx} {a b : Expr} {ta tb : TE} {pos : Pos}
theorem qpe_ix {r : R2} (hr : IxR X r) (ha : Pr (PE X a ta)) (hb : Pr (PE X b tb)) (hs : PlainIx b) : Pr (PE X (.Subscript a b pos) (tOp r ta tb)) := ⟨pe_ix hr ha.h hb.h hs⟩
end
section
variable {X : Cx}
theorem qpe_ixD {o i : Expr} {td ty : TE} {pos : Pos} (ho : Pr (PE X o td)) (hi : Pr (PE X i ty)) (hs : NoSl i) : Pr (PE X (.Subscript o i pos) (tOp (rIxD X) td ty)) := ⟨pe_ixD ho.h hi.h hs⟩
end
section
variable {X : Cx} {o e value : Expr} {f : Str} {pos pos' tpos : Pos} {ta tv : TE}
theorem qpe_fld (he : Pr (PE X e ta)) (hb : attributeBase e f X.env (eval e X.env) = eval e X.env) : Pr (PE X (.Attribute e f pos) (tFld X.K ta f)) := ⟨pe_fld he.h hb⟩
end
section
variable {X : Cx} {CX : CXT} {k : Nat} {ps : List Str} {sp : Sp} {E : XK} {x : Str} {p pos : Pos} {e : Expr} {es : List Expr} {t : TA}
theorem qpe_callD (D : DefOk X.prog X.w X.K X.mg X.base CX k x ps sp) (hr : Room k X.A) (hg : Gl X x) (hx : Passes CX X E) (ha : Pr (PA X (e :: es) t)) (hdb : (x == ("__debug__" : Str)) = false := by decide) (he : starEach (e :: es) X.env = (false, eval e X.env) :: starEach es X.env := by rfl) (hpl : (backTo pos (starEach es X.env)).any (·.1) = false := by rfl) : Pr (PE X (.Call (.Name x p) (e :: es) [] pos) (tCall sp [] E t)) := ⟨pe_callD D hr hg hx ha.h hdb he hpl⟩
end
section
variable {X : Cx} {CX : CXT} {k : Nat} {ps : List Str} {sp : Sp} {E : XK} {x : Str} {p pos : Pos} {e : Expr} {es : List Expr} {t : TA}
end
section
variable {X : Cx} {x : Str} {p pos : Pos} {e : Expr} {es : List Expr} {t : TA} {id T : String} {r : List V → Hp → VK → Prop}
theorem qpe_callB (hc : CallR X (.builtin id) r) (hg : Gl X x) (hm : X.mg x = none) (hv : bootBuiltins x = some (.builtin id)) (ha : Pr (PA X (e :: es) t)) (hn : x ≠ "__name__" := by decide) (hdb : (x == ("__debug__" : Str)) = false := by decide) (he : starEach (e :: es) X.env = (false, eval e X.env) :: starEach es X.env := by rfl) (hpl : (backTo pos (starEach es X.env)).any (·.1) = false := by rfl) : Pr (PE X (.Call (.Name x p) (e :: es) [] pos) (tCB r t)) := ⟨pe_callB hc hg hm hv ha.h hn hdb he hpl⟩
end
section
variable {X : Cx} {x : Str} {p pos : Pos} {e : Expr} {es : List Expr} {t : TA} {id T : String} {r : List V → Hp → VK → Prop}
theorem qpe_callTy (hc : CallR X (.type T) r) (hg : Gl X x) (hm : X.mg x = none) (hv : bootBuiltins x = some (.type T)) (ha : Pr (PA X (e :: es) t)) (hn : x ≠ "__name__" := by decide) (hdb : (x == ("__debug__" : Str)) = false := by decide) (he : starEach (e :: es) X.env = (false, eval e X.env) :: starEach es X.env := by rfl) (hpl : (backTo pos (starEach es X.env)).any (·.1) = false := by rfl) : Pr (PE X (.Call (.Name x p) (e :: es) [] pos) (tCB r t)) := ⟨pe_callTy hc hg hm hv ha.h hn hdb he hpl⟩
end
section
variable {X : Cx} {a b : Expr} {ta tb : TE} {pos : Pos}
variable {o e : Expr} {es : List Expr} {to : TE} {t : TA} {name : Str} {apos cpos : Pos} {T id : String} {r : V → List V → Hp → VK → Prop}
theorem qpe_bm (pa : PlainAttrs T) (slot : Slot T name id) (hty : typeOf (.builtin id) = pure (.type "method_descriptor")) (hm : MtR X id r) (ho : Pr (PE X o to)) (ha : Pr (PA X (e :: es) t)) (hbase : attributeBase o name X.env (eval o X.env) = eval o X.env := by rfl) (hfew : ((backTo cpos (starEach (e :: es) X.env)).all (fun x => !x.1) && (backToKw cpos (keywordEach [] X.env)).all (fun x => x.1.isSome)
      && decide ((e :: es).length + ([] : List Keyword).length + (if ([] : List Keyword).isEmpty then 0 else 1) < 30)) = true := by rfl) (hline : (apos.endLine == cpos.line) = true := by rfl) (hs : starEach (e :: es) X.env = (false, eval e X.env) :: starEach es X.env := by rfl) (hplain : (backTo cpos (starEach es X.env)).any (·.1) = false := by rfl) : Pr (PE X (.Call (.Attribute o name apos) (e :: es) [] cpos) (tBM X.K T r to t)) := ⟨pe_bm pa slot hty hm ho.h ha.h hbase hfew hline hs hplain⟩
end
section
variable {X : Cx} {a b c : Expr} {ta tb tc : TE} {pos : Pos}
theorem qpt_cmpR {op : CmpOp} {r : R2} (ho : OpR X (compareOp op) r) (ha : Pr (PE X a ta)) (hb : Pr (PE X b tb)) (hm : behindInMarks op b = false) : Pr (PT X (.Compare a [op] [b] pos) (tTest (tOp r ta tb))) := ⟨pt_cmpR ho ha.h hb.h hm⟩
end
section
variable {X : Cx} {a b c : Expr} {ta tb tc : TE} {pos : Pos}
end
section
variable {X : Cx}
variable {a b : Expr} {ta tb : TE} {pos : Pos}
variable {tA tB' : TT} {rest : List Expr}
theorem qpt_not (ha : Pr (PT X a tA)) : Pr (PT X (.UnaryOp .Not a pos) (tNot tA)) := ⟨pt_not ha.h⟩
end
section
variable {X : Cx}
variable {a b : Expr} {ta tb : TE} {pos : Pos}
theorem qpt_val {e : Expr} {t : TE} (h : Pr (PE X e t)) (he : ∀ whole, isTrue e X.env whole = (do let v ← whole; standAt e.pos; holding [v] (truthy v)) := by intro _; rfl) : Pr (PT X e (tB t)) := ⟨pt_val h.h he⟩
end
section
theorem qPW_pt {X : Cx} {e : Expr} {t : TT} (h : Pr (PW X e t)) : Pr (PT X e t) := ⟨PW.pt h.h⟩
end
section
variable {X : Cx}
variable {a b : Expr} {ta tb : TE} {pos : Pos}
variable {tA tB' : TT} {rest : List Expr}
theorem qpw_and (ha : Pr (PT X a tA)) (hb : Pr (PW X (.BoolOp .And (b :: rest) pos) tB')) : Pr (PW X (.BoolOp .And (a :: b :: rest) pos) (tAnd tA tB')) := ⟨pw_and ha.h hb.h⟩
end
section
variable {X : Cx}
variable {a b : Expr} {ta tb : TE} {pos : Pos}
variable {tA tB' : TT} {rest : List Expr}
theorem qpw_and1 (ha : Pr (PT X a tA)) : Pr (PW X (.BoolOp .And [a] pos) tA) := ⟨pw_and1 ha.h⟩
end
section
variable {X : Cx}
variable {a b : Expr} {ta tb : TE} {pos : Pos}
variable {tA tB' : TT} {rest : List Expr}
theorem qpw_or (ha : Pr (PT X a tA)) (hb : Pr (PW X (.BoolOp .Or (b :: rest) pos) tB')) : Pr (PW X (.BoolOp .Or (a :: b :: rest) pos) (tOr tA tB')) := ⟨pw_or ha.h hb.h⟩
end
section
variable {X : Cx}
variable {a b : Expr} {ta tb : TE} {pos : Pos}
variable {tA tB' : TT} {rest : List Expr}
theorem qpw_or1 (ha : Pr (PT X a tA)) : Pr (PW X (.BoolOp .Or [a] pos) tA) := ⟨pw_or1 ha.h⟩
end
section
variable {X : Cx} {e : Expr} {es : List Expr} {te : TE} {t : TA} {pos : Pos}
theorem qpa_nil  : Pr (PA X [] tNil) := ⟨pa_nil⟩
end
section
variable {X : Cx} {e : Expr} {es : List Expr} {te : TE} {t : TA} {pos : Pos}
theorem qpa_cons (ha : Pr (PE X e te)) (hr : Pr (PA X es t)) (hs : starEach (e :: es) X.env = (false, eval e X.env) :: starEach es X.env := by rfl) : Pr (PA X (e :: es) (tCons te t)) := ⟨pa_cons ha.h hr.h hs⟩
end
section
variable {X : Cx} {e : Expr} {te : TE} {lo hi : Option Expr} {tl th : TO} {pos p2 : Pos}
theorem qpo_none  : Pr (PO X none tNoPart) := ⟨po_none⟩
end
section
variable {X : Cx} {e : Expr} {te : TE} {lo hi : Option Expr} {tl th : TO} {pos p2 : Pos}
theorem qpo_some (h : Pr (PE X e te)) : Pr (PO X (some e) (tPart te)) := ⟨po_some h.h⟩
end
section
variable {X : Cx} {tg : Expr}
theorem qpi_list {l : Expr} {tl : TE} (hl : Pr (PE X l tl)) : Pr (PI X tg l (iList X.K tl)) := ⟨pi_list hl.h⟩
end
section
variable {X : Cx} {tg : Expr}
theorem qpi_tup {l : Expr} {tl : TE} (hl : Pr (PE X l tl)) : Pr (PI X tg l (iTup X.K tl)) := ⟨pi_tup hl.h⟩
end
section
variable {X : Cx} {tg : Expr}
theorem qpi_range1 {a : Expr} {ta : TA} {p pos : Pos} (hg : Gl X "range") (hm : X.mg "range" = none) (ha : Pr (PA X [a] ta)) (hs : starEach [a] X.env = [(false, eval a X.env)] := by rfl) : Pr (PI X tg (.Call (.Name "range" p) [a] [] pos) (iRng1 ta)) := ⟨pi_range1 hg hm ha.h hs⟩
end
section
variable {X : Cx} {tg : Expr}
end
section
variable {X : Cx} {elts : List Expr} {kk : Nat} {tpos : Pos}
theorem qpi_zip (k1 k2 : SK) {a b : Expr} {ta : TA} {p pos : Pos} (hg : Gl X "zip") (hm : X.mg "zip" = none) (ha : Pr (PA X [a, b] ta)) (hs : starEach [a, b] X.env = [(false, eval a X.env), (false, eval b X.env)] := by rfl) (hs2 : starEach [b] X.env = [(false, eval b X.env)] := by rfl) : Pr (PI X (.Tuple elts kk tpos) (.Call (.Name "zip" p) [a, b] [] pos) (iZip X.K k1 k2 ta)) := ⟨pi_zip k1 k2 hg hm ha.h hs hs2⟩
end
section
variable {X : Cx} {pos : Pos}
theorem qpg_name {i : Nat} {x : Str} (hN : X.N.Nodup) (hi : X.N[i]? = some x) (hx : Loc X.env.scope x) (hf : X.fn x = true ∨ X.env.scope.names.lookup x = some .local := by first | exact .inl rfl | exact .inr rfl | assumption) : Pr (PG X (.Name x pos) (gName i)) := ⟨pg_name hN hi hx hf⟩
end
section
variable {X : Cx} {pos : Pos}
theorem qpgs_nil  : Pr (PGs X [] gNil) := ⟨pgs_nil⟩
end
section
variable {X : Cx} {pos : Pos}
theorem qpgs_cons {e : Expr} {es : List Expr} {t : TG} {u : TGs} (h1 : Pr (PG X e t)) (h2 : Pr (PGs X es u)) (hs : (assignEach (e :: es) X.env).map (·.2) = assign e X.env :: (assignEach es X.env).map (·.2) := by rfl) : Pr (PGs X (e :: es) (gCons t u)) := ⟨pgs_cons h1.h h2.h hs⟩
end
section
variable {X : Cx} {pos : Pos}
theorem qpg_tup {es : List Expr} {k : Nat} {t : TGs} {n : Nat} (hc : X.calm = true) (h : Pr (PGs X es t)) (hn : (assignEach es X.env).length = n := by rfl) (hst : (assignEach es X.env).findIdx? (·.1) = none := by rfl) : Pr (PG X (.Tuple es k pos) (gTup X.K n t)) := ⟨pg_tup hc h.h hn hst⟩
end
section
variable {X : Cx} {pos : Pos}
theorem qpg_sub {o i : Expr} {to ti : TE} {t : TSet} (ho : Pr (PE X o to)) (hi : Pr (PE X i ti)) (hs : PSet X t) (ha : ∀ v, assign (.Subscript o i pos) X.env v = (do
      let ov ← holding [v] (eval o X.env)
      let iv ← holding [v, ov] (eval i X.env)
      standAt pos
      holding [v, ov, iv] (setItem ov iv v)
      release [v, ov, iv] []) := by intro _; rfl) : Pr (PG X (.Subscript o i pos) (gSub to ti t)) := ⟨pg_sub ho.h hi.h hs ha⟩
end
section
variable {X : Cx} {st : Stmt} {rest : List Stmt} {t u : TS} {e : Expr} {te : TE} {pos : Pos}
theorem qps_ret (he : Pr (PE X e te)) : Pr (PS X (.Return (some e) pos) (tRet te)) := ⟨ps_ret he.h⟩
end
section
variable {X : Cx} {st : Stmt} {rest : List Stmt} {t u : TS} {e : Expr} {te : TE} {pos : Pos}
end
section
variable {X : Cx} {pos : Pos}
theorem qps_set {i : Nat} {x : Str} {e : Expr} {te : TE} {pos' : Pos} (hN : X.N.Nodup) (hi : X.N[i]? = some x) (hx : Loc X.env.scope x) (he : Pr (PE X e te)) (hs : swapsWith e (some (.Name x pos')) pos.line X.env = pure false := by rfl) (hf : X.fn x = true ∨ X.env.scope.names.lookup x = some .local := by first | exact .inl rfl | exact .inr rfl | assumption) : Pr (PS X (.Assign [.Name x pos'] e pos) (tAsg te (gName i))) := ⟨ps_set hN hi hx he.h hs hf⟩
end
section
variable {X : Cx} {pos : Pos}
theorem qps_asg {tg e : Expr} {te : TE} {g : TG} (he : Pr (PE X e te)) (hg : Pr (PG X tg g)) (hs : swapsWithSole [tg] e pos.line X.env = pure false := by rfl) (hw : swappedStores [tg] e X.env = pure none := by rfl) (h1 : (assignEach [tg] X.env).map (·.2) = [assign tg X.env] := by rfl) : Pr (PS X (.Assign [tg] e pos) (tAsg te g)) := ⟨ps_asg he.h hg.h hs hw h1⟩
end
section
variable {X : Cx} {pos : Pos}
end
section
variable {X : Cx} {st : Stmt} {rest : List Stmt} {t u : TS} {e : Expr} {te : TE} {pos : Pos}
theorem qps_if {c : Expr} {a b : List Stmt} {tc : TT} (hc : Pr (PT X c tc)) (ha : Pr (PSs X a t)) (hb : Pr (PSs X b u)) : Pr (PS X (.If c a b pos) (tIfS tc t u)) := ⟨ps_if hc.h ha.h hb.h⟩
end
section
theorem qps_loop {X : Cx} {tg iter : Expr} {body : List Stmt} {wi : TI} {g : TG} {tb : TS} {pos : Pos} (hp : PassesOwn (model X.prog X.w) X.A X.env X.xe) (hc : X.calm = true) (hi : Pr (PI X tg iter wi)) (hg : Pr (PG X tg g)) (hb : Pr (PSs X body tb)) (hs : ∀ x, foldedSetIterable iter X.env x = pure x := by intro _; rfl) : Pr (PS X (.For tg iter body [] pos) (tLoop wi g tb)) := ⟨ps_loop hp hc hi.h hg.h hb.h hs⟩
end
section
variable {X : Cx} {pos : Pos}
end
section
variable {X : Cx} {st : Stmt} {rest : List Stmt} {t u : TS} {e : Expr} {te : TE} {pos : Pos}
theorem qps_expr (he : Pr (PE X e te)) (hs : swapsWith e none pos.line X.env = pure false := by rfl) : Pr (PS X (.Expr e pos) (tDrop te)) := ⟨ps_expr he.h hs⟩
end
section
variable {X : Cx} {st : Stmt} {rest : List Stmt} {t u : TS} {e : Expr} {te : TE} {pos : Pos}
end
section
variable {X : Cx} {st : Stmt} {rest : List Stmt} {t u : TS} {e : Expr} {te : TE} {pos : Pos}
end
section
variable {X : Cx} {st : Stmt} {rest : List Stmt} {t u : TS} {e : Expr} {te : TE} {pos : Pos}
end
section
variable {X : Cx} {st : Stmt} {rest : List Stmt} {t u : TS} {e : Expr} {te : TE} {pos : Pos}
theorem qpss_nil  : Pr (PSs X [] tNext) := ⟨pss_nil⟩
end
section
variable {X : Cx} {st : Stmt} {rest : List Stmt} {t u : TS} {e : Expr} {te : TE} {pos : Pos}
theorem qpss_one (h1 : Pr (PS X st t)) : Pr (PSs X [st] t) := ⟨pss_one h1.h⟩
end
section
variable {X : Cx} {st : Stmt} {rest : List Stmt} {t u : TS} {e : Expr} {te : TE} {pos : Pos}
theorem qpss_cons (h1 : Pr (PS X st t)) (h2 : Pr (PSs X rest u)) : Pr (PSs X (st :: rest) (tSeq t u)) := ⟨pss_cons h1.h h2.h⟩
end
section
theorem qpss_cut {X : Cx} {st : Stmt} {rest : List Stmt} {t u : TS} (h1 : Pr (PS X st t)) (h2 : Pr (PSs X rest u)) : Pr (PSs X (st :: rest) (tCut t u)) := ⟨pss_cut h1.h h2.h⟩
end
section
variable {X : Cx} {st : Stmt} {rest : List Stmt} {t u : TS} {e : Expr} {te : TE} {pos : Pos}
end
section
variable {X : Cx} {o e value : Expr} {f : Str} {pos pos' tpos : Pos} {ta tv : TE}
theorem qps_fld (ha : Pr (PE X o ta)) (hv : Pr (PE X value tv)) (hs : swapsWith value (some (.Attribute o f pos')) pos.line X.env = pure false) : Pr (PS X (.Assign [.Attribute o f pos'] value pos) (sFld X.K ta tv f)) := ⟨ps_fld ha.h hv.h hs⟩
end
end L2

namespace L2
open PySem PySem.Spec PyProof.Rows
def relab (sc outer : Scope) : Scope :=
  { sc with names := sc.names.map fun (n, k) => if (k == .free && outer.kind == .function && outer.names.lookup n == some .cell) then (n, .cell) else (n, k) }
structure CompOk (sc outer : Scope) (own : List Str) (N : List Str) (fr : List Nat) (N' : List Str) : Prop where
  kind : sc.kind = .function
  nocell : ∀ y ∈ sc.names, y.2 ≠ .cell
  loc : ∀ y ∈ sc.names, y.2 = .local → sc.names.lookup y.1 = some .local
  fre : ∀ y ∈ sc.names, y.2 = .free → outer.names.lookup y.1 = some .cell ∨ outer.names.lookup y.1 = some .free
  nd : N'.Nodup
  all : N'.map some = own.map some ++ fr.map fun j => N[j]?
  frk : ∀ j ∈ fr, ∀ x, N[j]? = some x → sc.names.lookup x = some .free ∧ (outer.names.lookup x = some .cell ∨ outer.names.lookup x = some .free)
def cst (n : Nat) (fr : List Nat) (σ : St) : St := List.replicate n none ++ fr.map fun j => (σ[j]?).join
theorem closure_has {env : Env} {sc : Scope} (h : ∀ y ∈ sc.names, y.2 = .free → ∃ c, env.cells.lookup y.1 = some c) :
    ∃ cl, closureFor sc env = pure cl ∧ (∀ x c, cl.lookup x = some c → env.cells.lookup x = some c) ∧ ∀ y ∈ sc.names, y.2 = .free → ∃ c, cl.lookup y.1 = some c := by
  have key : ∀ (l : List (Str × NameKind)) (cs : List (Str × Addr)), (∀ y ∈ l, y.2 = .free → ∃ c, env.cells.lookup y.1 = some c) → (∀ x c, cs.lookup x = some c → env.cells.lookup x = some c) →
      ∃ cl, (forIn l cs fun x r => if (x.2 == NameKind.free) = true then do let a ← cellOf env x.1; pure (ForInStep.yield ((x.1, a) :: r)) else pure (ForInStep.yield r)) = (pure cl : Sem _) ∧ (∀ x c, cl.lookup x = some c → env.cells.lookup x = some c) ∧
        (∀ x, (∃ c, cs.lookup x = some c) → ∃ c, cl.lookup x = some c) ∧ ∀ y ∈ l, y.2 = .free → ∃ c, cl.lookup y.1 = some c := by
    intro l
    induction l with
    | nil => intro cs _ h2; exact ⟨cs, rfl, h2, fun _ z => z, fun y hy => nomatch hy⟩
    | cons y l ih =>
      intro cs h1 h2
      obtain ⟨n, k⟩ := y
      by_cases hk : k = .free
      · subst hk
        obtain ⟨c, hc⟩ := h1 (n, .free) List.mem_cons_self rfl
        obtain ⟨cl, e, a, b, d⟩ := ih ((n, c) :: cs) (fun y hy => h1 y (List.mem_cons_of_mem _ hy)) (fun x c' hx => by
          rw [List.lookup_cons] at hx
          split at hx
          · rename_i q
            have : x = n := by simpa using q
            cases hx; subst this; exact hc
          · exact h2 x c' hx)
        refine ⟨cl, ?_, a, fun x ⟨c', hx⟩ => b x ?_, fun y hy hf => ?_⟩
        · rw [List.forIn_cons]
          have e1 : cellOf env n = pure c := by unfold cellOf; rw [hc]
          simp only [beq_self_eq_true, if_true, e1, pure_bind]
          exact e
        · rw [List.lookup_cons]
          split
          · exact ⟨_, rfl⟩
          · exact ⟨c', hx⟩
        · rcases List.mem_cons.mp hy with rfl | hy
          · exact b n ⟨c, by simp [List.lookup_cons]⟩
          · exact d y hy hf
      · obtain ⟨cl, e, a, b, d⟩ := ih cs (fun y hy => h1 y (List.mem_cons_of_mem _ hy)) h2
        refine ⟨cl, ?_, a, b, fun y hy hf => ?_⟩
        · rw [List.forIn_cons]
          have hb : (k == NameKind.free) = false := by simpa using hk
          simp only [hb, Bool.false_eq_true, if_false, pure_bind]
          exact e
        · rcases List.mem_cons.mp hy with rfl | hy
          · exact absurd hf hk
          · exact d y hy hf
  obtain ⟨cl, e, a, _, d⟩ := key sc.names [] h (fun x c hx => by simp at hx)
  refine ⟨cl, ?_, a, d⟩
  unfold closureFor
  simp only [e, pure_bind]
def cxC (X : Cx) (sc : Scope) (cl : List (Str × Addr)) (N' : List Str) (C : Addr) (s : Shared) (H : Hp) (fp : List Addr) : Cx :=
  { X with N := N', s₀ := s, H₀ := H, env := compEnvC sc cl C X.env, outer := X.stack, stack := X.stack, ex := fp, fn := fun _ => false, pn := [], xe := fun _ _ => False }
theorem relab_lookup {outer : Scope} : ∀ {names : List (Str × NameKind)} {x : Str} {k : NameKind},
    (names.map fun (n, k) => if (k == NameKind.free && outer.kind == .function && outer.names.lookup n == some .cell) then (n, NameKind.cell) else (n, k)).lookup x = some k →
      names.lookup x = some k ∨ (names.lookup x = some .free ∧ k = .cell)
  | [], x, k, h => by simp at h
  | (n, k') :: r, x, k, h => by
    rw [List.map_cons] at h
    by_cases hc : (k' == NameKind.free && outer.kind == .function && outer.names.lookup n == some .cell) = true
    · simp only [hc, if_true] at h
      rw [List.lookup_cons] at h ⊢
      cases hx : x == n with
      | true =>
        rw [hx] at h
        simp only [Option.some.injEq] at h
        have hf : k' = .free := by
          have := (Bool.and_eq_true_iff.mp (Bool.and_eq_true_iff.mp hc).1).1
          simpa using this
        exact .inr ⟨by simp [hf], h.symm⟩
      | false => rw [hx] at h; exact relab_lookup h
    · simp only [hc, Bool.false_eq_true, if_false] at h
      rw [List.lookup_cons] at h ⊢
      cases hx : x == n with
      | true => rw [hx] at h; exact .inl (by simpa using h)
      | false => rw [hx] at h; exact relab_lookup h
theorem relab_free {outer : Scope} : ∀ {names : List (Str × NameKind)} {x : Str}, names.lookup x = some .free →
    (names.map fun (n, k) => if (k == NameKind.free && outer.kind == .function && outer.names.lookup n == some .cell) then (n, NameKind.cell) else (n, k)).lookup x = some .cell ∨
    (names.map fun (n, k) => if (k == NameKind.free && outer.kind == .function && outer.names.lookup n == some .cell) then (n, NameKind.cell) else (n, k)).lookup x = some .free
  | [], x, h => by simp at h
  | (n, k') :: r, x, h => by
    rw [List.lookup_cons] at h
    rw [List.map_cons]
    by_cases hc : (k' == NameKind.free && outer.kind == .function && outer.names.lookup n == some .cell) = true
    · simp only [hc, if_true]
      rw [List.lookup_cons]
      cases hx : x == n with
      | true => exact .inl rfl
      | false => rw [hx] at h; exact relab_free h
    · simp only [hc, Bool.false_eq_true, if_false]
      rw [List.lookup_cons]
      cases hx : x == n with
      | true => rw [hx] at h; exact .inr h
      | false => rw [hx] at h; exact relab_free h
theorem lookup_mem' {α : Type} : ∀ {l : List (Str × α)} {x : Str} {k : α}, l.lookup x = some k → (x, k) ∈ l
  | [], _, _, h => by simp at h
  | (n, k') :: r, x, k, h => by
    rw [List.lookup_cons] at h
    cases hx : x == n with
    | true =>
      rw [hx] at h
      have e : x = n := by simpa using hx
      have e2 : k' = k := by simpa using h
      rw [e, e2]; exact List.mem_cons_self
    | false => rw [hx] at h; exact List.mem_cons_of_mem _ (lookup_mem' h)
section
variable {X : Cx} {pins : List (Addr × Obj)} {σ : St} {H : Hp} {s : Shared} {sc : Scope} {own : List Str} {fr : List Nat} {N' : List Str} {cl : List (Str × Addr)}
theorem block_start (I : Inv X pins σ H s) (cs : CompOk sc X.env.scope own X.N fr N') (h1 : ∀ x c, cl.lookup x = some c → X.env.cells.lookup x = some c) (h2 : ∀ y ∈ sc.names, y.2 = .free → ∃ c, cl.lookup y.1 = some c)
    {fp : List Addr} (hf : ∀ b ∈ fp, FpOk X pins H b ∧ ∃ o, s.heap.get? b = some o) {h' : Heap} {t' : Nat} {C D : Addr} {o : Obj} (hC : s.heap.objs.size ≤ C) (hD : s.heap.objs.size ≤ D) (hDC : D ≠ C)
    (k : ∀ b u, s.heap.get? b = some u → h'.get? b = some u) (hn : h'.Ns C fun _ => none) (hDo : h'.get? D = some o) (hd : ∀ v, o.data ≠ .cell v) :
    Inv (cxC X sc cl N' C s H fp) [(D, o)] (cst own.length fr σ) H { s with heap := h', toks := t' } := by
  have lt : ∀ b u, s.heap.get? b = some u → b < s.heap.objs.size := fun b u e => Heap.lt_size e
  have fpC : ∀ b ∈ fp, b ≠ C := fun b hb z => by
    obtain ⟨_, o, e⟩ := hf b hb
    have := lt b o e
    rw [z] at this
    exact absurd (Nat.lt_of_lt_of_le this hC) (Nat.lt_irrefl _)
  have lenN : N'.length = own.length + fr.length := by
    have := congrArg List.length cs.all
    simpa using this
  refine ⟨⟨I.ok.mod, cs.kind, I.ok.glob, I.ok.blt, hC, fun x y c e1 e2 => I.ok.inj x y c (h1 x c e1) (h1 y c e2), fun x hx => ?_, fun x c z => absurd z Bool.false_ne_true, I.ok.hd, I.ok.frames, .inl rfl, fun b hb => ⟨fpC b hb, fun x c e => (hf b hb).1.2.2.2.2.1 x c (h1 x c e)⟩,
      I.bs, Nat.le_trans I.ok.bsz I.sz, fun b o' e hb => ?_, fun b hb z => ?_, I.stack, I.stkFree⟩,
    rfl, I.bare, Un.kept k, ⟨_, hn, fun i x v e1 e2 e3 => ?_⟩, fun x c e => ?_, I.hok.fresh hC, fun x c e => I.freeC x c (h1 x c e), fun p hp => ?_, I.hok.kept k, ?_⟩
  · have hx' : (relab sc X.env.scope).names.lookup x = some .cell ∨ (relab sc X.env.scope).names.lookup x = some .free := hx
    have hfree : sc.names.lookup x = some .free := by
      rcases hx' with z | z
      · rcases relab_lookup z with q | q
        · exact absurd rfl (cs.nocell _ (lookup_mem' q))
        · exact q.1
      · rcases relab_lookup z with q | q
        · exact q
        · exact q.1
    exact h2 (x, .free) (lookup_mem' hfree) rfl
  · have q := (hf b hb).1.2.2.2.1
    rcases q with q | q
    · exact I.ok.noex b o' e q
    · exact absurd (Nat.lt_of_lt_of_le (Heap.lt_size (I.ok.bs b o' e).1) q) (Nat.lt_irrefl _)
  · have z' : b ∈ frs X.stack := z
    rcases List.mem_cons.mp (I.stkSub b z') with q | q
    · exact (hf b hb).1.2.1 q
    · exact (hf b hb).1.2.2.1 q
  · -- a name of the block at its entry is one of the def's
    have hi : own.length ≤ i := by
      by_cases hi : i < own.length
      · have e2' : (cst own.length fr σ)[i]? = some none := by
          unfold cst
          rw [List.getElem?_append_left (by simpa using hi), List.getElem?_replicate, if_pos hi]
        rw [e2'] at e2; cases e2
      · omega
    have e2' : (fr.map fun j => (σ[j]?).join)[i - own.length]? = some (some v) := by
      unfold cst at e2
      rwa [List.getElem?_append_right (by simpa using hi), List.length_replicate] at e2
    rw [List.getElem?_map] at e2'
    have e1a : (N'.map some)[i]? = some (some x) := by
      have e1 : N'[i]? = some x := e1
      rw [List.getElem?_map, e1]; rfl
    rw [cs.all, List.getElem?_append_right (by simpa using hi), List.length_map, List.getElem?_map] at e1a
    cases ej : fr[i - own.length]? with
    | none => rw [ej] at e2'; cases e2'
    | some j =>
      rw [ej] at e2' e1a
      have hj : j ∈ fr := List.mem_of_getElem? ej
      have nj : X.N[j]? = some x := by simpa using e1a
      have sj : σ[j]? = some (some v) := by
        have : (σ[j]?).join = some v := by simpa using e2'
        cases q : σ[j]? with
        | none => rw [q] at this; cases this
        | some y => rw [q] at this; simp at this; rw [this]
      obtain ⟨kf, ko⟩ := cs.frk j hj x nj
      obtain ⟨m, hm, hl⟩ := I.loc
      obtain ⟨u, r, l⟩ := hl j x v nj sj (.inr ko)
      refine ⟨u, r, .inr ?_⟩
      have lk : X.env.kindOf x = some .cell ∨ X.env.kindOf x = some .free := ko
      rcases l with ⟨z, _⟩ | ⟨_, c, ec, ic⟩
      · rcases lk with q | q <;> rw [z] at q <;> cases q
      · obtain ⟨c', hc'⟩ := h2 (x, .free) (lookup_mem' kf) rfl
        have : c' = c := by
          have := h1 x c' hc'
          rw [ec] at this; exact (Option.some.inj this).symm
        subst this
        refine ⟨relab_free kf, c', hc', ?_⟩
        obtain ⟨oc, hoc, hcd⟩ := ic
        exact ⟨oc, k c' oc hoc, hcd⟩
  · obtain ⟨v, oc, hoc, hcd⟩ := I.cell x c (h1 x c e)
    exact ⟨v, oc, k c oc hoc, hcd⟩
  · have hp' : p ∈ [(D, o)] := hp
    have e : p = (D, o) := by simpa using hp'
    subst e
    refine ⟨hDo, I.hok.fresh hD, hDC, fun z => ?_, hd⟩
    have z' : D ∈ frs X.stack := z
    obtain ⟨_, o2, ho2, _⟩ := I.stack.mem z'
    exact absurd (Nat.lt_of_lt_of_le (Heap.lt_size ho2) hD) (Nat.lt_irrefl _)
  · show (cst own.length fr σ).length = N'.length
    unfold cst
    rw [List.length_append, List.length_replicate, List.length_map, lenN]
theorem block_end (I : Inv X pins σ H s) {fp : List Addr} (hf : ∀ b ∈ fp, FpOk X pins H b ∧ ∃ o, s.heap.get? b = some o) {C D : Addr} {its : List Value} {ys : List V} {n : Nat} {σ' : St} {H' : Hp} {s' : Shared}
    (hD : s.heap.objs.size ≤ D) (J : Inv (cxC X sc cl N' C s H fp) [(D, { cls := .type "list", data := .seq its.toArray n })] σ' H' s') (r : Vals ys its) (hz : ys.length ≤ sizeLine) : Inv X pins σ (upd H' D (.lst ys)) s' := by
  obtain ⟨hDo, hDn, hDC, hDf, hDc⟩ := J.pin (D, { cls := .type "list", data := .seq its.toArray n }) (List.mem_append_right _ List.mem_cons_self)
  have u : Un (frs X.stack) fp H H' s.heap s'.heap := J.base
  have os : s'.os = s.os := J.os
  have lt : ∀ b ob, s.heap.get? b = some ob → b ≠ D := fun b ob e z => by
    have := Heap.lt_size e
    rw [z] at this
    exact absurd (Nat.lt_of_lt_of_le this hD) (Nat.lt_irrefl _)
  refine I.call' (ch := fp) os ⟨u.keep, u.slot, fun b ob e n hx => ?_, u.there, fun b xs e => ?_, fun b ob x e => ?_, fun b ps e => ?_⟩ ?_ J.bare (fun b hb => ?_)
  · rw [upd_ne (lt b ob e)]; exact u.free b ob e n hx
  · have := u.tups b xs e
    rw [upd_ne (ne_of_none this hDn)]; exact this
  · have := u.frzs b ob x e
    rw [upd_ne (ne_of_none this hDn)]; exact this
  · obtain ⟨m, q⟩ := u.tbls b ps e
    exact ⟨m, by rw [upd_ne (ne_of_none q hDn)]; exact q⟩
  · intro b ob e
    by_cases hb : b = D
    · subst hb
      rw [upd_same] at e; cases e
      exact ⟨hz, its, n, r, hDo⟩
    · rw [upd_ne hb] at e
      exact (J.hok b ob e).stay (fun c v _ q => q) (fun c q => by rw [upd_ne (ne_of_none q hDn)]; exact q) fun c xs q => by rw [upd_ne (ne_of_none q hDn)]; exact q
  · obtain ⟨_, f1, _, f3, f4, f5⟩ := (hf b hb).1
    exact ⟨f3, f1, f4, f5⟩
end
def PIf (X : Cx) (ifs : List Expr) (t : TT) : Prop :=
  ∀ (pins : List (Addr × Obj)) (s : Shared) (σ : St) (H : Hp) (Q : Bool → Hp → Prop), Inv X pins σ H s → t σ H Q →
    wpAny (model X.prog X.w) X.A (forIn ifs true fun c r => if r = true then do let ok ← isTrue c X.env (eval c X.env); pure (ForInStep.yield ok) else pure (ForInStep.yield r)) (TP X pins σ Q) X.xe s
def tYes : TT := fun _ H Q => Q true H
theorem pif_nil {X : Cx} : PIf X [] tYes := fun _ _ _ H _ I h => wpAny_tests_nil ⟨H, I, h⟩
theorem pif_one {X : Cx} {c : Expr} {t : TT} (h : PT X c t) : PIf X [c] t := fun pins s σ H Q I q => wpAny_tests_one (h pins s σ H Q I q)
structure Comp (J : It) (g : TG) (tt : TT) (te : TE) (Q : List V → Hp → Prop) (σ : St) (H : Hp) : Prop where
  ex : ∃ W : Nat → Nat → List V → St → Hp → Prop, (∃ m, W 0 m [] σ H) ∧ ∀ i m ys σ H, W i m ys σ H → ys.length < sizeLine ∧
    ((J.stop i H ∧ Q ys H) ∨ (J.go i H ∧ ∃ N : List V → St → Hp → Prop, (∀ ys' σ' H', N ys' σ' H' → ∃ m', m' < m ∧ W (i + 1) m' ys' σ' H') ∧
      ∀ x H', J.yld i H x H' → g x σ H' fun σ2 H2 => tt σ2 H2 fun b H3 => if b = true then te σ2 H3 fun y H4 => N (ys ++ [y]) σ2 H4 else N ys σ2 H3))
section
variable {prog : Program} {w : World} {A : Around} {R : Result → Shared → Prop} {s : Shared}
theorem compLoop_own {elt target iter : Expr} {ifs : List Expr} {scope : Scope} {pos : Pos} {it acc : Value} {env : Env} (I : Nat → Shared → Prop)
    (turn : ∀ n s, I n s → wpAny (model prog w) A (pyNext it) (fun r s₁ => match r with
      | none => R (.ok .next) s₁
      | some v => wpAny (model prog w) A (letOwnedTupleGo target it v) (fun _ s₁ => wpAny (model prog w) A (assign target env v) (fun _ s₂ =>
          wpAny (model prog w) A (forIn ifs true fun c r => if r = true then do let ok ← isTrue c env (eval c env); pure (ForInStep.yield ok) else pure (ForInStep.yield r)) (fun ok s₃ =>
            if ok = true then wpAny (model prog w) A (eval elt env) (fun x s₄ =>
              wpAny (model prog w) A (call (.builtin "list.append") [acc, x]) (fun _ s₅ => ∃ m, m < n ∧ I m s₅) (fun _ _ => False) s₄) (fun _ _ => False) s₃
            else ∃ m, m < n ∧ I m s₃) (fun _ _ => False) s₂) (fun _ _ => False) s₁) (fun _ _ => False) s₁) (fun _ _ => False) s)
    (n : Nat) (h : I n s) : codeAny (model prog w) A (.compLoop (.ListComp elt [⟨target, iter, ifs, 0⟩] scope pos) 0 it acc env) R s := by
  refine codeAny_loop rfl I (fun n s hI => ?_) n h
  show wpAny _ A ((compTurn (.ListComp elt [⟨target, iter, ifs, 0⟩] scope pos) 0 it acc env).onRaise (fun x => do noteFrame x env; theTreesLotGoes x)) _ _ s
  refine wpAny_noted (wpAny_noRaise ?_)
  rw [compTurn_list]
  refine wpAny_bind (wpAny_standAt (wpAny_bind (wpAny_mono (turn n s hI) (fun r s₁ h₁ => ?_) fun _ _ h' => h')))
  cases r with
  | none => exact wpAny_pure h₁
  | some v =>
    refine wpAny_bind (wpAny_mono h₁ (fun _ s₁ h₁ => ?_) fun _ _ h' => h')
    refine wpAny_bind (wpAny_mono h₁ (fun _ s₂ h₂ => wpAny_bind (wpAny_mono h₂ (fun ok s₃ h₃ => ?_) fun _ _ h' => h')) fun _ _ h' => h')
    cases ok with
    | false => exact wpAny_pure ⟨rfl, h₃⟩
    | true =>
      exact wpAny_bind (wpAny_bind (wpAny_mono h₃ (fun x s₄ h₄ => wpAny_bind (wpAny_mono h₄ (fun _ s₅ h₅ => wpAny_pure (wpAny_pure ⟨rfl, h₅⟩)) fun _ _ h' => h')) fun _ _ h' => h'))
end
end L2

namespace L2
open PySem PySem.Spec PyProof.Rows
structure TurnX (G : Cx → Prop) (P : Program) (w : World) (K : PySem.W.Frag) (tg : Expr) (J : It) (fp : List Addr) (it : Addr) (tn : Nat → Heap → Prop) : Prop where
  obj : ∀ i h, tn i h → ∀ b ∈ fp, ∃ o, h.get? b = some o ∧ ∀ v, o.data ≠ .cell v
  keep : ∀ i h h', tn i h → (∀ b ∈ fp, ∀ o, h.get? b = some o → h'.get? b = some o) → tn i h'
  item : ∀ (X : Cx), X.prog = P → X.w = w → X.K = K → G X → ∀ (i : Nat) (pins : List (Addr × Obj)) (s : Shared) (σ : St) (H : Hp) (E : Value → Shared → Prop), Inv X pins σ H s → (∀ b ∈ fp, FpOk X pins H b) → tn i s.heap → J.go i H →
    wpAny (model P w) X.A (pyNext (.ref it)) (fun r s1 => ∃ u, r = some u ∧
      wpAny (model P w) X.A (letOwnedTupleGo tg (.ref it) u) (fun _ s2 => ∃ x H', Inv X pins σ H' s2 ∧ RelV x u ∧ J.yld i H x H' ∧ tn (i + 1) s2.heap ∧ ∀ b ∈ fp, H' b = none) E s1) E s
  done : ∀ (X : Cx), X.prog = P → X.w = w → X.K = K → G X → ∀ (i : Nat) (pins : List (Addr × Obj)) (s : Shared) (σ : St) (H : Hp) (E : Value → Shared → Prop), Inv X pins σ H s → (∀ b ∈ fp, FpOk X pins H b) → tn i s.heap → J.stop i H →
    wpAny (model P w) X.A (pyNext (.ref it)) (fun r s1 => r = none ∧ Inv X pins σ H s1) E s
  self : ∀ (A : Around) (i : Nat) (s : Shared) (Q : Value → Shared → Prop) (E : Value → Shared → Prop), tn i s.heap → Q (.ref it) s → wpAny (model P w) A (pyIter (.ref it)) Q E s
theorem Turn.x {P : Program} {w : World} {K : PySem.W.Frag} {tg : Expr} {J : It} {fp : List Addr} {it : Addr} {tn : Nat → Heap → Prop} (T : Turn P w K tg J fp it tn) : TurnX (fun X => X.calm = true) P w K tg J fp it tn := ⟨T.obj, T.keep, T.item, T.done, T.self⟩
section
variable {X : Cx} {sc : Scope} {own : List Str} {fr : List Nat} {N' : List Str} {tg elt iter : Expr} {ifs : List Expr} {g : TG} {tt : TT} {te : TE} {wi : TI} {pos : Pos}
theorem comp_block {G : Cx → Prop} {pins : List (Addr × Obj)} {σ : St} {H : Hp} {s2 : Shared} {it : Addr} {fp : List Addr} {tn : Nat → Heap → Prop} {J : It} {QQ : List V → Hp → Prop} {cl : List (Str × Addr)} {RR : Value → Addr → Result → Shared → Prop} {E : Value → Shared → Prop}
    (I2 : Inv X pins σ H s2) (hc : ∀ cl C s H fp, G (cxC X sc cl N' C s H fp)) (T : TurnX G X.prog X.w X.K tg J fp it tn) (st : tn 0 s2.heap) (f2 : ∀ b ∈ fp, FpOk X pins H b) (cs : CompOk sc X.env.scope own X.N fr N')
    (h1 : ∀ x c, cl.lookup x = some c → X.env.cells.lookup x = some c) (h2 : ∀ y ∈ sc.names, y.2 = .free → ∃ c, cl.lookup y.1 = some c)
    (hg : ∀ cl C s H fp, PG (cxC X sc cl N' C s H fp) tg g) (hif : ∀ cl C s H fp, PIf (cxC X sc cl N' C s H fp) ifs tt) (he : ∀ cl C s H fp, PE (cxC X sc cl N' C s H fp) elt te)
    (KK : Comp J g tt te QQ (cst own.length fr σ) H)
    (hRR : ∀ D C m H' ys s', s2.heap.objs.size ≤ C → s'.heap.Ns C m → H' D = none → (upd H' D (.lst ys)) C = none → QQ ys H' → Inv X pins σ (upd H' D (.lst ys)) s' → RR (.ref D) C (.ok .next) s') :
    wpAny (model X.prog X.w) X.A (newList []) (fun acc s₃ => wpAny (model X.prog X.w) X.A (newFunctionEnv sc X.env.globals cl [] X.env.qual none .none (some X.env)) (fun cenv s₄ =>
      codeAny (model X.prog X.w) X.A (.compStart (.ListComp elt [⟨tg, iter, ifs, 0⟩] sc pos) 0 (.ref it) acc { cenv with scope := relabel sc X.env }) (RR acc cenv.locals) s₄) E s₃) E s2 := by
  refine wpAny_newObj_type (wpAny_newFunctionEnv cs.nocell (by intro y hy; simp at hy) (fun h₁ hns₁ hsb₁ => ?_) cs.kind)
  dsimp only at hns₁ hsb₁ ⊢
  generalize hH2 : s2.heap.push { cls := .type "list", dict := none, data := .seq ([] : List Value).toArray } = H2 at hns₁ hsb₁ ⊢
  have hC : H2.objs.size = s2.heap.objs.size + 1 := by rw [← hH2, Heap.size_push]
  have hDC : s2.heap.objs.size ≠ H2.objs.size := by rw [hC]; exact Nat.ne_of_lt (Nat.lt_succ_self _)
  have hCle : s2.heap.objs.size ≤ H2.objs.size := by rw [hC]; exact Nat.le_succ _
  have below : ∀ b, b < s2.heap.objs.size → b ≠ H2.objs.size ∧ b ≠ s2.heap.objs.size := fun b hb => ⟨by rw [hC]; exact Nat.ne_of_lt (Nat.lt_succ_of_lt hb), Nat.ne_of_lt hb⟩
  have old : ∀ b o, s2.heap.get? b = some o → h₁.get? b = some o := fun b o e => hsb₁.extBut b o (below b (Heap.lt_size e)).1 (Heap.get?_push_of_some _ (hH2 ▸ Heap.get?_push_of_some _ e))
  have hacc : h₁.get? s2.heap.objs.size = some { cls := .type "list", data := .seq ([] : List Value).toArray 0 } := hsb₁.extBut _ _ hDC (Heap.get?_push_of_some _ (hH2 ▸ Heap.get?_push_size _ rfl))
  have fpo : ∀ b ∈ fp, FpOk X pins H b ∧ ∃ o, s2.heap.get? b = some o := fun b hb => ⟨f2 b hb, let ⟨o, e, _⟩ := T.obj 0 _ st b hb; ⟨o, e⟩⟩
  have st1 : tn 0 h₁ := T.keep _ _ _ st fun b hb o e => old b o e
  have hns : h₁.Ns H2.objs.size fun _ => none := by simpa using hns₁
  obtain ⟨W, ⟨m0, w0⟩, turn⟩ := KK.ex
  have loop : ∀ s₃ : Shared, s₃ = { s2 with heap := h₁, toks := s2.toks + ([] : List (Str × Value)).length } →
      codeAny (model X.prog X.w) X.A (.compLoop (.ListComp elt [⟨tg, iter, ifs, 0⟩] sc pos) 0 (.ref it) (.ref s2.heap.objs.size) (compEnvC sc cl H2.objs.size X.env)) (RR (.ref s2.heap.objs.size) H2.objs.size) s₃ := by
    rintro s₃ rfl
    have J0 : Inv (cxC X sc cl N' H2.objs.size s2 H fp) [(s2.heap.objs.size, { cls := .type "list", data := .seq ([] : List Value).toArray 0 })] (cst own.length fr σ) H { s2 with heap := h₁, toks := s2.toks + ([] : List (Str × Value)).length } :=
      block_start I2 cs h1 h2 fpo hCle (Nat.le_refl _) hDC old hns hacc (fun v z => by cases z)
    have stat : ∀ {pl : List (Addr × Obj)} {H' : Hp}, (∀ p ∈ pl, p.1 = s2.heap.objs.size) → (∀ b ∈ fp, H' b = none) → ∀ b ∈ fp, FpOk (cxC X sc cl N' H2.objs.size s2 H fp) pl H' b := fun {pl H'} hpl hn b hb => by
      obtain ⟨f, ob, e⟩ := fpo b hb
      refine ⟨hn b hb, (below b (Heap.lt_size e)).1, fun z => ?_, .inl hb, fun x c ec => f.2.2.2.2.1 x c (h1 x c ec), fun p hp => ?_⟩
      · have z' : b ∈ frs X.stack := z
        rcases List.mem_cons.mp (I2.stkSub b z') with q | q
        · exact f.2.1 q
        · exact f.2.2.1 q
      · have hp' : p ∈ pl := hp
        rw [hpl p hp']
        exact Ne.symm (below b (Heap.lt_size e)).2
    have one : ∀ (o : Obj), ∀ p ∈ [(s2.heap.objs.size, o)], p.1 = s2.heap.objs.size := fun o p hp => by
      have : p = (s2.heap.objs.size, o) := by simpa using hp
      rw [this]
    refine compLoop_own (env := compEnvC sc cl H2.objs.size X.env) (fun n s' => ∃ i ys its k σ' H', Inv (cxC X sc cl N' H2.objs.size s2 H fp) [(s2.heap.objs.size, { cls := .type "list", data := .seq (its : List Value).toArray k })] σ' H' s' ∧ tn i s'.heap ∧ (∀ b ∈ fp, H' b = none) ∧ Vals ys its ∧ W i n ys σ' H')
      ?_ m0 ⟨0, [], [], 0, _, H, J0, st1, fun b hb => (f2 b hb).1, .nil, w0⟩
    rintro n s3 ⟨i, ys, its, k, σ3, H3, I3, st3, fr3, rv, w3⟩
    obtain ⟨hlen, alt⟩ := turn i n ys σ3 H3 w3
    rcases alt with ⟨stop, qn⟩ | ⟨go, N, hN, step⟩
    · refine wpAny_mono (T.done (cxC X sc cl N' H2.objs.size s2 H fp) rfl rfl rfl (hc _ _ _ _ _) i _ s3 σ3 H3 (fun _ _ => False) I3 (stat (one _) fr3) st3 stop) (fun r s4 ⟨hr, I4⟩ => ?_) fun _ _ z => z
      subst hr
      obtain ⟨m, hm, _⟩ := I4.loc
      have hDn : H3 s2.heap.objs.size = none := (I4.pin (s2.heap.objs.size, { cls := .type "list", data := .seq its.toArray k }) (List.mem_append_right _ List.mem_cons_self)).2.1
      exact hRR _ _ m H3 ys s4 hCle hm hDn (by rw [upd_ne (Ne.symm hDC)]; exact I4.free) qn (block_end I2 fpo (Nat.le_refl _) I4 rv (Nat.le_of_lt hlen))
    · refine wpAny_mono (T.item (cxC X sc cl N' H2.objs.size s2 H fp) rfl rfl rfl (hc _ _ _ _ _) i _ s3 σ3 H3 (fun _ _ => False) I3 (stat (one _) fr3) st3 go) (fun r s4 ⟨u, hr, h4⟩ => ?_) fun _ _ z => z
      subst hr
      refine wpAny_mono h4 (fun _ s5 ⟨x, H5, I5, r5, y5, st5, fr5⟩ => ?_) fun _ _ z => z
      have I5' := I5.pinned (stat (one _) fr5) (T.obj _ _ st5)
      refine wpAny_mono (hg cl H2.objs.size s2 H fp _ s5 σ3 H5 x u _ I5' r5 (step x H5 y5)) (fun _ s6 ⟨σ6, H6, I6, q6⟩ => ?_) fun _ _ z => z
      refine wpAny_mono (hif cl H2.objs.size s2 H fp _ s6 σ6 H6 _ I6 q6) (fun b s7 ⟨H7, I7, q7⟩ => ?_) fun _ _ z => z
      have fps : ∀ {σ8 : St} {H8 : Hp} {s8 : Shared}, Inv (cxC X sc cl N' H2.objs.size s2 H fp) ([(s2.heap.objs.size, { cls := .type "list", data := .seq its.toArray k })] ++ pinsAt fp s5.heap) σ8 H8 s8 →
          tn (i + 1) s8.heap ∧ ∀ b ∈ fp, H8 b = none := fun {σ8 H8 s8} I8 => by
        refine ⟨T.keep _ _ _ st5 fun b hb o e => (I8.pin (b, o) (List.mem_append_right _ (List.mem_append_right _ (mem_pinsAt hb e)))).1, fun b hb => ?_⟩
        obtain ⟨o, e, d⟩ := T.obj _ _ st5 b hb
        exact (I8.pin (b, o) (List.mem_append_right _ (List.mem_append_right _ (mem_pinsAt hb e)))).2.1
      cases b with
      | false =>
        obtain ⟨m', hm, w7⟩ := hN ys σ6 H7 q7
        exact ⟨m', hm, i + 1, ys, its, k, σ6, H7, I7.unpinned, (fps I7).1, (fps I7).2, rv, w7⟩
      | true =>
        have q7' : te σ6 H7 fun y H4 => N (ys ++ [y]) σ6 H4 := q7
        refine wpAny_mono (he cl H2.objs.size s2 H fp _ s7 σ6 H7 _ I7 q7') (fun uy s8 ⟨y, H8, I8, r8, n8⟩ => ?_) fun _ _ z => z
        obtain ⟨m', hm, w8⟩ := hN _ _ _ n8
        obtain ⟨hDo, hDn, hDL, hDf, _⟩ := I8.pin (s2.heap.objs.size, { cls := .type "list", data := .seq its.toArray k }) (List.mem_append_right _ (List.mem_append_left _ List.mem_cons_self))
        have hys : its.toArray.size ≤ sizeLine := by rw [List.size_toArray, ← rv.length]; exact Nat.le_of_lt hlen
        refine wpAny_list_append_plain (hsz := hys) (⟨k, hDo⟩ : s8.heap.PlainList s2.heap.objs.size its.toArray) fun h9 ⟨k', hl9⟩ hs9 => ?_
        have hDp : ∀ p ∈ (cxC X sc cl N' H2.objs.size s2 H fp).pn ++ pinsAt fp s5.heap, p.1 ≠ s2.heap.objs.size := fun p hp => by
          have hp' : p ∈ pinsAt fp s5.heap := by
            have hp2 : p ∈ ([] : List (Addr × Obj)) ++ pinsAt fp s5.heap := hp
            simpa using hp2
          obtain ⟨hb, _⟩ := of_pinsAt hp'
          obtain ⟨_, ob, e⟩ := fpo p.1 hb
          exact (below p.1 (Heap.lt_size e)).2
        have I8' : Inv (cxC X sc cl N' H2.objs.size s2 H fp) (pinsAt fp s5.heap) σ6 H8 s8 := I8.pins_of fun p hp => I8.pin p (List.mem_append_right _ (List.mem_append_right _ hp))
        have I9 : Inv (cxC X sc cl N' H2.objs.size s2 H fp) (pinsAt fp s5.heap) σ6 H8 { s8 with heap := h9 } := I8'.turned (t' := s8.toks) (it := s2.heap.objs.size) (fun b o hb e => (hs9.2 b hb).trans e) hDn hDL (.inr (Nat.le_refl _))
          (fun x c e z => by
            obtain ⟨v, q⟩ := I2.cell x c (h1 x c e)
            have := q.lt
            rw [z] at this
            exact absurd this (Nat.lt_irrefl _)) hDp
        have key := fps I8
        refine ⟨m', hm, i + 1, ys ++ [y], its ++ [uy], k', σ6, H8, I9.pins_of fun p hp => ?_, T.keep _ _ _ key.1 fun b hb o e => ?_, key.2, rv.append (.cons r8 .nil), w8⟩
        · have e : p = (s2.heap.objs.size, { cls := .type "list", data := .seq (its ++ [uy]).toArray k' }) := by simpa using hp
          subst e
          refine ⟨?_, hDn, hDL, hDf, fun v z => by cases z⟩
          have : (its ++ [uy]).toArray = its.toArray.push uy := by simp
          rw [this]; exact hl9
        · obtain ⟨_, ob, e2⟩ := fpo b hb
          exact (hs9.2 b (below b (Heap.lt_size e2)).2).trans e
  exact codeAny_compStart_list (loop _ rfl) (wpAny_mono (T.self X.A 0 _ (fun it' s' => it' = .ref it ∧ s' = { s2 with heap := h₁, toks := s2.toks + ([] : List (Str × Value)).length }) _ st1 ⟨rfl, rfl⟩) (fun it' s' ⟨e1, e2⟩ => by subst e1 e2; exact loop _ rfl) fun _ _ z => z)
def tComp (n : Nat) (fr : List Nat) (wi : TI) (g : TG) (tt : TT) (te : TE) : TE := fun σ H Q => wi σ H fun J H1 => Comp J g tt te (fun ys H2 => ∀ D, H2 D = none → Q (.ref D) (upd H2 D (.lst ys))) (cst n fr σ) H1
theorem pe_comp (hc : X.calm = true) (cs : CompOk sc X.env.scope own X.N fr N') (hi : PI X tg iter wi) (hg : ∀ cl C s H fp, PG (cxC X sc cl N' C s H fp) tg g) (hif : ∀ cl C s H fp, PIf (cxC X sc cl N' C s H fp) ifs tt)
    (he : ∀ cl C s H fp, PE (cxC X sc cl N' C s H fp) elt te) (hs : ∀ x, foldedSetIterable iter X.env x = pure x := by intro _; rfl) : PE X (.ListComp elt [⟨tg, iter, ifs, 0⟩] sc pos) (tComp own.length fr wi g tt te) := by
  intro pins s σ H Q I h
  obtain ⟨cl, ecl, h1, h2⟩ := closure_has (env := X.env) (sc := sc) fun y hy hf => I.ok.has y.1 (cs.fre y hy hf)
  rw [eval_ListComp]
  refine wpAny_comprehension_free (use := none) rfl hs ecl cs.kind cs.loc (thn (hi pins s σ H _ I h) fun v s1 q1 => thn q1 fun itv s2 q2 => ?_)
  obtain ⟨it, fp, tn, J, H2, rfl, I2, T, st, f2, KK⟩ := q2
  refine comp_block (RR := fun acc C => compPost (model X.prog X.w) X.A X.xe none (EP X pins σ Q) acc C) I2 (fun _ _ _ _ _ => hc) T.x st f2 cs h1 h2 hg hif he KK fun D C m H' ys s' hC hn hD hCn hq I' => ?_
  refine ⟨m, hn, fun h' hs' => ⟨.ref D, upd H' D (.lst ys), ?_, rfl, hq D hD⟩⟩
  obtain ⟨f0, f1, f2, f3, f4, f5⟩ := I2.fpOk hC hCn
  exact I'.turned (t' := s'.toks) (it := C) (fun b o hb e => (hs'.2 b hb).trans e) f0 (Ne.symm (Ne.symm f1)) f3 f4 f5
def tSetC (i n : Nat) (fr : List Nat) (wi : TI) (g : TG) (tt : TT) (te : TE) : TS := fun D σ H => wi σ H fun J H1 => Comp J g tt te (fun ys H2 => ∀ p, H2 p = none → D.nx (σ.set i (some (.ref p))) (upd H2 p (.lst ys))) (cst n fr σ) H1
theorem ps_setC {i : Nat} {y : Str} {py spos : Pos} (hN : X.N.Nodup) (hy : X.N[i]? = some y) (hx : Loc X.env.scope y) (hc : X.calm = true) (cs : CompOk sc X.env.scope own X.N fr N') (hi : PI X tg iter wi)
    (hg : ∀ cl C s H fp, PG (cxC X sc cl N' C s H fp) tg g) (hif : ∀ cl C s H fp, PIf (cxC X sc cl N' C s H fp) ifs tt) (he : ∀ cl C s H fp, PE (cxC X sc cl N' C s H fp) elt te)
    (hsw : swapsWith (.ListComp elt [⟨tg, iter, ifs, 0⟩] sc pos) (some (.Name y py)) spos.line X.env = pure true) (hfn : X.fn y = true ∨ X.env.scope.names.lookup y = some .local := by first | exact .inl rfl | exact .inr rfl | assumption) (hs : ∀ x, foldedSetIterable iter X.env x = pure x := by intro _; rfl) :
    PS X (.Assign [.Name y py] (.ListComp elt [⟨tg, iter, ifs, 0⟩] sc pos) spos) (tSetC i own.length fr wi g tt te) := by
  intro pins s σ H D I h
  obtain ⟨cl, ecl, h1, h2⟩ := closure_has (env := X.env) (sc := sc) fun y hy hf => I.ok.has y.1 (cs.fre y hy hf)
  rw [exec_Assign_Name_used _ _ _ _ hsw]
  refine wpAny_bind (wpAny_standAt (wpAny_bind ?_))
  show wpAny _ X.A (do let _ ← comprehension (.ListComp elt [⟨tg, iter, ifs, 0⟩] sc pos) sc X.env _ (newList []) false (eval iter X.env) (some (assign (.Name y py) X.env))) _ _ s
  refine wpAny_bind (wpAny_mono (wpAny_comprehension_free (use := some (assign (.Name y py) X.env)) (Q := fun _ s' => ∃ σ' H', Inv X pins σ' H' s' ∧ D.nx σ' H') rfl hs ecl cs.kind cs.loc (thn (hi pins s σ H _ I h) fun v s1 q1 => thn q1 fun itv s2 q2 => ?_))
    (fun _ s' hq => wpAny_pure (wpAny_pure hq)) fun _ _ e => e)
  obtain ⟨it, fp, tn, J, H2, rfl, I2, T, st, f2, KK⟩ := q2
  refine comp_block (RR := fun acc C => compPost (model X.prog X.w) X.A X.xe (some (assign (.Name y py) X.env)) (fun _ s' => ∃ σ' H', Inv X pins σ' H' s' ∧ D.nx σ' H') acc C) I2 (fun _ _ _ _ _ => hc) T.x st f2 cs h1 h2 hg hif he KK fun p C m H' ys s' hC hn hD hCn hq I' => ?_
  obtain ⟨f0, f1, f2, f3, f4, f5⟩ := I2.fpOk hC hCn
  show wpAny _ X.A (assign (.Name y py) X.env (.ref p)) _ _ _
  refine wpAny_assign_Name (store_ok2 (v := .ref p) I' hN hy hx rfl (fun s'' I'' ⟨a, hsa, ha⟩ => ?_) hfn)
  have hCa : C ≠ a := by
    rcases ha with z | z
    · rw [z]; exact f1
    · exact Ne.symm (f4 y a z)
  refine ⟨m, hn.sameBut hsa hCa, fun h' hs' => ⟨_, _, ?_, hq p hD⟩⟩
  exact I''.turned (t' := s''.toks) (it := C) (fun b o hb e => (hs'.2 b hb).trans e) f0 f1 f3 f4 f5
end
theorem comp_by {J : It} {g : TG} {tt : TT} {te : TE} {Q : List V → Hp → Prop} {σ : St} {H : Hp} (n : Nat) (Pv : Nat → List V → St → Hp → Prop) (h0 : Pv 0 [] σ H) (hl : ∀ i ys σ H, i ≤ n → Pv i ys σ H → ys.length < sizeLine)
    (go : ∀ i ys σ H, i < n → Pv i ys σ H → J.go i H) (stop : ∀ ys σ H, Pv n ys σ H → J.stop n H)
    (turn : ∀ i ys σ H, i < n → Pv i ys σ H → ∀ x H', J.yld i H x H' → g x σ H' fun σ2 H2 => tt σ2 H2 fun b H3 => if b = true then te σ2 H3 fun y H4 => Pv (i + 1) (ys ++ [y]) σ2 H4 else Pv (i + 1) ys σ2 H3)
    (after : ∀ ys σ H, Pv n ys σ H → Q ys H) : Comp J g tt te Q σ H := by
  refine ⟨fun i m ys σ H => i ≤ n ∧ m = n - i ∧ Pv i ys σ H, ⟨n, Nat.zero_le _, rfl, h0⟩, fun i m ys σ H ⟨hi, hm, p⟩ => ⟨hl i ys σ H hi p, ?_⟩⟩
  rcases Nat.lt_or_ge i n with h | h
  · exact .inr ⟨go i ys σ H h p, Pv (i + 1), fun ys' σ' H' q => ⟨n - (i + 1), by omega, h, rfl, q⟩, turn i ys σ H h p⟩
  · have e : i = n := Nat.le_antisymm hi h
    subst e
    exact .inl ⟨stop ys σ H p, after ys σ H p⟩
theorem comp_range {lo : Int} {n : Nat} {g : TG} {tt : TT} {te : TE} {Q : List V → Hp → Prop} {σ : St} {H : Hp} (Pv : Nat → List V → St → Hp → Prop) (hn : n < sizeLine) (h0 : Pv 0 [] σ H) (hl : ∀ i ys σ H, i ≤ n → Pv i ys σ H → ys.length ≤ i)
    (turn : ∀ i ys σ H, i < n → Pv i ys σ H → g (.int (lo + i)) σ H fun σ2 H2 => tt σ2 H2 fun b H3 => if b = true then te σ2 H3 fun y H4 => Pv (i + 1) (ys ++ [y]) σ2 H4 else Pv (i + 1) ys σ2 H3)
    (after : ∀ ys σ H, Pv n ys σ H → Q ys H) : Comp (Itr lo n) g tt te Q σ H :=
  comp_by n Pv h0 (fun i ys σ H hi p => Nat.lt_of_le_of_lt (Nat.le_trans (hl i ys σ H hi p) hi) hn) (fun i _ _ _ hi _ => hi) (fun _ _ _ _ => Nat.le_refl _) (fun i ys σ H hi p x H' y => by obtain ⟨rfl, rfl⟩ := y; exact turn i ys σ _ hi p) after
theorem comp_list {K : PySem.W.Frag} {a : Addr} (xs : List V) {g : TG} {tt : TT} {te : TE} {Q : List V → Hp → Prop} {σ : St} {H : Hp} (Pv : Nat → List V → St → Hp → Prop) (hn : xs.length < sizeLine) (h0 : Pv 0 [] σ H) (hl : ∀ i ys σ H, i ≤ xs.length → Pv i ys σ H → ys.length ≤ i ∧ SqL K H a xs)
    (turn : ∀ i ys σ H x, xs[i]? = some x → Pv i ys σ H → g x σ H fun σ2 H2 => tt σ2 H2 fun b H3 => if b = true then te σ2 H3 fun y H4 => Pv (i + 1) (ys ++ [y]) σ2 H4 else Pv (i + 1) ys σ2 H3)
    (after : ∀ ys σ H, Pv xs.length ys σ H → Q ys H) : Comp (Itl K a) g tt te Q σ H :=
  comp_by xs.length Pv h0 (fun i ys σ H hi p => Nat.lt_of_le_of_lt (Nat.le_trans (hl i ys σ H hi p).1 hi) hn) (fun i ys σ H hi p => ⟨xs, xs[i], (hl i ys σ H (Nat.le_of_lt hi) p).2, List.getElem?_eq_getElem hi⟩)
    (fun ys σ H p => ⟨xs, (hl _ ys σ H (Nat.le_refl _) p).2, Nat.le_refl _⟩) (fun i ys σ H hi p x H' y => by obtain ⟨rfl, y⟩ := y; exact turn i ys σ _ x (y xs (hl i ys σ _ (Nat.le_of_lt hi) p).2) p) after
theorem comp_tup {K : PySem.W.Frag} {a : Addr} (xs : List V) {g : TG} {tt : TT} {te : TE} {Q : List V → Hp → Prop} {σ : St} {H : Hp} (Pv : Nat → List V → St → Hp → Prop) (hn : xs.length < sizeLine) (h0 : Pv 0 [] σ H) (hl : ∀ i ys σ H, i ≤ xs.length → Pv i ys σ H → ys.length ≤ i ∧ SqT K H a xs)
    (turn : ∀ i ys σ H x, xs[i]? = some x → Pv i ys σ H → g x σ H fun σ2 H2 => tt σ2 H2 fun b H3 => if b = true then te σ2 H3 fun y H4 => Pv (i + 1) (ys ++ [y]) σ2 H4 else Pv (i + 1) ys σ2 H3)
    (after : ∀ ys σ H, Pv xs.length ys σ H → Q ys H) : Comp (Itt K a) g tt te Q σ H :=
  comp_by xs.length Pv h0 (fun i ys σ H hi p => Nat.lt_of_le_of_lt (Nat.le_trans (hl i ys σ H hi p).1 hi) hn) (fun i ys σ H hi p => ⟨xs, xs[i], (hl i ys σ H (Nat.le_of_lt hi) p).2, List.getElem?_eq_getElem hi⟩)
    (fun ys σ H p => ⟨xs, (hl _ ys σ H (Nat.le_refl _) p).2, Nat.le_refl _⟩) (fun i ys σ H hi p x H' y => by obtain ⟨rfl, y⟩ := y; exact turn i ys σ _ x (y xs (hl i ys σ _ (Nat.le_of_lt hi) p).2) p) after
end L2

namespace L2
open PySem PySem.Spec PyProof.Rows
open AutoSeq1 (wpAny_loadPart') in
set_option maxHeartbeats 4000000 in
theorem meets_enumS_new (k : SK) (l : Addr) (xs : Array Value) :
    Meets (Builtin.«enumerate.__new__» ⟨[.type "enumerate", .ref l], []⟩) (fun _ R s => SIs k s.heap l xs ∧
      R (.ok (.ret (.ref (s.heap.push (itObj k l)).objs.size))) { s with heap := (s.heap.push (itObj k l)).push { cls := .type "enumerate", data := .fields #[.none, .bool false, .ref s.heap.objs.size, rawInt 0, .none, .none] } }) := by
  cases k with
  | list =>
    exact .of_wp fun prog w A R s h => by
      obtain ⟨hp, g, d, tk, os⟩ := s; obtain ⟨hL, h⟩ := h
      have hsub := sub_enumerate
      have hL : Heap.IsList (Shared.heap ⟨hp, g, d, tk, os⟩) l xs := hL
      obtain ⟨ol, hl, hlc, nl, hld⟩ := id hL
      wp_walk using wpAny_loadPart' hl
      refine wpAny_stack_any fun st => wpAny_pure ?_
      split
      · rename_i c _ _ _ _ _
        cases (c == Value.type "enumerate")
        · wp_walk using wpAny_loadPart' hl, wpAny_pyIter_list hL
          exact ⟨_, rfl, h⟩
        · wp_walk using wpAny_loadPart' hl, wpAny_pyIter_list hL
          exact ⟨_, rfl, h⟩
      · wp_walk using wpAny_loadPart' hl, wpAny_pyIter_list hL
        exact ⟨_, rfl, h⟩
  | tuple =>
    exact .of_wp fun prog w A R s h => by
      obtain ⟨hp, g, d, tk, os⟩ := s; obtain ⟨hL, h⟩ := h
      have hsub := sub_enumerate
      have hL : Heap.IsTuple (Shared.heap ⟨hp, g, d, tk, os⟩) l xs := hL
      obtain ⟨ol, hl, hlc, nl, hld⟩ := id hL
      wp_walk using wpAny_loadPart' hl
      refine wpAny_stack_any fun st => wpAny_pure ?_
      split
      · rename_i c _ _ _ _ _
        cases (c == Value.type "enumerate")
        · wp_walk using wpAny_loadPart' hl, wpAny_pyIter_tuple hL
          exact ⟨_, rfl, h⟩
        · wp_walk using wpAny_loadPart' hl, wpAny_pyIter_tuple hL
          exact ⟨_, rfl, h⟩
      · wp_walk using wpAny_loadPart' hl, wpAny_pyIter_tuple hL
        exact ⟨_, rfl, h⟩
section
variable {prog : Program} {w : World} {A : Around} {E : Value → Shared → Prop} {s : Shared}
theorem call_enumS {k : SK} {l : Addr} {xs : Array Value} {Q : Value → Shared → Prop} (hL : SIs k s.heap l xs)
    (h : ∀ h', IsEnum h' (s.heap.objs.size + 1) s.heap.objs.size 0 .none → SIt k h' s.heap.objs.size l 0 → (∀ b o, s.heap.get? b = some o → h'.get? b = some o) → Q (.ref (s.heap.objs.size + 1)) { s with heap := h' }) :
    wpAny (model prog w) A (call (.type "enumerate") [.ref l]) Q E s := by
  refine callType_new F.called_enumerate (by decide) (F.typeCall_enumerate_1 _) (F.newCall_enumerate_1 _) (fun obj => F.args_object_init_2 obj _) F.entry_enumerate_new (meets_enumS_new k l xs) ⟨hL, ?_⟩
  have hz : (s.heap.push (itObj k l)).objs.size = s.heap.objs.size + 1 := Heap.size_push ..
  have r1 : (itObj k l).isFreed = false := by cases k <;> rfl
  have he := Heap.get?_push_size (s.heap.push (itObj k l)) (o := { cls := .type "enumerate", data := .fields #[.none, .bool false, .ref s.heap.objs.size, rawInt 0, .none, .none] }) rfl
  rw [hz] at he
  show _ ∧ _
  rw [hz]
  exact ⟨⟨_, he, rfl⟩, h _ he (itObj_it (Heap.get?_push_of_some _ (Heap.get?_push_size _ r1))) fun b o x => Heap.get?_push_of_some _ (Heap.get?_push_of_some _ x)⟩
theorem enumS_item {k : SK} {e it l : Addr} {i : Nat} {items : Array Value} {x old : Value} {Q : Value → Shared → Prop}
    (he : IsEnum s.heap e it i old) (hit : SIt k s.heap it l i) (hl : SIs k s.heap l items) (hx : items[i]? = some x) (hne : e ≠ it)
    (hQ : ∀ h', IsEnumOut h' e it ((i : Int) + 1) x s.heap.objs.size → SIt k h' it l (i + 1) →
      h'.get? s.heap.objs.size = some { cls := .type "tuple", data := .seq #[.int i s.toks, x] } → h'.objs.size = s.heap.objs.size + 1 →
      (∀ b o, b ≠ e → b ≠ it → s.heap.get? b = some o → h'.get? b = some o) → Q (.ref s.heap.objs.size) { s with heap := h', toks := s.toks + 1 }) :
    wpAny (model prog w) A (Builtin.«enumerate.__next__» ⟨[.ref e], []⟩) (fun fin s' => ∃ v, fin = .done (.ret v) ∧ Q v s') E s := by
  obtain ⟨hp, g, d, tk, os⟩ := s
  show wpAny _ _ (field (.ref e) 2 >>= _) _ _ _
  refine wpAny_bind (wpAny_field he rfl (x := .ref it) rfl ?_)
  refine wpAny_bind (nextOf_item hit hl hx fun h₁ hit₁ hs₁ => ?_)
  replace hs₁ : Heap.SameBut it hp h₁ := hs₁
  have he₁ : IsEnum h₁ e it i old := (hs₁.2 e hne).trans he
  show wpAny _ _ (field (.ref e) 3 >>= _) _ _ ⟨h₁, g, d, tk, os⟩
  refine wpAny_bind (wpAny_field he₁ rfl (x := rawInt i) rfl ?_)
  show wpAny _ _ (field (.ref e) 4 >>= _) _ _ ⟨h₁, g, d, tk, os⟩
  refine wpAny_bind (wpAny_field he₁ rfl (x := .none) rfl ?_)
  show wpAny _ _ (mkInt i >>= _) _ _ ⟨h₁, g, d, tk, os⟩
  refine wpAny_bind (wpAny_mkInt ?_)
  show wpAny _ _ (setField (.ref e) 3 (rawInt ((i : Int) + 1)) >>= _) _ _ ⟨h₁, g, d, tk + 1, os⟩
  refine wpAny_bind (wpAny_setField_rec he₁ (by simp) fun h₂ he₂ hs₂ => ?_)
  replace hs₂ : Heap.SameBut e h₁ h₂ := hs₂
  replace he₂ : IsEnum h₂ e it ((i : Int) + 1) old := he₂
  show wpAny _ _ (setField (.ref e) 4 .none >>= _) _ _ ⟨h₂, g, d, tk + 1, os⟩
  refine wpAny_bind (wpAny_setField_rec he₂ (by simp) fun h₃ he₃ hs₃ => ?_)
  replace hs₃ : Heap.SameBut e h₂ h₃ := hs₃
  replace he₃ : IsEnum h₃ e it ((i : Int) + 1) old := he₃
  show wpAny _ _ (newTuple [.int i tk, x] >>= _) _ _ ⟨h₃, g, d, tk + 1, os⟩
  refine wpAny_bind (wpAny_newTuple ?_)
  have he₄ : IsEnum (h₃.push { cls := .type "tuple", data := .seq #[.int i tk, x] }) e it ((i : Int) + 1) old := Heap.get?_push_of_some _ he₃
  generalize hh₄ : h₃.push { cls := .type "tuple", data := .seq #[.int i tk, x] } = h₄ at he₄
  have hsz : h₃.objs.size = hp.objs.size := by rw [hs₃.1, hs₂.1, hs₁.1]
  have hel : e < hp.objs.size := Heap.lt_size he
  have ht₄ : h₄.get? hp.objs.size = some { cls := .type "tuple", data := .seq #[.int i tk, x] } := by rw [← hh₄, ← hsz]; exact Heap.get?_push_size _ rfl
  have hz₄ : h₄.objs.size = hp.objs.size + 1 := by rw [← hh₄, Heap.size_push, hsz]
  have hk₄ : ∀ b o, b ≠ e → b ≠ it → hp.get? b = some o → h₄.get? b = some o := fun b o hbe hbi hb => by
    rw [← hh₄]; exact Heap.get?_push_of_some _ (hs₃.extBut b o hbe (hs₂.extBut b o hbe (hs₁.extBut b o hbi hb)))
  have hit₄ : SIt k h₄ it l (i + 1) := by
    rw [← hh₄]; exact ((hit₁.ext hs₂.extBut (Ne.symm hne)).ext hs₃.extBut (Ne.symm hne)).at fun o ho => Heap.get?_push_of_some _ ho
  show wpAny _ _ (Builtin.SmallTypes.ownedTupleIsFree (.ref e) >>= _) _ _ ⟨h₄, g, d, tk + 1, os⟩
  rw [hsz]
  clear hh₄ he₃ hs₃ he₂ hs₂ he₁ hs₁ hit₁ hsz h₃ h₂ h₁
  refine wpAny_bind ?_
  · unfold Builtin.SmallTypes.ownedTupleIsFree
    refine wpAny_bind (wpAny_field he₄ rfl (x := .none) rfl (wpAny_pure ?_))
    simp only [if_true]
    refine wpAny_bind (wpAny_rule ?_)
    refine wpAny_bind (wpAny_field he₄ rfl (x := old) rfl ?_)
    refine wpAny_bind (wpAny_setField_rec he₄ (by simp) fun h₅ he₅ hs₅ => ?_)
    replace hs₅ : Heap.SameBut e h₄ h₅ := hs₅
    replace he₅ : IsEnum h₅ e it ((i : Int) + 1) x := he₅
    show wpAny _ _ (Builtin.SmallTypes.ownedTupleHandOut (.ref e) (.ref hp.objs.size) >>= _) _ _ ⟨h₅, g, d, tk + 1, os⟩
    refine wpAny_bind ?_
    · unfold Builtin.SmallTypes.ownedTupleHandOut
      refine wpAny_bind (wpAny_setField_rec he₅ (by simp) fun h₆ he₆ hs₆ => ?_)
      replace hs₆ : Heap.SameBut e h₅ h₆ := hs₆
      replace he₆ : IsEnumOut h₆ e it ((i : Int) + 1) x hp.objs.size := he₆
      refine wpAny_setField_rec he₆ (by simp) fun h₇ he₇ hs₇ => ?_
      replace hs₇ : Heap.SameBut e h₆ h₇ := hs₇
      replace he₇ : IsEnumOut h₇ e it ((i : Int) + 1) x hp.objs.size := he₇
      refine wpAny_bind (wpAny_letGo (wpAny_pure ⟨_, rfl, hQ h₇ he₇ ?_ ?_ ?_ ?_⟩))
      · exact ((hit₄.ext hs₅.extBut (Ne.symm hne)).ext hs₆.extBut (Ne.symm hne)).ext hs₇.extBut (Ne.symm hne)
      · exact hs₇.extBut _ _ (Nat.ne_of_gt hel) (hs₆.extBut _ _ (Nat.ne_of_gt hel) (hs₅.extBut _ _ (Nat.ne_of_gt hel) ht₄))
      · rw [hs₇.1, hs₆.1, hs₅.1, hz₄]
      · exact fun b o hbe hbi hb => hs₇.extBut b o hbe (hs₆.extBut b o hbe (hs₅.extBut b o hbe (hk₄ b o hbe hbi hb)))
theorem pyNext_enumS_item {k : SK} {e it l : Addr} {i : Nat} {items : Array Value} {x old : Value} {Q : Option Value → Shared → Prop}
    (he : IsEnum s.heap e it i old) (hit : SIt k s.heap it l i) (hl : SIs k s.heap l items) (hx : items[i]? = some x) (hne : e ≠ it)
    (hQ : ∀ h', IsEnumOut h' e it ((i : Int) + 1) x s.heap.objs.size → SIt k h' it l (i + 1) →
      h'.get? s.heap.objs.size = some { cls := .type "tuple", data := .seq #[.int i s.toks, x] } → h'.objs.size = s.heap.objs.size + 1 →
      (∀ b o, b ≠ e → b ≠ it → s.heap.get? b = some o → h'.get? b = some o) → Q (some (.ref s.heap.objs.size)) { s with heap := h', toks := s.toks + 1 }) :
    wpAny (model prog w) A (pyNext (.ref e)) Q E s := by
  have hT : s.TypeIs (.ref e) "enumerate" := ⟨_, he, rfl⟩
  unfold pyNext
  exact wpAny_bind (wpAny_attempt (wpAny_callSpecial?_slot (name := Str.ofString "__next__") hT F.slot_enumerate_next
    (wpAny_call_entry F.slot_enumerate_next hT F.entry_enumerate_next
      (enumS_item he hit hl hx hne fun h' a b c d k => wpAny_pure (hQ h' a b c d k)) (F.args_enumerate_next_1 _))))
theorem pyNext_enumS_end {k : SK} {e it l : Addr} {i : Nat} {items : Array Value} {old : Value} {Q : Option Value → Shared → Prop} (hh : A.handled = none)
    (he : IsEnum s.heap e it i old) (hit : SIt k s.heap it l i) (hl : SIs k s.heap l items) (hx : items[i]? = none)
    (hQ : ∀ h', Heap.ExtBut it s.heap h' → Q none { s with heap := h' }) : wpAny (model prog w) A (pyNext (.ref e)) Q E s := by
  have hT : s.TypeIs (.ref e) "enumerate" := ⟨_, he, rfl⟩
  unfold pyNext
  refine wpAny_bind (wpAny_attempt (wpAny_callSpecial?_slot (name := Str.ofString "__next__") hT F.slot_enumerate_next
    (wpAny_call_entry F.slot_enumerate_next hT F.entry_enumerate_next ?_ (F.args_enumerate_next_1 _))))
  show wpAny _ _ (field (.ref e) 2 >>= _) _ _ _
  refine wpAny_bind (wpAny_field he rfl (x := .ref it) rfl ?_)
  refine wpAny_bind (nextOf_end hh hit hl hx fun h' x he' hx' => ?_)
  obtain ⟨o, ho, hc⟩ := hx'
  refine wpAny_bind (wpAny_isInstance (T := "StopIteration") (b := true) ⟨o, ho, hc⟩ isSubtype_stop ?_)
  exact wpAny_pure (hQ _ he')
end
def Itn (K : PySem.W.Frag) (k : SK) (a : Addr) : It :=
  ⟨fun i H => ∃ xs x, Sq k K H a xs ∧ xs[i]? = some x,
   fun i H v H' => ∃ T, H T = none ∧ v = .ref T ∧ ∀ xs, Sq k K H a xs → ∃ x, xs[i]? = some x ∧ H' = upd H T (.tup [.int i, x]),
   fun i H => ∃ xs, Sq k K H a xs ∧ xs.length ≤ i⟩
theorem turn_enum {P : Program} {w : World} {K : PySem.W.Frag} {elts : List Expr} {kk : Nat} {tpos : Pos} {k : SK} {e it a : Addr} (hne : e ≠ it) :
    Turn P w K (.Tuple elts kk tpos) (Itn K k a) [e, it] e (fun i h => (∃ old, IsEnum h e it i old) ∧ SIt k h it a i) where
  mem := by simp
  obj := fun i h st b hb => by
    obtain ⟨⟨old, he⟩, h1⟩ := st
    simp only [List.mem_cons, List.not_mem_nil, or_false] at hb
    rcases hb with rfl | rfl
    · exact ⟨_, he, fun v q => nomatch q⟩
    · exact h1.obj
  keep := fun i h h' st k => by
    obtain ⟨⟨old, he⟩, h1⟩ := st
    exact ⟨⟨old, k _ (by simp) _ he⟩, h1.at fun o e => k _ (by simp) o e⟩
  item := by
    intro X hP hw hK hc i pins s σ H E I hf st hg
    subst hP hw hK
    obtain ⟨⟨old, he⟩, h1⟩ := st
    obtain ⟨xs, x, q1, hx⟩ := hg
    obtain ⟨ix, rx, px⟩ := I.sis q1
    obtain ⟨u, hu, ru⟩ := rx.get hx
    refine pyNext_enumS_item he h1 px (x := u) (by simpa using hu) hne fun h' a1 a2 a3 a4 a5 => ?_
    refine ⟨_, rfl, wpAny_letOwnedTupleGo_enum (s := { s with heap := h', toks := s.toks + 1 }) a1 fun h'' b1 b2 => ?_⟩
    have elt : e < s.heap.objs.size := Heap.lt_size he
    have ilt : it < s.heap.objs.size := by obtain ⟨o, ho, _⟩ := h1.obj; exact Heap.lt_size ho
    have k2 : ∀ c o, c ∉ [e, it] → s.heap.get? c = some o → h''.get? c = some o := fun c o hc ec => by
      simp only [List.mem_cons, List.not_mem_nil, or_false, not_or] at hc
      exact b2.extBut _ _ hc.1 (a5 c o hc.1 hc.2 ec)
    have hT2 : h''.get? s.heap.objs.size = some { cls := .type "tuple", data := .seq #[.int i s.toks, u] } := b2.extBut _ _ (Nat.ne_of_gt elt) a3
    refine ⟨.ref s.heap.objs.size, upd H s.heap.objs.size (.tup [.int i, x]), I.turnedNew (t' := s.toks + 1) (o := .tup [.int i, x]) k2 hf (Nat.le_refl _)
      ⟨by show 2 ≤ sizeLine; decide, [.int i s.toks, u], .cons ⟨_, rfl⟩ (.cons ru .nil), ⟨_, hT2, rfl, _, rfl⟩⟩, rfl,
      ⟨_, I.hok.fresh (Nat.le_refl _), rfl, fun xs' e1 => ?_⟩, ⟨⟨u, by simpa using b1⟩, a2.at fun o eo => b2.extBut _ _ (Ne.symm hne) eo⟩, fun b hb => ?_⟩
    · rw [I.sq_inj e1 q1]
      exact ⟨x, hx, rfl⟩
    · have blt : b < s.heap.objs.size := by
        simp only [List.mem_cons, List.not_mem_nil, or_false] at hb
        rcases hb with rfl | rfl
        · exact elt
        · exact ilt
      rw [upd_ne (Nat.ne_of_lt blt)]
      exact (hf b hb).1
  done := by
    intro X hP hw hK hc i pins s σ H E I hf st hg
    subst hP hw hK
    obtain ⟨⟨old, he⟩, h1⟩ := st
    obtain ⟨xs, q1, hl⟩ := hg
    obtain ⟨ix, rx, px⟩ := I.sis q1
    have l1 := rx.length
    refine pyNext_enumS_end (I.ok.hd hc) he h1 px (by simp; omega) fun h' hk => ⟨rfl, I.turnedL (t' := s.toks) (its := [e, it]) (fun b o hb eb => ?_) hf⟩
    simp only [List.mem_cons, List.not_mem_nil, or_false, not_or] at hb
    exact hk b o hb.2 eb
  self := fun _ _ _ _ _ st h => by
    obtain ⟨⟨old, he⟩, _⟩ := st
    exact wpAny_pyIter_enum he h
section
variable {X : Cx} {elts : List Expr} {kk : Nat} {tpos : Pos}
def iEnum (K : PySem.W.Frag) (k : SK) (ta : TA) : TI := fun σ H R => ta σ H fun vs H1 => ∃ a, vs = [.ref a] ∧ (∃ xs, Sq k K H1 a xs) ∧ R (Itn K k a) H1
theorem pi_enum (k : SK) {a : Expr} {ta : TA} {p pos : Pos} (hg : Gl X "enumerate") (hm : X.mg "enumerate" = none) (ha : PA X [a] ta) (hs : starEach [a] X.env = [(false, eval a X.env)] := by rfl) :
    PI X (.Tuple elts kk tpos) (.Call (.Name "enumerate" p) [a] [] pos) (iEnum X.K k ta) := by
  intro pins s σ H R I h
  refine Call_ (ld_blt I hg hm PyProof.Rows.Boot.«enumerate» (PyProof.Rows.callWith_type1 (thn (ha pos pins s σ H _ I h) fun us s1 ⟨vs, H1, I1, r1, q1⟩ => ?_) hs rfl))
  obtain ⟨a', e, ⟨xs, qx⟩, q⟩ := q1
  subst e
  cases r1 with
  | cons r rr =>
    cases rr
    cases r
    obtain ⟨ix, rx, px⟩ := I1.sis qx
    refine call_enumS px fun h' b1 b2 b3 => wpAny_pyIter_enum (s := { s1 with heap := h' }) b1 ?_
    have nn : ∀ b, s1.heap.objs.size ≤ b → FpOk X pins H1 b := fun b hb => I1.fpOk hb (I1.hok.fresh hb)
    refine ⟨_, [s1.heap.objs.size + 1, s1.heap.objs.size], _, _, H1, rfl, I1.kept (t' := s1.toks) b3, turn_enum (k := k) (Nat.ne_of_gt (Nat.lt_succ_self _)), ⟨⟨_, b1⟩, b2⟩, fun b hb => ?_, q⟩
    simp only [List.mem_cons, List.not_mem_nil, or_false] at hb
    rcases hb with rfl | rfl
    · exact nn _ (Nat.le_succ _)
    · exact nn _ (Nat.le_refl _)
end
theorem loop_enum {K : PySem.W.Frag} {k : SK} {a : Addr} {xs : List V} {g : TG} {tb : TS} {D : Ends} {σ : St} {H : Hp} (Pv : Nat → St → Hp → Prop) (h0 : Pv 0 σ H)
    (hl : ∀ i σ H, i ≤ xs.length → Pv i σ H → Sq k K H a xs)
    (hs : ∀ i x σ H T, xs[i]? = some x → Pv i σ H → H T = none → g (.ref T) σ (upd H T (.tup [.int i, x])) fun σ2 H2 => tb { D with nx := Pv (i + 1), ct := Pv (i + 1), bk := D.nx } σ2 H2)
    (hd : ∀ σ H, Pv xs.length σ H → D.nx σ H) : Loop (Itn K k a) g tb D σ H := by
  refine ⟨fun i m σ H => m = xs.length - i ∧ i ≤ xs.length ∧ Pv i σ H, ⟨xs.length, by simp, Nat.zero_le _, h0⟩, ?_⟩
  rintro i m σ H ⟨rfl, hi, p⟩
  have q1 := hl i σ H hi p
  by_cases hlt : i < xs.length
  · refine .inr ⟨⟨xs, xs[i], q1, by simp [hlt]⟩, Pv (i + 1), fun σ' H' p' => ⟨xs.length - (i + 1), by omega, rfl, hlt, p'⟩, fun x H' y => ?_⟩
    obtain ⟨T, hT, rfl, y⟩ := y
    obtain ⟨u, e1, rfl⟩ := y xs q1
    exact hs i u σ H T e1 p hT
  · have e : i = xs.length := by omega
    refine .inl ⟨⟨xs, q1, by omega⟩, ?_⟩
    subst e
    exact hd σ H p
theorem comp_zip {K : PySem.W.Frag} {k1 k2 : SK} {a b : Addr} (xs zs : List V) {g : TG} {tt : TT} {te : TE} {Q : List V → Hp → Prop} {σ : St} {H : Hp} (Pv : Nat → List V → St → Hp → Prop) (hn : xs.length < sizeLine) (hz : xs.length = zs.length) (h0 : Pv 0 [] σ H) (hl : ∀ i ys σ H, i ≤ xs.length → Pv i ys σ H → ys.length ≤ i ∧ Sq k1 K H a xs ∧ Sq k2 K H b zs)
    (turn : ∀ i ys σ H x z T, xs[i]? = some x → zs[i]? = some z → Pv i ys σ H → H T = none → g (.ref T) σ (upd H T (.tup [x, z])) fun σ2 H2 => tt σ2 H2 fun b H3 => if b = true then te σ2 H3 fun y H4 => Pv (i + 1) (ys ++ [y]) σ2 H4 else Pv (i + 1) ys σ2 H3)
    (after : ∀ ys σ H, Pv xs.length ys σ H → Q ys H) : Comp (Itz K k1 k2 a b) g tt te Q σ H :=
  comp_by xs.length Pv h0 (fun i ys σ H hi p => Nat.lt_of_le_of_lt (Nat.le_trans (hl i ys σ H hi p).1 hi) hn)
    (fun i ys σ H hi p => ⟨xs, zs, xs[i], zs[i]'(hz ▸ hi), (hl i ys σ H (Nat.le_of_lt hi) p).2.1, (hl i ys σ H (Nat.le_of_lt hi) p).2.2, List.getElem?_eq_getElem hi, List.getElem?_eq_getElem (hz ▸ hi)⟩)
    (fun ys σ H p => ⟨xs, zs, (hl _ ys σ H (Nat.le_refl _) p).2.1, (hl _ ys σ H (Nat.le_refl _) p).2.2, .inl (Nat.le_refl _)⟩) (fun i ys σ H hi p x H' y => by
      obtain ⟨T, hT, rfl, y⟩ := y
      obtain ⟨u, v, e1, e2, rfl⟩ := y xs zs (hl i ys σ _ (Nat.le_of_lt hi) p).2.1 (hl i ys σ _ (Nat.le_of_lt hi) p).2.2
      exact turn i ys σ _ u v T e1 e2 p hT) after
end L2

namespace L2
open PySem PySem.Spec PyProof.Rows
section
variable {prog : Program} {w : World} {A : Around} {E : Value → Shared → Prop} {s : Shared}
end
section
variable {prog : Program} {w : World} {K : Type} [DecidableEq K] {knd : KeyKind prog w K} {A : Around} {R : Result → Shared → Prop}
end
section
variable {prog : Program} {w : World} {K : Type} [DecidableEq K] {knd : KeyKind prog w K} {A : Around} {E : Value → Shared → Prop} {s : Shared}
end
end L2

namespace L2
open PySem PySem.Spec PyProof.Rows
abbrev IsZipK (h : Heap) (z TI TO : Addr) (T : Addr) (f1 : Bool) : Prop :=
  h.get? z = some { cls := .type "zip", dict := none, data := .fields #[rawInt T, .bool f1, .bool false, .ref TI, .ref TO], slots := #[] }
section
variable {prog : Program} {w : World} {A : Around} {E : Value → Shared → Prop} {s : Shared}
end
def PairsAt (h : Heap) (us : List Value) (xs ys : List Value) : Prop := us.length ≤ xs.length ∧ us.length ≤ ys.length ∧ ∀ (j : Nat) (u : Value), us[j]? = some u → ∃ (t : Addr) (x y : Value), u = .ref t ∧ xs[j]? = some x ∧ ys[j]? = some y ∧ IsPair h t x y
section
variable {prog : Program} {w : World} {A : Around} {R : Result → Shared → Prop}
end
section
variable {prog : Program} {w : World} {A : Around} {E : Value → Shared → Prop} {s : Shared}
end
end L2

namespace L2
open PySem PySem.Spec PyProof.Rows
section
variable {X : Cx} {pins : List (Addr × Obj)} {σ : List (Option V)} {H H' : Hp} {s : Shared} {h' : Heap}
end
theorem ObjOk.has {P : Program} {w : World} {H : Hp} {h : Heap} {a : Addr} : ∀ {o : HO}, ObjOk P w H h a o → ∃ ob, h.get? a = some ob
  | .lst _, ⟨_, _, _, _, e⟩ => ⟨_, e⟩
  | .tup _, ⟨_, _, _, o, e, _⟩ => ⟨o, e⟩
  | .dK _, ⟨_, _, _, _, o, _, _, e, _⟩ => ⟨o, e⟩
  | .dT _, ⟨_, _, _, _, o, _, _, e, _⟩ => ⟨o, e⟩
  | .set _ _, ⟨o, _, _, _, e, _⟩ => ⟨o, e⟩
  | .ins _ _ _, ⟨_, _, _, e, _⟩ => ⟨_, e⟩
  | .own _, x => x
  | .xd _, ⟨_, ⟨o, _, _, e, _⟩, _⟩ => ⟨o, e⟩
  | .rng _ _, ⟨_, _, _, e⟩ => ⟨_, e⟩
  | .frz _ _, ⟨e, _⟩ => ⟨_, e⟩
  | .tbl _, e => ⟨_, e⟩
  | .met _ _, e => ⟨_, e⟩
  | .ext _, ⟨_, e, _⟩ => e
theorem HOk.has {P : Program} {w : World} {H : Hp} {h : Heap} {a : Addr} {o : HO} (x : HOk P w H h) (e : H a = some o) : ∃ ob, h.get? a = some ob := (x a o e).has
section
variable {X : Cx}
def tLZ (K : PySem.W.Frag) (k1 k2 : SK) (ta : TA) : TE := fun σ H Q => ta σ H fun vs H1 => ∃ a b xs ys, vs = [.ref a, .ref b] ∧ Sq k1 K H1 a xs ∧ Sq k2 K H1 b ys ∧ xs.length = ys.length ∧ xs.length ≤ sizeLine ∧
  ∀ (p : Addr) (ts : List Addr) (H' : Hp), Ch [] H1 H' → H1 p = none → H' p = some (.lst (ts.map V.ref)) → ts.length = xs.length →
    (∀ (i : Nat) (t : Addr) (x y : V), ts[i]? = some t → xs[i]? = some x → ys[i]? = some y → H' t = some (.tup [x, y])) → Q (.ref p) H'
def adr : Value → Addr
  | .ref a => a
  | _ => 0
theorem bools_truth {prog : Program} {w : World} {A : Around} {bs : List Bool} : TruthOf prog w A (fun i v => (bs.map fun b => Value.bool b).toArray[i]? = some v) (fun i => bs.getD i false) := by
  intro i v s Q E hP hQ
  have hP' : (bs.map fun b => Value.bool b)[i]? = some v := by simpa using hP
  rw [List.getElem?_map] at hP'
  cases e : bs[i]? with
  | none => rw [e] at hP'; cases hP'
  | some b =>
    rw [e] at hP'
    cases hP'
    have : bs.getD i false = b := by rw [List.getD_eq_getElem?_getD, e]; rfl
    have hQ : Q (bs.getD i false) s := hQ
    rw [this] at hQ
    exact wpAny_pure hQ
theorem range_all (bs : List Bool) : ((List.range bs.length).all fun i => bs.getD i false) = bs.all id := by
  rw [Bool.eq_iff_iff, List.all_eq_true, List.all_eq_true]
  constructor
  · intro h b hb
    obtain ⟨i, hi, rfl⟩ := List.mem_iff_getElem.mp hb
    have := h i (List.mem_range.mpr hi)
    rw [List.getD_eq_getElem?_getD, List.getElem?_eq_getElem hi] at this
    exact this
  · intro h i hi
    have hi := List.mem_range.mp hi
    rw [List.getD_eq_getElem?_getD, List.getElem?_eq_getElem hi]
    exact h _ (List.getElem_mem hi)
theorem vals_bools : ∀ {bs : List Bool} {its : List Value}, Vals (bs.map V.bl) its → its = bs.map fun b => Value.bool b
  | [], _, .nil => rfl
  | b :: bs, _, .cons r t => by rw [List.map_cons, vals_bools t]; cases r; rfl
theorem call_all (hc : X.calm = true) : CallR X (.builtin "all") (fun xs H Q => ∃ (p : Addr) (bs : List Bool), xs = [.ref p] ∧ H p = some (.lst (bs.map V.bl)) ∧ Q (.bl (bs.all id)) H) := by
  intro pins s σ H xs us Q I r h
  obtain ⟨p, bs, rfl, hp, q⟩ := h
  obtain ⟨u, rfl, ru⟩ := vals1 r
  cases ru
  obtain ⟨z, its, n, rv, e⟩ := I.hok p _ hp
  have ei := vals_bools rv
  subst ei
  have hl : s.heap.IsList p (bs.map fun b => Value.bool b).toArray := ⟨_, e, rfl, n, rfl⟩
  refine call_all_walk (wpAny_pyIter_list hl ?_)
  have hne : p ≠ s.heap.objs.size := Nat.ne_of_lt (Heap.lt_size e)
  refine ⟨s.heap.objs.size, _, _, _, _, _, _, rfl, Walks.list (by first | exact I.ok.hd hc | (show X.A.in1.handled = none; exact I.ok.hd hc)) s.heap.objs.size p hne (bs.map fun b => Value.bool b).toArray,
    ⟨⟨_, Heap.get?_push_size _ rfl, rfl, rfl⟩, ⟨_, Heap.get?_push_of_some _ e, rfl, n, rfl⟩⟩, bools_truth, fun h' tk hk => ?_⟩
  have sz : (bs.map fun b => Value.bool b).toArray.size = bs.length := by simp
  rw [sz, range_all]
  exact ⟨.bl (bs.all id), H, I.kept (t' := tk) fun b o eb => hk b o (by simp; exact Nat.ne_of_lt (Heap.lt_size eb)) (Heap.get?_push_of_some _ eb), rfl, q⟩
end
end L2

namespace L2
open PySem PySem.Spec PyProof.Rows
section
variable {X : Cx} {pins : List (Addr × Obj)} {σ : St} {H : Hp} {s : Shared} {A : Around} {E : Value → Shared → Prop} {Q : Value → Shared → Prop} {b : Bool}
theorem isinsts_ok {x : V} {u t : Value} {tp : Addr} {its : List Value} {o : Obj} {n : Nat} (I : Inv X pins σ H s) (rx : RelV x u) (ty : TyOf X.K H x t) (ho : s.heap.get? tp = some o) (hoc : o.cls = .type "tuple") (hod : o.data = .seq its.toArray n)
    (e : PySem.W.kitAny X.K t its = some b) (h : ∀ tk, Q (.bool b) { s with toks := tk }) :
    wpAny (model X.prog X.w) A (call (.builtin "isinstance") [u, .ref tp]) Q E s := by
  obtain ⟨c0, d0, t0, l0⟩ := o
  replace hoc : c0 = .type "tuple" := hoc
  replace hod : t0 = .seq its.toArray n := hod
  subst hoc hod
  cases ty with
  | non => cases (show u = Value.none from rx); exact PySem.W.kia_tup PySem.W.kitx_none I.kIn True.intro ho e (fun z => nomatch z) h
  | bl y => cases (show u = Value.bool y from rx); exact PySem.W.kia_tup PySem.W.kitx_bool I.kIn True.intro ho e (fun z => nomatch z) h
  | int i => obtain ⟨t, q⟩ := (show ∃ t, u = Value.int i t from rx); cases q; exact PySem.W.kia_tup PySem.W.kitx_int I.kIn True.intro ho e (fun z => nomatch z) h
  | str y => obtain ⟨t, q⟩ := (show ∃ t, u = Value.str y t from rx); cases q; exact PySem.W.kia_tup PySem.W.kitx_str I.kIn True.intro ho e (fun z => nomatch z) h
  | flt y => obtain ⟨t, q⟩ := (show ∃ t, u = Value.float y t from rx); cases q; exact PySem.W.kia_tup PySem.W.kitx_float I.kIn True.intro ho e (fun z => nomatch z) h
  | @lst a xs ea =>
    cases (show u = Value.ref a from rx)
    obtain ⟨_, _, n, _, h1⟩ := (show ObjOk X.prog X.w H s.heap a (.lst xs) from I.hok a _ ea)
    exact PySem.W.kia_tup PySem.W.kitx_list I.kIn ⟨_, h1, rfl⟩ ho e (fun z => nomatch z) h
  | @frz a ob xs ea =>
    cases (show u = Value.ref a from rx)
    obtain ⟨_, _, _, n, _, h1⟩ := (show ObjOk X.prog X.w H s.heap a (.frz ob (.lst xs)) from I.hok a _ ea)
    exact PySem.W.kia_tup PySem.W.kitx_list I.kIn ⟨_, h1, rfl⟩ ho e (fun z => nomatch z) h
  | @tup a xs ea =>
    cases (show u = Value.ref a from rx)
    obtain ⟨_, _, _, p⟩ := (show ObjOk X.prog X.w H s.heap a (.tup xs) from I.hok a _ ea)
    obtain ⟨o, h1, h2, _⟩ := p
    exact PySem.W.kia_tup PySem.W.kitx_tuple I.kIn ⟨o, h1, h2⟩ ho e (fun z => nomatch z) h
  | @dK a kvs ea =>
    cases (show u = Value.ref a from rx)
    obtain ⟨_, _, vs, _, p⟩ := (show ObjOk X.prog X.w H s.heap a (.dK kvs) from I.hok a _ ea)
    obtain ⟨o, es, ep, h1, h2, _⟩ := p
    exact PySem.W.kia_tup PySem.W.kitx_dict I.kIn ⟨o, h1, h2.1⟩ ho e (fun z => nomatch z) h
  | @dT a kvs ea =>
    cases (show u = Value.ref a from rx)
    obtain ⟨_, _, xs, _, o, es, ep, h1, h2, _⟩ := (show ObjOk X.prog X.w H s.heap a (.dT kvs) from I.hok a _ ea)
    exact PySem.W.kia_tup PySem.W.kitx_dict I.kIn ⟨o, h1, h2.1⟩ ho e (fun z => nomatch z) h
  | @ins a C dx fs ea cl ha hn htk hm =>
    cases (show u = Value.ref a from rx)
    obtain ⟨mA, O, _⟩ := ins_get I.hok ea
    obtain ⟨od, J, _⟩ := O.look
    exact PySem.W.kia_tup (PySem.W.kitx_own (cl.get _) cl.hd ha hn htk hm) I.kIn J ho e (fun z => nomatch z) h
end
def rIsTs (K : PySem.W.Frag) : List V → Hp → VK → Prop := fun xs H Q => ∃ (x : V) (p : Addr) (Ts : List String) (t : Value) (b : Bool), xs = [x, .ref p] ∧ H p = some (.tup (Ts.map V.ty)) ∧ TyOf K H x t ∧ PySem.W.kitAny K t (Ts.map Value.type) = some b ∧ Q (.bl b) H
theorem vals_tys : ∀ {Ts : List String} {us : List Value}, Vals (Ts.map V.ty) us → us = Ts.map Value.type
  | [], _, .nil => rfl
  | T :: Ts, _, .cons r t => by rw [List.map_cons, vals_tys t]; cases r; rfl
theorem call_isTs {X : Cx} : CallR X (.builtin "isinstance") (rIsTs X.K) := by
  intro pins s σ H xs us Q I r h
  obtain ⟨x, p, Ts, t, b, rfl, hp, ty, e, q⟩ := h
  obtain ⟨u, v, rfl, ru, rv⟩ := vals2 r
  cases rv
  obtain ⟨_, its, rt, o, ho, hoc, n, hod⟩ := I.hok p _ hp
  have := vals_tys rt
  subst this
  exact isinsts_ok I ru ty ho hoc hod e fun tk => ⟨.bl b, H, I.tok _, rfl, q⟩
example (K : PySem.W.Frag) : PySem.W.kitAny K (.type "list") [.type "list", .type "tuple"] = some true := rfl
example (K : PySem.W.Frag) : PySem.W.kitAny K (.type "tuple") [.type "list", .type "tuple"] = some true := rfl
example (K : PySem.W.Frag) : PySem.W.kitAny K (.type "int") [.type "list", .type "tuple"] = some false := rfl
end L2

namespace L2
open PySem PySem.Spec PyProof.Rows
structure MethOk (P : Program) (w : World) (K : PySem.W.Frag) (mg : Str → Option Value) (base : Heap) (CX : CXT) (k : Nat) (C : Addr) (m : Str) (ps : List Str) (sp : Sp) : Prop where
  cl : Cls K C
  ex : ∃ (f : Addr) (fd : FuncData), FnOk P w K mg base CX k f fd ps sp ∧ Binds K fd ps [] ∧ Meth K C m f
structure MakeOk (P : Program) (w : World) (K : PySem.W.Frag) (mg : Str → Option Value) (base : Heap) (CX : CXT) (k : Nat) (C : Addr) (x : Str) (ps : List Str) (sp : Sp) : Prop where
  ex : ∃ (f : Addr) (fd : FuncData), FnOk P w K mg base CX k f fd ps sp ∧ Binds K fd ps [] ∧ Mk K C f ∧ mg x = some (.ref C)
theorem MakeOk.mono {P : Program} {w : World} {K : PySem.W.Frag} {mg : Str → Option Value} {base : Heap} {CX : CXT} {j k : Nat} {C : Addr} {x : Str} {ps : List Str} {sp : Sp} (D : MakeOk P w K mg base CX j C x ps sp) (h : j ≤ k) : MakeOk P w K mg base CX k C x ps sp := by
  obtain ⟨f, fd, F, b⟩ := D.ex
  exact ⟨f, fd, F.mono h, b⟩
section
variable {X : Cx} {CX : CXT} {k : Nat} {C : Addr} {ps : List Str} {sp : Sp} {E : XK} {x m : Str} {p pos apos : Pos} {e o : Expr} {es : List Expr} {ta : TE} {t : TA}
theorem qpe_makeD (D : MakeOk X.prog X.w X.K X.mg X.base CX k C x ps sp) (hr : Room (k + 1) X.A) (hg : Gl X x) (hx : Passes CX X E)
    (ha : Pr (PA X (e :: es) t)) (hdb : (x == ("__debug__" : Str)) = false := by decide) (he : starEach (e :: es) X.env = (false, eval e X.env) :: starEach es X.env := by rfl) (hpl : (backTo pos (starEach es X.env)).any (·.1) = false := by rfl) :
    Pr (PE X (.Call (.Name x p) (e :: es) [] pos) (tMake C sp [] E t)) := by
  obtain ⟨f, fd, F, b, M, hm⟩ := D.ex
  exact ⟨pe_make M F hr hg hm b .nil hx ha.h hdb he hpl⟩
end
section
variable {X : Cx} {sc : Scope} {own : List Str} {fr : List Nat} {N' : List Str} {tg elt iter : Expr} {ifs : List Expr} {g : TG} {tt : TT} {te : TE} {wi : TI} {pos : Pos}
theorem qpif_nil : Pr (PIf X [] tYes) := ⟨pif_nil⟩
theorem qpif_one {c : Expr} {t : TT} (h : Pr (PT X c t)) : Pr (PIf X [c] t) := ⟨pif_one h.h⟩
theorem qpe_comp (hc : X.calm = true) (cs : CompOk sc X.env.scope own X.N fr N') (hi : Pr (PI X tg iter wi)) (hg : ∀ cl C s H fp, Pr (PG (cxC X sc cl N' C s H fp) tg g)) (hif : ∀ cl C s H fp, Pr (PIf (cxC X sc cl N' C s H fp) ifs tt))
    (he : ∀ cl C s H fp, Pr (PE (cxC X sc cl N' C s H fp) elt te)) (hs : ∀ x, foldedSetIterable iter X.env x = pure x := by intro _; rfl) : Pr (PE X (.ListComp elt [⟨tg, iter, ifs, 0⟩] sc pos) (tComp own.length fr wi g tt te)) :=
  ⟨pe_comp hc cs hi.h (fun a b c d e => (hg a b c d e).h) (fun a b c d e => (hif a b c d e).h) (fun a b c d e => (he a b c d e).h) hs⟩
theorem qps_setC {i : Nat} {y : Str} {py spos : Pos} (hN : X.N.Nodup) (hy : X.N[i]? = some y) (hx : Loc X.env.scope y) (hc : X.calm = true) (cs : CompOk sc X.env.scope own X.N fr N') (hi : Pr (PI X tg iter wi))
    (hg : ∀ cl C s H fp, Pr (PG (cxC X sc cl N' C s H fp) tg g)) (hif : ∀ cl C s H fp, Pr (PIf (cxC X sc cl N' C s H fp) ifs tt)) (he : ∀ cl C s H fp, Pr (PE (cxC X sc cl N' C s H fp) elt te))
    (hsw : swapsWith (.ListComp elt [⟨tg, iter, ifs, 0⟩] sc pos) (some (.Name y py)) spos.line X.env = pure true) (hfn : X.fn y = true ∨ X.env.scope.names.lookup y = some .local := by first | exact .inl rfl | exact .inr rfl | assumption) (hs : ∀ x, foldedSetIterable iter X.env x = pure x := by intro _; rfl) :
    Pr (PS X (.Assign [.Name y py] (.ListComp elt [⟨tg, iter, ifs, 0⟩] sc pos) spos) (tSetC i own.length fr wi g tt te)) :=
  ⟨ps_setC hN hy hx hc cs hi.h (fun a b c d e => (hg a b c d e).h) (fun a b c d e => (hif a b c d e).h) (fun a b c d e => (he a b c d e).h) hsw hfn hs⟩
theorem qpi_enum (k : SK) {elts : List Expr} {kk : Nat} {tpos : Pos} {a : Expr} {ta : TA} {p pos : Pos} (hg : Gl X "enumerate") (hm : X.mg "enumerate" = none) (ha : Pr (PA X [a] ta)) (hs : starEach [a] X.env = [(false, eval a X.env)] := by rfl) :
    Pr (PI X (.Tuple elts kk tpos) (.Call (.Name "enumerate" p) [a] [] pos) (iEnum X.K k ta)) := ⟨pi_enum k hg hm ha.h hs⟩
theorem qpps_nil : Pr (PPs X pos [] [] []) := ⟨pps_nil⟩
theorem qpps_cons {k v : Expr} {ks : List (Option Expr)} {vs : List Expr} {tk tv : TE} {trs : List (TE × TE)} (hk : Pr (PE X k tk)) (hv : Pr (PE X v tv)) (hr : Pr (PPs X pos ks vs trs)) : Pr (PPs X pos (some k :: ks) (v :: vs) ((tk, tv) :: trs)) := ⟨pps_cons hk.h hv.h hr.h⟩
theorem qpe_disp {keys : List (Option Expr)} {values : List Expr} {trs : List (TE × TE)} (h : Pr (PPs X pos keys values trs)) (hall : keys.all (·.isSome) = true) (hl : keys.length = values.length) (h0 : keys ≠ [])
    (h15 : keys.length ≤ 15) : Pr (PE X (.Dict keys values pos) (tDisp trs)) := ⟨pe_disp h.h hall hl h0 h15⟩
theorem compOk {sc outer : Scope} {own N : List Str} {fr : List Nat} {N' : List Str} (h1 : sc.kind = .function) (h2 : ∀ y ∈ sc.names, y.2 ≠ .cell) (h3 : ∀ y ∈ sc.names, y.2 = .local → sc.names.lookup y.1 = some .local)
    (h4 : ∀ y ∈ sc.names, y.2 = .free → outer.names.lookup y.1 = some .cell ∨ outer.names.lookup y.1 = some .free) (h5 : N'.Nodup) (h6 : N'.map some = own.map some ++ fr.map fun j => N[j]?)
    (h7 : ∀ x ∈ fr.filterMap (fun j => N[j]?), sc.names.lookup x = some .free ∧ (outer.names.lookup x = some .cell ∨ outer.names.lookup x = some .free)) : CompOk sc outer own N fr N' :=
  ⟨h1, h2, h3, h4, h5, h6, fun j hj x hx => h7 x (List.mem_filterMap.mpr ⟨j, hj, hx⟩)⟩
end
def rIsT2 (K : PySem.W.Frag) : List V → Hp → VK → Prop := fun xs H Q => ∃ (x : V) (p : Addr) (T1 T2 : String) (t : Value) (b : Bool), xs = [x, .ref p] ∧ H p = some (.tup [.ty T1, .ty T2]) ∧ TyOf K H x t ∧ PySem.W.kitAny K t [.type T1, .type T2] = some b ∧ Q (.bl b) H
theorem call_isT2 {X : Cx} : CallR X (.builtin "isinstance") (rIsT2 X.K) := fun pins s σ H xs us Q I r h => by
  obtain ⟨x, p, T1, T2, t, b, e, hp, ty, k, q⟩ := h
  exact call_isTs pins s σ H xs us Q I r ⟨x, p, [T1, T2], t, b, e, hp, ty, k, q⟩
theorem iteNn {c : Prop} [Decidable c] {A B : Prop} (hc : c) (h : B) : if (!decide c) = true then A else B := by rw [if_neg (by simp [hc])]; exact h
def Tu (H H' : Hp) : Prop := ∀ b xs, H b = some (.tup xs) → H' b = some (.tup xs)
theorem Tu.refl (H : Hp) : Tu H H := fun _ _ h => h
theorem Tu.trans {H H1 H2 : Hp} (a : Tu H H1) (b : Tu H1 H2) : Tu H H2 := fun c xs h => b c xs (a c xs h)
theorem Tu.same {H H' : Hp} (c : Ch [] H H') : Tu H H' := fun b xs h => c b _ h (by simp)
theorem Tu.ch {H H' : Hp} {b : Addr} {o : HO} (c : Ch [b] H H') (hb : H b = some o) (ho : ∀ xs, o ≠ .tup xs) : Tu H H' := fun d xs h => c d _ h (by
  intro z
  have e : d = b := by simpa using z
  subst e
  rw [hb] at h
  exact ho xs (Option.some.inj h))
theorem Tu.lst {H H' : Hp} {b : Addr} {ys : List V} (c : Ch [b] H H') (hb : H b = some (.lst ys)) : Tu H H' := Tu.ch c hb (fun xs z => by cases z)
theorem Tu.new {H : Hp} {p : Addr} (o : HO) (h : H p = none) : Tu H (upd H p o) := Tu.same (Ch.new h o)
end L2

namespace L2
open PySem PySem.Spec PyProof.Rows
section
variable {X : Cx} {a b o e value : Expr} {es : List Expr} {f : Str} {ta tb te : TE} {pos : Pos} {tg l : Expr}
theorem ixaK_list (K : PySem.W.Frag) (hK : X.K = K) : IxR X (aIxL K) := hK ▸ ixa_list
theorem ixaK_tup (K : PySem.W.Frag) (hK : X.K = K) : IxR X (aIxT K) := hK ▸ ixa_tup
theorem opK_in_seq (K : PySem.W.Frag) (hK : X.K = K) : OpR X (compareOp .In) (rIn K false) := hK ▸ op_in_seq
theorem qpi_listK (K : PySem.W.Frag) (hK : X.K = K) {tl : TE} (hl : Pr (PE X l tl)) : Pr (PI X tg l (iList K tl)) := hK ▸ ⟨pi_list hl.h⟩
theorem qpi_tupK (K : PySem.W.Frag) (hK : X.K = K) {tl : TE} (hl : Pr (PE X l tl)) : Pr (PI X tg l (iTup K tl)) := hK ▸ ⟨pi_tup hl.h⟩
theorem qpg_tupK (K : PySem.W.Frag) (n : Nat) (hK : X.K = K) {k : Nat} {t : TGs} (hc : X.calm = true) (h : Pr (PGs X es t)) (hn : (assignEach es X.env).length = n := by rfl) (hst : (assignEach es X.env).findIdx? (·.1) = none := by rfl) :
    Pr (PG X (.Tuple es k pos) (gTup K n t)) := hK ▸ ⟨pg_tup hc h.h hn hst⟩
end
end L2

namespace L2
open PySem PySem.Spec PyProof.Rows
theorem dict_mapF (f : Array Value → Array Value) (o : Obj) : (o.mapFields f).dict = o.dict := by
  obtain ⟨_, _, d, _⟩ := o
  cases d <;> rfl
structure Fl (h : Heap) (e C T : Addr) (fl : Value) : Prop where
  ob : ∃ oe vs, h.get? e = some oe ∧ (oe.cls = .ref C ∧ oe.dict = none) ∧ oe.data = .fields vs ∧ vs[1]? = some (.ref T) ∧ vs[2]? = some .none
  tb : ∃ oT ts, h.get? T = some oT ∧ oT.data = .fields ts ∧ ts[3]? = some fl
  ne : T ≠ e
def KB (ex fs : List Addr) (h h' : Heap) : Prop := ∀ b o, h.get? b = some o → b ∉ ex → (b ∉ fs → h'.get? b = some o) ∧ ∃ sl, h'.get? b = some { o with slots := sl }
theorem KB.trans {ex ex' fs : List Addr} {h h1 h2 : Heap} (a : KB ex fs h h1) (b : KB ex' fs h1 h2) : KB (ex ++ ex') fs h h2 := fun c o e n => by
  simp only [List.mem_append, not_or] at n
  obtain ⟨k1, sl, k2⟩ := a c o e n.1
  refine ⟨fun hf => (b c o (k1 hf) n.2).1 hf, ?_⟩
  obtain ⟨_, sl', k3⟩ := b c _ k2 n.2
  exact ⟨sl', k3⟩
section
variable {M : Model} {A : Around} {E : Value → Shared → Prop} {s : Shared} {base : Heap} {env : Env} {outer : List Env} {L e C T : Addr} {Q : Unit → Shared → Prop}
theorem st_entry {oe : Obj} {vs : Array Value} {head : Value} {hn : Bool} (hfr : A.frames = some (env :: outer)) (hl : s.heap.FunFrames base (env :: outer)) (hf : env.frame = some L)
    (ge : s.heap.get? e = some oe) (gc : oe.cls = .ref C ∧ oe.dict = none) (gd : oe.data = .fields vs) (g1 : 1 < vs.size) (g2 : vs[2]? = some .none)
    (k : ∀ h' T, KB [e] (frs (env :: outer)) s.heap h' → Fl h' e C T (rawInt L) → s.heap.get? T = none → Q () { s with heap := h' }) :
    wpAny M A (do
      let fo ← frameOf env
      let pl ← entryPlaceOf L hn
      let en ← EntryCells.newEntry head fo .none (rawInt L) .none pl
      setField (.ref e) 1 en) Q E s := by
  have nf : e ∉ frs (env :: outer) := fun z => by
    obtain ⟨_, o, ho, no⟩ := hl.mem z
    rw [ge] at ho
    cases ho
    exact no vs gd
  refine wpAny_bind (wpAny_frameOf_fun hfr hl hf fun ha so => ?_)
  refine wpAny_bind (wpAny_entryPlaceOf fun pl ip => ?_)
  unfold EntryCells.newEntry newFields
  refine wpAny_bind (wpAny_newObj_type ?_ (ip.sizeOk5 _ _ _ _ _))
  have ea : ha.get? e = some oe := by rw [so.2.1 e nf]; exact ge
  have neT : ha.objs.size ≠ e := Nat.ne_of_gt (Heap.lt_size ea)
  refine wpAny_setField (Heap.get?_push_of_some _ ea) gd g1 (k _ ha.objs.size (fun b o hb hbe => ?_) ⟨⟨_, _, Heap.get?_update_self _ (Heap.get?_push_of_some _ ea) (Obj.isFreed_of_fields (Obj.data_mapFields gd _)), ?_, Obj.data_mapFields gd _, ?_, ?_⟩, ?_, neT⟩ ?_)
  · have n1 : e ≠ b := fun z => hbe (by simp [z])
    obtain ⟨sl, q⟩ := so.2.2 b o hb
    refine ⟨fun nb => ?_, sl, ?_⟩
    · rw [Heap.get?_update_other _ _ n1]
      refine Heap.get?_push_of_some _ ?_
      rw [so.2.1 b nb]
      exact hb
    · rw [Heap.get?_update_other _ _ n1]
      exact Heap.get?_push_of_some _ q
  · rw [Obj.cls_mapFields, dict_mapF]; exact gc
  · simp [g1]
  · rw [Array.getElem?_setIfInBounds_ne (by decide)]; exact g2
  · have q := (Heap.get?_update_other (ha.push { cls := .type "traceback", dict := none, data := .fields ([head, .ref L, .none, rawInt L, .none] ++ (if pl.isEmpty then List.replicate 6 Value.none else pl)).toArray }) (Obj.mapFields (·.setIfInBounds 1 (Value.ref ha.objs.size))) (Ne.symm neT)).trans (Heap.get?_push_size ha rfl)
    refine ⟨_, _, q, rfl, ?_⟩
    rcases ip with rfl | ⟨_, _, _, _, _, _, _, rfl⟩ <;> simp
  · exact Heap.get?_none_of_le (by rw [so.1]; exact Nat.le_refl _)
theorem st_land {fl : Value} (f : Fl s.heap e C T fl) (k : ∀ h', KB [T] [] s.heap h' → Fl h' e C T .none → Q () { s with heap := h' }) : wpAny M A (setFlight (.ref e) none) Q E s := by
  obtain ⟨⟨oe, vs, a1, a2, a3, a4, a5⟩, ⟨oT, ts, b1, b2, b3⟩, nT⟩ := f
  have sz : 3 < ts.size := (Array.getElem?_eq_some_iff.mp b3).1
  unfold setFlight
  refine wpAny_bind (wpAny_field a1 a3 a4 ?_)
  rw [if_pos (by simp : (Value.ref T != Value.none) = true)]
  refine wpAny_setField b1 b2 sz (k _ (fun b o hb nb => ?_) ⟨⟨oe, vs, ?_, a2, a3, a4, a5⟩, ⟨_, _, Heap.get?_update_self _ b1 (Obj.isFreed_of_fields (Obj.data_mapFields b2 _)), Obj.data_mapFields b2 _, ?_⟩, nT⟩)
  · have n1 : T ≠ b := fun z => nb (by simp [z])
    rw [Heap.get?_update_other _ _ n1]
    exact ⟨fun _ => hb, o.slots, hb⟩
  · rw [Heap.get?_update_other _ _ nT]
    exact a1
  · simp [sz]
theorem st_note1 {oe : Obj} {vs : Array Value} (hfr : A.frames = some (env :: outer)) (hl : s.heap.FunFrames base (env :: outer)) (hf : env.frame = some L)
    (ge : s.heap.get? e = some oe) (gc : oe.cls = .ref C ∧ oe.dict = none) (gd : oe.data = .fields vs) (g1 : vs[1]? = some .none) (g2 : vs[2]? = some .none)
    (k : ∀ h' T, KB [e] (frs (env :: outer)) s.heap h' → Fl h' e C T (rawInt L) → s.heap.get? T = none → Q () { s with heap := h' }) : wpAny M A (noteFrame (.ref e) env) Q E s := by
  unfold noteFrame
  simp only [hf]
  refine wpAny_bind (wpAny_field ge gd g1 ?_)
  rw [if_neg (by decide)]
  exact st_entry hfr hl hf ge gc gd (Array.getElem?_eq_some_iff.mp g1).1 g2 k
theorem st_note {T0 : Addr} (hfr : A.frames = some (env :: outer)) (hl : s.heap.FunFrames base (env :: outer)) (hf : env.frame = some L) (f : Fl s.heap e C T0 .none)
    (k : ∀ h' T, KB [T0, e] (frs (env :: outer)) s.heap h' → Fl h' e C T (rawInt L) → s.heap.get? T = none → Q () { s with heap := h' }) : wpAny M A (noteFrame (.ref e) env) Q E s := by
  obtain ⟨⟨oe, vs, a1, a2, a3, a4, a5⟩, ⟨oT, ts, b1, b2, b3⟩, nT⟩ := f
  unfold noteFrame
  simp only [hf]
  refine wpAny_bind (wpAny_field a1 a3 a4 ?_)
  rw [if_pos (by simp : (Value.ref T0 != Value.none) = true)]
  refine wpAny_bind (wpAny_field b1 b2 b3 ?_)
  rw [if_neg (by simp [rawInt] : ¬ ((Value.none == rawInt L) = true))]
  refine wpAny_bind (wpAny_setField b1 b2 (Array.getElem?_eq_some_iff.mp b3).1 ?_)
  have nfT : ∀ b o, s.heap.get? b = some o → (∀ ws, o.data ≠ .fields ws) → T0 ≠ b := fun b o hb hn z => by
    rw [← z, b1] at hb
    cases hb
    exact hn ts b2
  have same : ∀ b, T0 ≠ b → (s.heap.update T0 (Obj.mapFields (·.setIfInBounds 3 Value.none))).get? b = s.heap.get? b := fun b n => Heap.get?_update_other _ _ n
  have kb : KB [T0] (frs (env :: outer)) s.heap (s.heap.update T0 (Obj.mapFields (·.setIfInBounds 3 Value.none))) := fun b o hb nb => by
    have n1 : T0 ≠ b := fun z => nb (by simp [z])
    rw [same b n1]
    exact ⟨fun _ => hb, o.slots, hb⟩
  refine st_entry hfr (hl.of_keeps fun b o hb hn => ⟨o, by rw [same b (nfT b o hb hn)]; exact hb, rfl⟩) hf (by rw [same e nT]; exact a1) a2 a3 (Array.getElem?_eq_some_iff.mp a4).1 a5 fun h' T kb' f' n' => k h' T (kb.trans kb') f' ?_
  cases q : s.heap.get? T with
  | none => rfl
  | some o =>
    by_cases z : T0 = T
    · have := Heap.get?_update_self (Obj.mapFields (·.setIfInBounds 3 Value.none)) b1 (Obj.isFreed_of_fields (Obj.data_mapFields b2 _))
      rw [z] at this
      rw [← z] at n'
      rw [z] at n'
      rw [this] at n'
      cases n'
    · rw [same T z] at n'
      rw [n'] at q
      cases q
end
end L2

namespace L2
open PySem PySem.Spec PyProof.Rows
def CXE (P : Program) (w : World) : CXT := fun outer H s E e s' => ∃ (ea C T : Addr) (H' : Hp), e = .ref ea ∧ s'.os = s.os ∧ AllBare s'.gens ∧ Un (frs outer) [] H H' s.heap s'.heap ∧ HOk P w H' s'.heap ∧ Fl s'.heap ea C T .none ∧
  s.heap.get? ea = none ∧ s.heap.get? T = none ∧ H' ea = none ∧ H' T = none ∧ E (.ref C) none H'
theorem KB.fs {ex fs : List Addr} {h h' : Heap} (a : KB ex [] h h') : KB ex fs h h' := fun b o e n => ⟨fun _ => (a b o e n).1 (by simp), (a b o e n).2⟩
theorem Un.fly {fs ex xs gs : List Addr} {H H1 : Hp} {h h1 h2 : Heap} (u : Un fs ex H H1 h h1) (kb : KB xs gs h1 h2) (hx : ∀ b ∈ xs, h.get? b = none) (hg : ∀ b ∈ gs, (∃ o, h.get? b = some o) → b ∈ fs) : Un fs ex H H1 h h2 where
  keep := fun b o e n hf hx' => (kb b o (u.keep b o e n hf hx') fun z => by rw [hx b z] at e; cases e).1 fun z => hf (hg b z ⟨o, e⟩)
  slot := fun b o e n hf hx' => by
    obtain ⟨sl, q⟩ := u.slot b o e n hf hx'
    obtain ⟨_, sl', q'⟩ := kb b _ q fun z => by rw [hx b z] at e; cases e
    exact ⟨sl', q'⟩
  free := u.free
  there := fun b o e hx' => by
    obtain ⟨o', q⟩ := u.there b o e hx'
    obtain ⟨_, sl', q'⟩ := kb b _ q fun z => by rw [hx b z] at e; cases e
    exact ⟨_, q'⟩
  tups := u.tups
  frzs := u.frzs
  tbls := u.tbls
theorem HOk.fly {P : Program} {w : World} {H : Hp} {h h' : Heap} {xs gs : List Addr} (x : HOk P w H h) (kb : KB xs gs h h') (hx : ∀ b ∈ xs, H b = none) (hg : ∀ b ∈ gs, H b = none) : HOk P w H h' := fun a o e =>
  (x a o e).stay (fun b u hb q => by
    have t : H b ≠ none := by
      rcases hb with rfl | hb
      · rw [e]; intro z; cases z
      · rw [hb]; intro z; cases z
    exact (kb b u q fun z => t (hx b z)).1 fun z => t (hg b z)) (fun _ q => q) fun _ _ q => q
section
variable {X : Cx} {pins : List (Addr × Obj)} {σ : St} {H H' : Hp} {s s' : Shared}
theorem Inv.fly {h' : Heap} {ex : List Addr} (I : Inv X pins σ H s) (kb : KB ex (frs X.stack) s.heap h')
    (hx : ∀ b ∈ ex, X.s₀.heap.get? b = none ∧ H b = none ∧ b ≠ X.env.locals ∧ (∀ x c, X.env.cells.lookup x = some c → c ≠ b) ∧ ∀ p ∈ X.pn ++ pins, p.1 ≠ b) : Inv X pins σ H { s with heap := h' } := by
  have cellK : ∀ x c v, X.env.cells.lookup x = some c → s.heap.IsCell c v → h'.IsCell c v := fun x c v e ⟨o, ho, hd⟩ => by
    obtain ⟨_, sl, q⟩ := kb c o ho fun z => (hx c z).2.2.2.1 x c e rfl
    exact ⟨_, q, hd⟩
  refine ⟨I.ok, I.os, I.bare, I.base.fly kb (fun b z => (hx b z).1) (fun b z ⟨o, e⟩ => ?_), ?_, fun x c e => ?_, I.free, I.freeC, fun p hp => ?_, I.hok.fly kb (fun b z => (hx b z).2.1) I.stkFree, I.len⟩
  · rcases List.mem_cons.mp (I.stkSub b z) with y | y
    · rw [y] at e
      exact absurd (Heap.lt_size e) (Nat.not_lt.mpr I.ok.above)
    · exact y
  · obtain ⟨m, ⟨o, es, ep, ho, r⟩, l⟩ := I.loc
    obtain ⟨_, sl, q⟩ := kb _ o ho fun z => (hx _ z).2.2.1 rfl
    refine ⟨m, ⟨_, es, ep, q, r⟩, fun i x v h1 h2 h3 => ?_⟩
    obtain ⟨u, ru, lk⟩ := l i x v h1 h2 h3
    refine ⟨u, ru, ?_⟩
    rcases lk with a | ⟨a, c, b1, b2⟩
    · exact .inl a
    · exact .inr ⟨a, c, b1, cellK x c _ b1 b2⟩
  · obtain ⟨v, q⟩ := I.cell x c e
    exact ⟨v, cellK x c v e q⟩
  · obtain ⟨a, b, c, d, e⟩ := I.pin p hp
    exact ⟨(kb _ _ a fun z => (hx _ z).2.2.2.2 p hp rfl).1 fun z => (List.mem_cons.mp (I.stkSub _ z)).elim c d, b, c, d, e⟩
theorem Inv.alien (I : Inv X pins σ H s) {b : Addr} (n : s.heap.get? b = none) : b ≠ X.env.locals ∧ (∀ x c, X.env.cells.lookup x = some c → c ≠ b) ∧ ∀ p ∈ X.pn ++ pins, p.1 ≠ b := by
  refine ⟨fun z => ?_, fun x c e z => ?_, fun p hp z => ?_⟩
  · obtain ⟨m, ⟨o, es, ep, ho, r⟩, l⟩ := I.loc
    rw [← z, n] at ho
    cases ho
  · obtain ⟨v, o, ho, _⟩ := I.cell x c e
    rw [z, n] at ho
    cases ho
  · have := (I.pin p hp).1
    rw [z, n] at this
    cases this
theorem Inv.alien0 (I : Inv X pins σ H s) (hex : X.ex = []) {b : Addr} (n : s.heap.get? b = none) : X.s₀.heap.get? b = none := by
  cases q : X.s₀.heap.get? b with
  | none => rfl
  | some o =>
    obtain ⟨o', z⟩ := I.base.there b o q (by rw [hex]; simp)
    rw [n] at z
    cases z
theorem HOk.alien {P : Program} {w : World} {H : Hp} {h : Heap} {b : Addr} (x : HOk P w H h) (n : h.get? b = none) : H b = none := by
  cases q : H b with
  | none => rfl
  | some o =>
    obtain ⟨o', z⟩ := x.has q
    rw [n] at z
    cases z
end
section
variable {P : Program} {w : World} {K : PySem.W.Frag} {mg : Str → Option Value} {base : Heap} {N : List Str} {qual : Str} {scope : Scope} {f : Addr} {cd : Value} {A : Around} {outer : List Env} {s₀ : Shared} {H₀ : Hp} {E : XK}
abbrev cxE (P : Program) (w : World) (K : PySem.W.Frag) (mg : Str → Option Value) (base : Heap) (N : List Str) (qual : Str) (scope : Scope) (f : Addr) (cd : Value) (A : Around) (outer : List Env) (s₀ : Shared) (H₀ : Hp) (E : XK) : Cx :=
  cxOf (CXE P w) P w K mg base N qual scope f cd A outer s₀ H₀ E
theorem stk_un {X : Cx} {pins : List (Addr × Obj)} {σ : St} {H : Hp} {s : Shared} (I : Inv X pins σ H s) : ∀ b ∈ frs X.stack, (∃ o, X.s₀.heap.get? b = some o) → b ∈ X.fs := fun b z ⟨o, e⟩ => by
  rcases List.mem_cons.mp (I.stkSub b z) with y | y
  · rw [y] at e
    exact absurd (Heap.lt_size e) (Nat.not_lt.mpr I.ok.above)
  · exact y
theorem xe_made {pins : List (Addr × Obj)} {σ : St} {H : Hp} {s : Shared} {h1 : Heap} {e C : Addr} {vs : List Value} (I : Inv (cxE P w K mg base N qual scope f cd A outer s₀ H₀ E) pins σ H s) (m : Heap.MadeExcOf s.heap h1 e (.ref C) vs) (q : E (.ref C) none H) :
    (cxE P w K mg base N qual scope f cd A outer s₀ H₀ E).xe (.ref e) { s with heap := h1 } := by
  have I1 : Inv (cxE P w K mg base N qual scope f cd A outer s₀ H₀ E) pins σ H { s with heap := h1 } := I.kept (t' := s.toks) m.keeps
  obtain ⟨t, ge, _, _⟩ := m.there
  show wpAny (model P w) _ (leaving _ (.ref e)) _ _ _
  unfold leaving
  refine wpAny_bind (st_note1 I1.ok.frames I1.stack rfl ge ⟨rfl, rfl⟩ rfl rfl rfl fun h2 T kb fl nT => st_land fl fun h3 kb3 fl3 => ?_)
  have k3 : KB [e, T] (frs (envOfC qual scope s₀.heap.objs.size f cd :: outer)) h1 h3 := kb.trans kb3.fs
  have n0 : ∀ b ∈ [e, T], s₀.heap.get? b = none := fun b hb => by
    simp only [List.mem_cons, List.not_mem_nil, or_false] at hb
    rcases hb with rfl | rfl
    · exact I.alien0 rfl m.new
    · exact I1.alien0 rfl nT
  have nH : ∀ b ∈ [e, T], H b = none := fun b hb => by
    simp only [List.mem_cons, List.not_mem_nil, or_false] at hb
    rcases hb with rfl | rfl
    · exact I.hok.alien m.new
    · exact I1.hok.alien nT
  exact ⟨e, C, T, H, rfl, I.os, I.bare, I1.base.fly k3 n0 (stk_un I1), I1.hok.fly k3 nH I1.stkFree, fl3, n0 e (by simp), n0 T (by simp), nH e (by simp), nH T (by simp), q⟩
theorem passE : Passes (CXE P w) (cxE P w K mg base N qual scope f cd A outer s₀ H₀ E) E := by
  rintro pins σ H s e s' I ⟨ea, C, T, H', rfl, os, bare, un, hok, fl, n1, n2, t1, t2, q⟩
  have J : Inv (cxE P w K mg base N qual scope f cd A outer s₀ H₀ E) pins σ H' s' := I.call' (ch := []) os un hok bare (fun b z => absurd z (by simp))
  show wpAny (model P w) _ (leaving _ (.ref ea)) _ _ _
  unfold leaving
  refine wpAny_bind (st_note J.ok.frames J.stack rfl fl fun h2 T1 kb fl2 nT => st_land fl2 fun h3 kb3 fl3 => ?_)
  have k3 : KB [T, ea, T1] (frs (envOfC qual scope s₀.heap.objs.size f cd :: outer)) s'.heap h3 := kb.trans kb3.fs
  have n0 : ∀ b ∈ [T, ea, T1], s₀.heap.get? b = none := fun b hb => by
    simp only [List.mem_cons, List.not_mem_nil, or_false] at hb
    rcases hb with rfl | rfl | rfl
    · exact I.alien0 rfl n2
    · exact I.alien0 rfl n1
    · exact J.alien0 rfl nT
  have nH : ∀ b ∈ [T, ea, T1], H' b = none := fun b hb => by
    simp only [List.mem_cons, List.not_mem_nil, or_false] at hb
    rcases hb with rfl | rfl | rfl
    · exact t2
    · exact t1
    · exact J.hok.alien nT
  exact ⟨ea, C, T1, H', rfl, J.os, J.bare, J.base.fly k3 n0 (stk_un J), J.hok.fly k3 nH J.stkFree, fl3, n0 ea (by simp), n0 T1 (by simp), nH ea (by simp), nH T1 (by simp), q⟩
end
end L2

namespace L2
open PySem PySem.Spec PyProof.Rows
abbrev bmV : List Value := [.type "ValueError", .type "Exception", .type "BaseException", .type "object"]
def XC (K : PySem.W.Frag) (C : Addr) : Prop := PySem.W.excIn K C bmV "ValueError.__new__" = true
theorem XC.obj {K : PySem.W.Frag} {h : Heap} {C : Addr} (q : XC K C) (X : K.In h) : ∃ bm N nm qn bs hdct sn sub ab col dd k0 k1 k2 k3 k5 mN,
    h.get? C = some (excClassObj nm qn C N bs bm hdct sn sub ab col dd k0 k1 k2 k3 k5 "ValueError.__new__") ∧ h.Ns N mN ∧ mN "__init__" = none ∧ OwnTail h bmV bm := by
  have q : PySem.W.excIn K C bmV "ValueError.__new__" = true := q
  unfold PySem.W.excIn at q
  split at q
  case h_2 => cases q
  case h_1 dd cd sl ho =>
    split at q
    case h_2 => cases q
    case h_1 C' bm k0 k1 k2 k3 n k5 hm hs =>
      simp only [Bool.and_eq_true, beq_iff_eq, Bool.not_eq_true'] at q
      obtain ⟨⟨⟨⟨⟨rfl, rfl⟩, dl⟩, ht⟩, ok⟩, ni⟩ := q
      obtain ⟨nm, bs, mro, ns, qn, hd, sn, sub, ab, col, del⟩ := cd
      dsimp only at hm dl ok ni
      subst hm dl
      obtain ⟨l⟩ := sl
      simp only at hs
      subst hs
      exact ⟨bm, ns, nm, qn, bs, hd, sn, sub, ab, col, dd, k0, k1, k2, k3, k5, _, X _ _ ho, .of_isNs (PySem.W.isNs_of_in X ok), PySem.W.nsMap_none_of_in X ok ni, PySem.W.tail_of_in X ht⟩
def tRaise (C : Addr) (E : XK) (t : TA) : TS := fun _ σ H => t σ H fun vs H1 => vs.length ≤ sizeLine ∧ E (.ref C) none H1
section
variable {P : Program} {w : World} {K : PySem.W.Frag} {mg : Str → Option Value} {base : Heap} {N : List Str} {qual : Str} {scope : Scope} {f : Addr} {cd : Value} {A : Around} {outer : List Env} {s₀ : Shared} {H₀ : Hp} {E : XK}
theorem ps_raiseE {x : Str} {C : Addr} {np cpos pos : Pos} {e₀ : Expr} {rest : List Expr} {ta : TA} (hg : Gl (cxE P w K mg base N qual scope f cd A outer s₀ H₀ E) x) (hm : mg x = some (.ref C)) (xc : XC K C)
    (ha : PA (cxE P w K mg base N qual scope f cd A outer s₀ H₀ E) (e₀ :: rest) ta) (hdb : (x == ("__debug__" : Str)) = false := by decide)
    (he : starEach (e₀ :: rest) (cxE P w K mg base N qual scope f cd A outer s₀ H₀ E).env = (false, eval e₀ (cxE P w K mg base N qual scope f cd A outer s₀ H₀ E).env) :: starEach rest (cxE P w K mg base N qual scope f cd A outer s₀ H₀ E).env := by rfl)
    (hpl : (backTo cpos (starEach rest (cxE P w K mg base N qual scope f cd A outer s₀ H₀ E).env)).any (·.1) = false := by rfl) :
    PS (cxE P w K mg base N qual scope f cd A outer s₀ H₀ E) (.Raise (some (.Call (.Name x np) (e₀ :: rest) [] cpos)) none pos) (tRaise C E ta) := by
  intro pins s σ H D I h
  obtain ⟨bm, Nc, nm, qn, bs, hdct, sn, sub, ab, col, dd, k0, k1, k2, k3, k5, mN, hC, hN, hni, T⟩ := xc.obj I.mod.kin
  refine wpAny_Raise_call_subT (C := C) (nm := nm) (q := qn) (N := Nc) (bs := bs) (bm := bm) (hdct := hdct) (sn := sn) (sub := sub) (ab := ab) (col := col) (dd := dd) (k0 := k0) (k1 := k1) (k2 := k2) (k3 := k3) (k5 := k5) PySem.F.excBase_ValueError (mN := mN)
    (T.hasType PySem.F.excBase_ValueError.hasBase) (I.ok.hd rfl) ?_ hni (ld_glob I hg hm ⟨rfl, ?_⟩ hdb)
  · rw [he]
    show (false || (backTo cpos (starEach rest (cxE P w K mg base N qual scope f cd A outer s₀ H₀ E).env)).any (·.1)) = false
    rw [hpl]
    rfl
  · have ha' := ha cpos pins s σ H _ I h
    rw [he] at ha' ⊢
    refine Calls.evalArgs_plain (wpAny_mono ha' (fun us s2 ⟨vs, H1, I1, r, z, q⟩ => ?_) fun _ _ y => y)
    exact ⟨rfl, by rw [← r.length]; exact z, I1.bk _ _ hC, hN.keeps I1.bk, T.keeps I1.bk, fun h' e m => xe_made I1 m q⟩
theorem qps_raiseE {x : Str} {C : Addr} {np cpos pos : Pos} {e₀ : Expr} {rest : List Expr} {ta : TA} (hg : Gl (cxE P w K mg base N qual scope f cd A outer s₀ H₀ E) x) (hm : mg x = some (.ref C)) (xc : XC K C)
    (ha : Pr (PA (cxE P w K mg base N qual scope f cd A outer s₀ H₀ E) (e₀ :: rest) ta)) (hdb : (x == ("__debug__" : Str)) = false := by decide)
    (he : starEach (e₀ :: rest) (cxE P w K mg base N qual scope f cd A outer s₀ H₀ E).env = (false, eval e₀ (cxE P w K mg base N qual scope f cd A outer s₀ H₀ E).env) :: starEach rest (cxE P w K mg base N qual scope f cd A outer s₀ H₀ E).env := by rfl)
    (hpl : (backTo cpos (starEach rest (cxE P w K mg base N qual scope f cd A outer s₀ H₀ E).env)).any (·.1) = false := by rfl) :
    Pr (PS (cxE P w K mg base N qual scope f cd A outer s₀ H₀ E) (.Raise (some (.Call (.Name x np) (e₀ :: rest) [] cpos)) none pos) (tRaise C E ta)) := ⟨ps_raiseE hg hm xc ha.h hdb he hpl⟩
theorem powE : PassesOwn (model P w) (cxE P w K mg base N qual scope f cd A outer s₀ H₀ E).A (cxE P w K mg base N qual scope f cd A outer s₀ H₀ E).env (cxE P w K mg base N qual scope f cd A outer s₀ H₀ E).xe := PassesOwn.leaving
end
section
variable {P : Program} {w : World} {K : PySem.W.Frag} {mg : Str → Option Value} {base : Heap}
theorem Fun.okE {x qual : Str} {st : Stmt} {f : Addr} {fd : FuncData} {N ps : List Str} {k : Nat} {sp : Sp} (F : Fun K x qual st f fd) (S : FnScope N ps (defScope st)) (len : ∀ vs H Q E, sp vs H Q E → vs.length = ps.length)
    (hbody : ∀ (cdv : Value) (A : Around) (outer : List Env) (s : Shared) (H : Hp) (vs : List V) (Q : VK) (E : XK), Room k (A.deeper (envOfC qual (defScope st) s.heap.objs.size f cdv)) → sp vs H Q E →
      ∃ t, PSs (cxE P w K mg base N qual (defScope st) f cdv A outer s H E) (defBody st) t ∧ t { nx := fun _ H' => Q .non H', rt := Q } (start N vs) H) : FnOk P w K mg base (CXE P w) (k + 1) f fd ps sp := by
  obtain ⟨oc, od, kV, doc, pm, an, cdv, ct, osl, rfl, lk, hcd⟩ := F.ex
  exact fn_of lk hcd S len fun A outer s H vs Q E hr hsp => hbody cdv A outer s H vs Q E hr hsp
theorem FnOk.calm {k : Nat} {f : Addr} {fd : FuncData} {ps : List Str} {sp sp' : Sp} (F : FnOk P w K mg base (CXE P w) k f fd ps sp) (h : ∀ vs H Q E, sp' vs H Q E → sp vs H Q E0) : FnOk P w K mg base CX0 k f fd ps sp' :=
  ⟨fun vs H Q E q => F.len vs H Q E0 (h _ _ _ _ q), fun A outer s H args us vs Q E hr he hb hv hs => codeAny_mono (F.run A outer s H args us vs Q E0 hr he hb hv (h _ _ _ _ hs)) fun r s' hq => by
    cases r with
    | ok fl => cases fl <;> exact hq
    | error e =>
      obtain ⟨ea, C, T, H', _, _, _, _, _, _, _, _, _, _, z⟩ := (show CXE P w outer H s E0 e s' from hq)
      exact z.elim⟩
end
end L2

namespace L2
open PySem PySem.Spec PyProof.Rows
def Cx.hand (X : Cx) (v : Value) : Cx := { X with A := X.A.mark (some v), calm := false }
section
variable {X : Cx} {pins : List (Addr × Obj)} {σ : St} {H H' : Hp} {s s' : Shared} {v : Value}
theorem Inv.hand (I : Inv X pins σ H s) (v : Value) : Inv (X.hand v) pins σ H s :=
  ⟨⟨I.ok.mod, I.ok.kind, I.ok.glob, I.ok.blt, I.ok.above, I.ok.inj, I.ok.has, I.ok.cab, (fun z => by cases z), I.ok.frames, I.ok.stk, I.ok.exf, I.ok.bs, I.ok.bsz, I.ok.noex, I.ok.exfs, I.ok.funs, I.ok.frf⟩, I.os, I.bare, I.base, I.loc, I.cell, I.free, I.freeC, I.pin, I.hok, I.len⟩
theorem Inv.unhand (J : X.Ok) (I : Inv (X.hand v) pins σ H s) : Inv X pins σ H s := ⟨J, I.os, I.bare, I.base, I.loc, I.cell, I.free, I.freeC, I.pin, I.hok, I.len⟩
theorem Inv.track {a : Addr} {o : HO} (I : Inv X pins σ H s) (hn : H a = none) (n0 : X.s₀.heap.get? a = none) (nl : a ≠ X.env.locals) (nc : ∀ x c, X.env.cells.lookup x = some c → c ≠ a) (np : ∀ p ∈ X.pn ++ pins, p.1 ≠ a)
    (new : ObjOk X.prog X.w (upd H a o) s.heap a o) : Inv X pins σ (upd H a o) s := by
  have ne : ∀ b u, H b = some u → b ≠ a := fun b u e z => by rw [z, hn] at e; cases e
  refine ⟨I.ok, I.os, I.bare, ⟨I.base.keep, I.base.slot, fun b o' e n hx => ?_, I.base.there, fun b xs e => ?_, fun b o' u e => ?_, fun b ps e => ?_⟩, I.loc, I.cell, ?_, fun x c e => ?_, fun p hp => ?_, fun b u e => ?_, I.len⟩
  · rw [upd_ne (fun z => by rw [z, n0] at e; cases e)]
    exact I.base.free b o' e n hx
  · have q := I.base.tups b xs e
    rw [upd_ne (ne b _ q)]
    exact q
  · have q := I.base.frzs b o' u e
    rw [upd_ne (ne b _ q)]
    exact q
  · obtain ⟨more, q⟩ := I.base.tbls b ps e
    exact ⟨more, by rw [upd_ne (ne b _ q)]; exact q⟩
  · rw [upd_ne (Ne.symm nl)]
    exact I.free
  · rw [upd_ne (nc x c e)]
    exact I.freeC x c e
  · obtain ⟨q1, q2, q3⟩ := I.pin p hp
    exact ⟨q1, by rw [upd_ne (np p hp)]; exact q2, q3⟩
  · by_cases hb : b = a
    · subst hb
      rw [upd_same] at e
      cases e
      exact new
    · rw [upd_ne hb] at e
      exact (I.hok b u e).stay (fun _ _ _ q => q) (fun c q => by rw [upd_ne (ne c _ q)]; exact q) fun c xs q => by rw [upd_ne (ne c _ q)]; exact q
def exO (a C : Addr) : HO := .ext fun h => ∃ o vs, h.get? a = some o ∧ (o.cls = .ref C ∧ o.dict = none) ∧ o.data = .fields vs ∧ vs[2]? = some .none
theorem exO_ok {P : Program} {w : World} {H : Hp} {h : Heap} {a C T : Addr} {fl : Value} (f : Fl h a C T fl) : ObjOk P w H h a (exO a C) := by
  obtain ⟨oe, vs, h1, h2, h3, _, h5⟩ := f.ob
  exact ⟨⟨oe, vs, h1, h2, h3, h5⟩, ⟨oe, h1⟩, fun g1 g2 ⟨o, ws, q1, q2⟩ k => ⟨o, ws, k o q1, q2⟩⟩
theorem exO_get {P : Program} {w : World} {H : Hp} {h : Heap} {a C : Addr} (ok : HOk P w H h) (e : H a = some (exO a C)) : ∃ o vs, h.get? a = some o ∧ (o.cls = .ref C ∧ o.dict = none) ∧ o.data = .fields vs ∧ vs[2]? = some .none := (ok a _ e).1
theorem goes_ok {M : Model} {A : Around} {E : Value → Shared → Prop} {i : Nat} {x : Str} {pos : Pos} {Q : Unit → Shared → Prop} (I : Inv X pins σ H s) (hN : X.N.Nodup) (hi : X.N[i]? = some x) (hk : X.env.scope.names.lookup x = some .local)
    (h : ∀ s', Inv X pins (σ.set i none) H s' → Q () s') : wpAny M A (do bindName X.env x .none; unbindBehindTheSuite X.env x pos) Q E s := by
  obtain ⟨m, hn, hl⟩ := id I.loc
  have hcls : (X.env.scope.kind == .class || (X.env.scope.kind == .module && X.env.locals != X.env.globals)) = false := by rw [I.ok.kind]; rfl
  refine wpAny_nameGoes_keeps hk hn hcls fun h' v hn' hs => h _ ?_
  have nb : ∀ b, (∃ o, X.s₀.heap.get? b = some o) → b ≠ X.env.locals := fun b ⟨o, e⟩ => Nat.ne_of_lt (Nat.lt_of_lt_of_le (Heap.lt_size e) I.ok.above)
  refine ⟨I.ok, I.os, I.bare, ⟨fun b o e n hb hx => ?_, fun b o e n hb hx => ?_, I.base.free, fun b o e hx => ?_, I.base.tups, I.base.frzs, I.base.tbls⟩, ⟨_, hn', fun j y v' e1 e2 e3 => ?_⟩, fun y c e => ?_, I.free, I.freeC, fun p hp => ?_, fun b ob e => ?_, by rw [List.length_set]; exact I.len⟩
  · exact (hs.2 b (nb b ⟨o, e⟩)).trans (I.base.keep b o e n hb hx)
  · obtain ⟨sl, e1⟩ := I.base.slot b o e n hb hx
    exact ⟨sl, (hs.2 b (nb b ⟨o, e⟩)).trans e1⟩
  · obtain ⟨o', e1⟩ := I.base.there b o e hx
    exact ⟨o', (hs.2 b (nb b ⟨o, e⟩)).trans e1⟩
  · have hj : j ≠ i := fun z => by
      subst z
      rw [List.getElem?_set_self (by rw [I.len]; exact (List.getElem?_eq_some_iff.mp hi).1)] at e2
      cases e2
    rw [List.getElem?_set_ne (Ne.symm hj)] at e2
    obtain ⟨u', r', q⟩ := hl j y v' e1 e2 e3
    refine ⟨u', r', ?_⟩
    rcases q with ⟨k, e⟩ | ⟨k, c, e, z⟩
    · have ny : y ≠ x := fun e => hj (nodup_ix hN e1 (e ▸ hi))
      exact .inl ⟨k, by simp [ny, e]⟩
    · exact .inr ⟨k, c, e, z.sameBut hs (I.cne y c e)⟩
  · obtain ⟨w', z⟩ := I.cell y c e
    exact ⟨w', z.sameBut hs (I.cne y c e)⟩
  · obtain ⟨e, n, ne, nf, d⟩ := I.pin p hp
    exact ⟨(hs.2 p.1 ne).trans e, n, ne, nf, d⟩
  · refine (I.hok b ob e).stay (fun c w' hc q => (hs.2 c fun z => ?_).trans q) (fun _ q => q) fun _ _ q => q
    have f := I.free
    rcases hc with hc | hc
    · rw [← z, hc, e] at f; cases f
    · rw [← z, hc] at f; cases f
end
def XSub (K : PySem.W.Frag) (C CF : Addr) : Prop := (match K.lookup C with
  | some ⟨_, _, .cls cd, _⟩ => cd.mro.contains (.ref CF)
  | _ => false) = true
section
variable {M : Model} {A : Around} {E : Value → Shared → Prop} {s : Shared} {K : PySem.W.Frag} {C CF e : Addr}
theorem excm_own {oe : Obj} {Q : Bool → Shared → Prop} (X : K.In s.heap) (c1 : XC K C) (c2 : XC K CF) (sb : XSub K C CF) (ge : s.heap.get? e = some oe) (gc : oe.cls = .ref C) (k : Q true s) : wpAny M A (excMatches (.ref e) (.ref CF)) Q E s := by
  obtain ⟨bm, N, nm, qn, bs, hdct, sn, sub, ab, col, dd, k0, k1, k2, k3, k5, mN, hC, _, _, T⟩ := c1.obj X
  obtain ⟨bm', N', nm', qn', bs', hdct', sn', sub', ab', col', dd', k0', k1', k2', k3', k5', mN', hF, _, _, T'⟩ := c2.obj X
  have z1 : (Value.ref CF :: bm').contains (.type "BaseException") = true := by rw [List.contains_cons, T'.hasType PySem.F.excBase_ValueError.hasBase, Bool.or_true]
  have z2 : (Value.ref C :: bm).contains (.ref CF) = true := by
    have sb : (match K.lookup C with
      | some ⟨_, _, .cls cd, _⟩ => cd.mro.contains (.ref CF)
      | _ => false) = true := sb
    split at sb
    case h_2 => cases sb
    case h_1 cl di cd sl ho =>
      have q := X _ _ ho
      rw [hC] at q
      cases q
      exact sb
  have ft := tc_notTuple
  obtain ⟨h, g, d, t, os⟩ := s
  unfold excMatches
  repeat (first
    | (with_reducible refine wpAny_loadPart_at ge ?_; rw [gc])
    | with_reducible refine wpAny_loadPart_at hF ?_
    | (with_reducible refine wpAny_isSubtype_exc hF ?_; rw [z1])
    | (with_reducible refine wpAny_isSubtype_exc hC ?_; rw [z2])
    | wp_step)
  exact k
end
end L2

namespace L2
open PySem PySem.Spec PyProof.Rows
abbrev XW := Value → Hp → Prop
abbrev XD := St → Value → Hp → Prop
def XE (X : Cx) (pins : List (Addr × Obj)) (σ : St) (Ew : XW) (e : Value) (s' : Shared) : Prop := ∃ H1 s1, Inv X pins σ H1 s1 ∧ CXE X.prog X.w X.stack H1 s1 (fun c _ H' => Ew c H') e s'
def XPs (X : Cx) (pins : List (Addr × Obj)) (Dx : XD) (e : Value) (s' : Shared) : Prop := ∃ σ1, XE X pins σ1 (Dx σ1) e s'
abbrev TEX := St → Hp → VK → XW → Prop
abbrev TSX := Ends → XD → St → Hp → Prop
def PEX (X : Cx) (e : Expr) (t : TEX) : Prop :=
  ∀ (pins : List (Addr × Obj)) (s : Shared) (σ : St) (H : Hp) (Q : VK) (Ew : XW), Inv X pins σ H s → t σ H Q Ew → wpAny (model X.prog X.w) X.A (eval e X.env) (EP X pins σ Q) (XE X pins σ Ew) s
def PSX (X : Cx) (st : Stmt) (t : TSX) : Prop :=
  ∀ (pins : List (Addr × Obj)) (s : Shared) (σ : St) (H : Hp) (D : Ends) (Dx : XD), Inv X pins σ H s → t D Dx σ H → wpAny (model X.prog X.w) X.A (exec st X.env) (SP X pins D) (XPs X pins Dx) s
def PSXs (X : Cx) (st : List Stmt) (t : TSX) : Prop :=
  ∀ (pins : List (Addr × Obj)) (s : Shared) (σ : St) (H : Hp) (D : Ends) (Dx : XD), Inv X pins σ H s → t D Dx σ H → wpAny (model X.prog X.w) X.A (execs st X.env) (SP X pins D) (XPs X pins Dx) s
def Nox (X : Cx) : Prop := ∀ e s, X.xe e s → False
def tCallX (sp : Sp) (t : TA) : TEX := fun σ H Q Ew => t σ H fun vs H1 => sp vs H1 Q fun c _ H' => Ew c H'
def tMethX (C : Addr) (m : Str) (sp : Sp) (ta : TE) (t : TA) : TEX := fun σ H Q Ew => ta σ H fun x H1 => ∃ a dx fs, x = .ref a ∧ H1 a = some (.ins C dx fs) ∧ fs.lookup m = none ∧ t σ H1 fun vs H2 => sp (x :: vs) H2 Q fun c _ H' => Ew c H'
def tDropX (t : TEX) : TSX := fun D Dx σ H => t σ H (fun _ H1 => D.nx σ H1) (Dx σ)
def tIfX (tc : TT) (a b : TSX) : TSX := fun D Dx σ H => tc σ H fun c H1 => if c = true then a D Dx σ H1 else b D Dx σ H1
section
variable {X : Cx} {k : Nat} {f C : Addr} {fd : FuncData} {ps : List Str} {sp : Sp} {x m : Str} {p pos apos : Pos} {e o : Expr} {es : List Expr} {ta : TE} {t : TA}
theorem psx_expr {te : TEX} (he : PEX X e te) (hs : swapsWith e none pos.line X.env = pure false := by rfl) : PSX X (.Expr e pos) (tDropX te) := by
  intro pins s σ H D Dx I h
  exact wpAny_Expr_any (wpAny_mono (he pins s σ H _ _ I h) (fun v s1 ⟨x, H1, I1, r1, q1⟩ => ⟨σ, H1, I1, q1⟩) fun e s' q => ⟨σ, q⟩) I.quiet hs
theorem psxs_one {st : Stmt} {t : TSX} (h1 : PSX X st t) : PSXs X [st] t := by
  intro pins s σ H D Dx I h
  refine wpAny_execs_cons (thn (h1 pins s σ H D Dx I h) fun f s1 q => ?_)
  cases f with
  | next => exact wpAny_execs_nil q
  | ret v => exact q
  | brk => exact q
  | cont => exact q
end
def tTry (K : PySem.W.Frag) (CF : Addr) (i : Nat) (tb : TSX) (ts : Addr → TS) : TS := fun D σ H => tb D (fun σ1 c H' => ∃ C, c = .ref C ∧ XC K C ∧ XSub K C CF ∧ ∀ ea, H' ea = none →
  ts ea { nx := fun σ2 H2 => D.nx (σ2.set i none) H2, rt := D.rt, bk := fun σ2 H2 => D.bk (σ2.set i none) H2, ct := fun σ2 H2 => D.ct (σ2.set i none) H2 } (σ1.set i (some (.ref ea))) (upd H' ea (exO ea C))) σ H
section
variable {X : Cx}
theorem ps_try {x n : Str} {CF : Addr} {i : Nat} {body suite : List Stmt} {b₀ : Stmt} {tb : TSX} {ts : Addr → TS} {np hpos pos : Pos} (hx : Nox X) (hst : X.stack = X.env :: X.outer) (hfr : X.env.frame = some X.env.locals) (hex : X.ex = []) (hN : X.N.Nodup) (hi : X.N[i]? = some n)
    (hk : X.env.scope.names.lookup n = some .local) (hg : Gl X x) (hm : X.mg x = some (.ref CF)) (xf : XC X.K CF) (hb : PSXs X body tb) (hs : ∀ ea, PSs (X.hand (.ref ea)) (b₀ :: suite) (ts ea)) (hdb : (x == ("__debug__" : Str)) = false := by decide) :
    PS X (.Try body [.ExceptHandler (some (.Name x np)) (some n) (b₀ :: suite) hpos] [] [] pos) (tTry X.K CF i tb ts) := by
  intro pins s σ H D I h
  refine wpAny_Try_except (wpAny_mono (hb pins s σ H D _ I h) (fun f s1 q => ?_) fun e s1 q => ?_)
  · cases f with
    | next => exact wpAny_execs_nil q
    | ret v => exact q
    | brk => exact q
    | cont => exact q
  · obtain ⟨σ1, H1, s2, I2, ea, C, T, H', rfl, os, bare, un, hok, fl, n1, n2, t1, t2, C', ec, xc, sb, q⟩ := q
    obtain rfl : C = C' := by cases ec; rfl
    have J : Inv X pins σ1 H' s1 := I2.call' (ch := []) os un hok bare (fun b z => absurd z (by simp))
    have fr : X.A.frames = some (X.env :: X.outer) := by rw [← hst]; exact J.ok.frames
    have ff : s1.heap.FunFrames X.base (X.env :: X.outer) := by rw [← hst]; exact J.stack
    refine st_note fr ff hfr fl fun h2 T1 kb fl2 nT => st_land fl2 fun h3 kb3 fl3 => ?_
    have k3 : KB [T, ea, T1] (frs X.stack) s1.heap h3 := by rw [hst]; exact kb.trans kb3.fs
    have hA : ∀ b ∈ [T, ea, T1], X.s₀.heap.get? b = none ∧ H' b = none ∧ b ≠ X.env.locals ∧ (∀ x c, X.env.cells.lookup x = some c → c ≠ b) ∧ ∀ p ∈ X.pn ++ pins, p.1 ≠ b := fun b hb => by
      simp only [List.mem_cons, List.not_mem_nil, or_false] at hb
      rcases hb with rfl | rfl | rfl
      · exact ⟨I2.alien0 hex n2, t2, I2.alien n2⟩
      · exact ⟨I2.alien0 hex n1, t1, I2.alien n1⟩
      · exact ⟨J.alien0 hex nT, J.hok.alien nT, J.alien nT⟩
    have J3 : Inv X pins σ1 H' { s1 with heap := h3 } := J.fly k3 hA
    have J3h := J3.hand (.ref ea)
    obtain ⟨oe, vs, g1, ⟨g2, _⟩, _⟩ := fl3.ob
    refine wpAny_handleBy_cons (codeAny_handlers_test (ld_glob (X := X.hand (.ref ea)) J3h hg hm (excm_own J3.kIn xc xf sb g1 g2 ?_) hdb)) (by intro z; cases z)
    refine codeAny_handlers_suite_as ?_
    refine st_land fl3 fun h4 kb4 fl4 => ?_
    have J4 : Inv X pins σ1 H' { s1 with heap := h4 } := J3.fly kb4.fs fun b hb => hA b (by simp only [List.mem_cons, List.not_mem_nil, or_false] at hb ⊢; exact .inr (.inr hb))
    obtain ⟨a0, a1, a2, a3, a4⟩ := hA ea (by simp)
    have J5 := (J4.track (o := exO ea C) a1 a0 a2 a3 a4 (exO_ok fl4)).hand (.ref ea)
    refine store_ok (X := X.hand (.ref ea)) (v := V.ref ea) J5 hN hi (.inl hk) (show RelV (V.ref ea) (Value.ref ea) from rfl) (fun s5 J6 => ?_) (.inr hk)
    refine wpAny_mono (hs ea pins s5 _ _ _ J6 (q ea a1)) (fun f s6 q6 => ?_) fun _ _ z => (hx _ _ z).elim
    cases f with
    | next =>
      obtain ⟨σ7, H7, J7, q7⟩ := q6
      exact goes_ok (J7.unhand J.ok) hN hi hk fun s' J8 => ⟨_, H7, J8, q7⟩
    | brk =>
      obtain ⟨σ7, H7, J7, q7⟩ := q6
      exact goes_ok (J7.unhand J.ok) hN hi hk fun s' J8 => ⟨_, H7, J8, q7⟩
    | cont =>
      obtain ⟨σ7, H7, J7, q7⟩ := q6
      exact goes_ok (J7.unhand J.ok) hN hi hk fun s' J8 => ⟨_, H7, J8, q7⟩
    | ret u =>
      obtain ⟨v, σ7, H7, J7, rv, q7⟩ := q6
      exact goes_ok (J7.unhand J.ok) hN hi hk fun s' J8 => ⟨v, _, H7, J8, rv, q7⟩
end
end L2

namespace L2
open PySem PySem.Spec PyProof.Rows
section
variable {prog : Program} {w : World} {A : Around} {E : Value → Shared → Prop} {s : Shared}
end
def ItrH (ea : Addr) (lo : Int) (n : Nat) : It := ⟨fun i _ => i < n, fun i H x H' => H' = H ∧ x = .int (lo + i), fun i H => n ≤ i ∧ ∃ C, H ea = some (exO ea C)⟩
def PIG (G : Cx → Prop) (X : Cx) (tg iter : Expr) (wi : TI) : Prop :=
  ∀ (pins : List (Addr × Obj)) (s : Shared) (σ : St) (H : Hp) (R : It → Hp → Prop), Inv X pins σ H s → wi σ H R →
    wpAny (model X.prog X.w) X.A (eval iter X.env) (fun v s1 => wpAny (model X.prog X.w) X.A (pyIter v) (fun itv s2 => ∃ (it : Addr) (fp : List Addr) (tn : Nat → Heap → Prop) (J : It) (H' : Hp), itv = .ref it ∧ Inv X pins σ H' s2 ∧ TurnX G X.prog X.w X.K tg J fp it tn ∧ tn 0 s2.heap ∧ (∀ b ∈ fp, FpOk X pins H' b) ∧ R J H') X.xe s1) X.xe s
def iRngH (ea : Addr) (ta : TA) : TI := fun σ H R => ta σ H fun vs H1 => ∃ j : Int, vs = [.int j] ∧ -(2 ^ 62) ≤ j ∧ j < 2 ^ 62 ∧ R (ItrH ea 0 j.toNat) H1
section
variable {X : Cx} {tg : Expr}
end
end L2

namespace L2
open PySem PySem.Spec PyProof.Rows PySem.W
structure XA (K : PySem.W.Frag) (C : Addr) : Prop where
  xc : XC K C
  ga : findIn K (.ref C) "__getattribute__" = some (some (.builtin "BaseException.__getattribute__"))
  gt : findIn K (.ref C) "__getattr__" = some none
  cl : findIn K (.ref C) "__class__" = some (some (.builtin "object.__class__"))
  sg : specialIn K (.builtin "object.__class__") "__get__" = some (some (.builtin "getset_descriptor.__get__"))
  tk : takesIn K (.builtin "object.__class__") = some true
  mo : mroIn K C (.type "object") = some true
  cs : (clsIn K C).isSome = true
theorem findObj_data0 {K : Frag} {C : Addr} {name : Str} {a g : Value} (hc : (clsIn K C).isSome = true) (ha : findIn K (.ref C) name = some (some a)) (hg : specialIn K a "__get__" = some (some g)) (ht : takesIn K a = some true) : findObj K C none name = some (.bind g a) := by
  obtain ⟨cd, hc⟩ := Option.isSome_iff_exists.mp hc
  unfold findObj
  rw [hc, Option.bind_some, ha, Option.bind_some]
  simp [hg, ht]
section
variable {prog : Program} {w : World} {A : Around} {E : Value → Shared → Prop} {s : Shared} {K : Frag} {x C : Addr} {ox : Obj}
theorem exc_class {Q : Option Value → Shared → Prop} (X : K.In s.heap) (xa : XA K C) (I : InstAt s.heap x ox C none) (h : Q (some (.ref C)) { s with toks := s.toks + 1 }) : wpAny (model prog w) A (getAttr? (.ref x) "__class__") Q E s := by
  obtain ⟨bm, N, nm, qn, bs, hdct, sn, sub, ab, col, dd, k0, k1, k2, k3, k5, mN, hC, hN, hni, T⟩ := xa.xc.obj X
  obtain ⟨hh, g, d, t, os⟩ := s
  have L0 := I.type (M := model prog w)
  have L1 := looks_findIn (M := model prog w) X xa.ga
  have L2 := looks_findIn (M := model prog w) X xa.gt
  have L3 := looks_find (M := model prog w) X I (findObj_data0 xa.cs xa.cl xa.sg xa.tk)
  have f3 := PySem.F.attr_ValueError.ga.bind (.ref x)
  unfold getAttr? getAttrBy? getAttrBy
  refine wpAny_bind (wpAny_mkText (wpAny_bind (wpAny_attempt (wpAny_holding (wpAny_bind (L0.at (wpAny_bind (L1.at ?_))))))))
  dsimp only
  have b0 : (Value.builtin "BaseException.__getattribute__" == Value.builtin "object.__getattribute__") = false := by decide +kernel
  rw [if_neg (by rw [b0, Bool.and_false]; exact Bool.false_ne_true)]
  unfold getAttrByItsOwn hookBefore
  rw [if_pos (show onTheHeap (Value.ref C) = true from rfl)]
  refine wpAny_bind (L2.at (wpAny_bind (wpAny_attempt (wpAny_holding ?_))))
  unfold callGetattribute
  rw [if_neg (by decide +kernel)]
  unfold boundAndCalled
  refine wpAny_bind (wpAny_of_eq f3 ?_)
  refine wpAny_call (codeAny_call_builtin PySem.F.attr_ValueError.ga.plain PySem.F.entry_bexc_ga ?_)
  have y1 : builtinKind "BaseException.__getattribute__" = some .slot := by decide +kernel
  have y2 : splitId "BaseException.__getattribute__" = some ("BaseException", "__getattribute__") := by decide +kernel
  have y3 : (Value.ref C :: bm).contains (.type "BaseException") = true := by rw [List.contains_cons, T.hasType PySem.F.excBase_ValueError.hasBase, Bool.or_true]
  have y4 := PySem.F.args_bexc_ga (.ref x) (.str "__class__" t)
  have gx := I.at_
  have gc := I.cls
  simp only [checkBuiltinCall, y1, y2]
  refine wpAny_bind ?_
  unfold isInstance
  repeat (first
    | with_reducible refine wpAny_bind (L3.at ?_)
    | with_reducible refine L3.at ?_
    | (with_reducible refine wpAny_loadPart_at gx ?_; rw [gc])
    | (with_reducible refine wpAny_isSubtype_exc hC ?_; rw [y3])
    | wp_step)
  refine class_get (s := ⟨hh, g, d, t + 1, os⟩) (od := none) X I xa.mo ?_
  unfold ret
  refine wpAny_pure ?_
  exact handed_on rfl (wpAny_pure h)
theorem kitx_exc (xa : XA K C) : KitX K (.ref x) (.ref C) (fun h => ∃ ox, InstAt h x ox C none) where
  ty := fun _ _ _ ⟨_, I⟩ => I.type
  it := fun _ _ X _ => by
    obtain ⟨cd, hcd⟩ := Option.isSome_iff_exists.mp xa.cs
    unfold clsIn at hcd
    split at hcd
    case h_1 c' d' cd' sl' ho =>
      intro A' Q' E' s' k q
      unfold isType loadHead
      exact wpAny_bind (wpAny_loadPart (k _ _ (X _ _ ho)) (wpAny_pure q))
    case h_2 => cases hcd
  ne := fun h tp dd its n sl X htp => by
    obtain ⟨cd, hcd⟩ := Option.isSome_iff_exists.mp xa.cs
    refine Bool.eq_false_iff.mpr fun q => ?_
    have e : C = tp := Value.ref.inj (beq_iff_eq.mp q)
    subst e
    unfold clsIn at hcd
    split at hcd
    case h_1 c' d' cd' sl' ho =>
      have z := (X _ _ ho).symm.trans htp
      cases z
    case h_2 => cases hcd
  ca := fun X ⟨_, I⟩ k => exc_class X xa I k
end
def rIsX (K : Frag) : List V → Hp → VK → Prop := fun xs H Q => ∃ (ea C : Addr) (c : V) (b : Bool), xs = [.ref ea, c] ∧ H ea = some (exO ea C) ∧ XA K C ∧ ((∃ CF, c = .ref CF ∧ kitOne K (.ref C) (.ref CF) = some b) ∨ ∃ T, c = .ty T ∧ kitOne K (.ref C) (.type T) = some b) ∧ Q (.bl b) H
theorem call_isX {X : Cx} : CallR X (.builtin "isinstance") (rIsX X.K) := by
  intro pins s σ H xs us Q I r h
  obtain ⟨ea, C, c, b, rfl, he, xa, hc, q⟩ := h
  obtain ⟨u, v, rfl, ru, rv⟩ := vals2 r
  obtain rfl : u = Value.ref ea := ru
  obtain ⟨o, vs, g1, ⟨g2, g3⟩, g4, _⟩ := exO_get I.hok he
  have J : ∃ ox, InstAt s.heap ea ox C none := ⟨o, g1, g2, by unfold notCls; rw [g4], by rw [g3]; trivial⟩
  rcases hc with ⟨CF, rfl, e⟩ | ⟨T, rfl, e⟩
  · obtain rfl : v = Value.ref CF := rv
    exact kia_one (kitx_exc xa) I.kIn J e (fun z => by cases z) fun tk => ⟨.bl b, H, I.tok _, rfl, q⟩
  · obtain rfl : v = Value.type T := rv
    exact kia_one (kitx_exc xa) I.kIn J e (fun z => by cases z) fun tk => ⟨.bl b, H, I.tok _, rfl, q⟩
end L2

namespace L2
open PySem PySem.Spec PyProof.Rows
structure RoomH (ea : Addr) (k : Nat) (A : Around) : Prop where
  hd : A.handled = some (.ref ea)
  dp : A.depth + 3 * k + 5 < recursionLimit
  un : A.units + 16 * k + 200 < cLine
structure FnOkH (P : Program) (w : World) (K : PySem.W.Frag) (mg : Str → Option Value) (base : Heap) (k : Nat) (f : Addr) (fd : FuncData) (ps : List Str) (sp : Addr → Sp) : Prop where
  len : ∀ ea vs H Q E, sp ea vs H Q E → vs.length = ps.length
  run : ∀ (ea : Addr) (A : Around) (outer : List Env) (s : Shared) (H : Hp) (args : Args) (us : List Value) (vs : List V) (Q : VK), RoomH ea k A → Env0 P w K mg base A outer s H → BindsTo s fd args (ps.zip us) → Vals vs us → sp ea vs H Q E0 →
    codeAny (model P w) A (.call (.ref f) args) (CR CX0 outer P w H s Q E0) s
structure DefOkH (P : Program) (w : World) (K : PySem.W.Frag) (mg : Str → Option Value) (base : Heap) (k : Nat) (x : Str) (ps : List Str) (sp : Addr → Sp) : Prop where
  ex : ∃ (f : Addr) (fd : FuncData), FnOkH P w K mg base k f fd ps sp ∧ Binds K fd ps [] ∧ PySem.W.keepIn K (.ref f) = true ∧ mg x = some (.ref f)
def tCallH (ea : Addr) (sp : Addr → Sp) (t : TA) : TE := fun σ H Q => t σ H fun vs H1 => sp ea vs H1 Q E0
section
variable {X : Cx} {k : Nat} {x : Str} {ps : List Str} {p pos : Pos} {e : Expr} {es : List Expr} {t : TA}
end
def cxH (P : Program) (w : World) (K : PySem.W.Frag) (mg : Str → Option Value) (base : Heap) (N : List Str) (qual : Str) (scope : Scope) (f : Addr) (cd : Value) (A : Around) (outer : List Env) (s : Shared) (H : Hp) : Cx :=
  { cxOf CX0 P w K mg base N qual scope f cd { A with handled := none } outer s H E0 with A := A.deeper (envOfC qual scope s.heap.objs.size f cd), calm := false, xe := fun _ _ => False }
section
variable {X : Cx} {sc : Scope} {own : List Str} {fr : List Nat} {N' : List Str} {tg elt iter : Expr} {ifs : List Expr} {g : TG} {tt : TT} {te : TE} {wi : TI} {pos : Pos} {G : Cx → Prop}
end
section
variable {X : Cx}
theorem qps_try {x n : Str} {CF : Addr} {i : Nat} {body suite : List Stmt} {b₀ : Stmt} {tb : TSX} {ts : Addr → TS} {np hpos pos : Pos} (hx : Nox X) (hst : X.stack = X.env :: X.outer) (hfr : X.env.frame = some X.env.locals) (hex : X.ex = []) (hN : X.N.Nodup) (hi : X.N[i]? = some n)
    (hk : X.env.scope.names.lookup n = some .local) (hg : Gl X x) (hm : X.mg x = some (.ref CF)) (xf : XC X.K CF) (hb : PSXs X body tb) (hs : ∀ ea, Pr (PSs (X.hand (.ref ea)) (b₀ :: suite) (ts ea))) (hdb : (x == ("__debug__" : Str)) = false := by decide) :
    Pr (PS X (.Try body [.ExceptHandler (some (.Name x np)) (some n) (b₀ :: suite) hpos] [] [] pos) (tTry X.K CF i tb ts)) := ⟨ps_try hx hst hfr hex hN hi hk hg hm xf hb (fun ea => (hs ea).h) hdb⟩
end
end L2

namespace L2
open PySem PySem.Spec PyProof.Rows PySem.SeqAt
section
variable {X : Cx}
end
def Itv (K : PySem.W.Frag) (a : Addr) (xs : List V) : It :=
  ⟨fun i H => SqL K H a xs ∧ i < xs.length, fun i H x H' => H' = H ∧ xs.reverse[i]? = some x, fun i H => SqL K H a xs ∧ xs.length ≤ i⟩
section
variable {X : Cx} {tg : Expr}
def iRev (K : PySem.W.Frag) (ta : TA) : TI := fun σ H R => ta σ H fun vs H1 => ∃ a xs, vs = [.ref a] ∧ SqL K H1 a xs ∧ R (Itv K a xs) H1
end
def Eq0 (x y : V) : Prop := x = y ∧ ((∃ i, x = .int i) ∨ ∃ a, x = .ref a)
def Eq1 (H : Hp) (x y : V) : Prop := ∃ (p q : Addr) (zs : List V), x = .ref p ∧ y = .ref q ∧ p ≠ q ∧ H p = some (.lst zs) ∧ H q = some (.lst zs) ∧ ∀ z ∈ zs, Eq0 z z
section
variable {X : Cx}
def rNeL : R2 := fun x y H Q => ∃ (a b : Addr) (xs ys : List V), x = .ref a ∧ y = .ref b ∧ H a = some (.lst xs) ∧ H b = some (.lst ys) ∧ xs.length = ys.length ∧ (∀ (i : Nat) (x y : V), xs[i]? = some x → ys[i]? = some y → Eq1 H x y) ∧ Q (.bl false) H
end
end L2

namespace L2
open PySem PySem.Spec PyProof.Rows PySem.SeqAt
def Sca (x : V) : Prop := (∃ i, x = .int i) ∨ ∃ t, x = .str t
structure ScaL (xs : List V) : Prop where
  h : ∀ z ∈ xs, Sca z
theorem dec_beq {α : Type} [BEq α] [LawfulBEq α] [DecidableEq α] (a b : α) : (a == b) = decide (a = b) := by
  by_cases h : a = b
  · subst h; simp
  · rw [decide_eq_false h]; exact beq_eq_false_iff_ne.mpr h
theorem sca_at {A : Around} {s : Shared} {x y : V} {u v : Value} (hx : Sca x) (hy : Sca y) (ru : RelV x u) (rv : RelV y v) : EqAt A s u v (decide (x = y)) := by
  rcases hx with ⟨i, rfl⟩ | ⟨i, rfl⟩ <;> rcases hy with ⟨j, rfl⟩ | ⟨j, rfl⟩ <;> obtain ⟨t, rfl⟩ := ru <;> obtain ⟨t', rfl⟩ := rv
  · have := EqAt.int_int (A := A) (s := s) i t j t'
    rw [dec_beq] at this
    rwa [show decide (V.int i = V.int j) = decide (i = j) from by by_cases h : i = j <;> simp [h]]
  · rw [show decide (V.int i = V.str j) = false from by simp]
    exact EqAt.int_str i t j t'
  · rw [show decide (V.str i = V.int j) = false from by simp]
    exact EqAt.str_int i t j t'
  · have := EqAt.str_str (A := A) (s := s) i t j t'
    rw [show decide (V.str i = V.str j) = (i == j) from by
      by_cases h : i = j
      · subst h; simp
      · rw [decide_eq_false (fun z => h (V.str.inj z))]; exact (beq_eq_false_iff_ne.mpr h).symm]
    exact this
theorem all_at {xs ys : List V} : ((List.range (min xs.length ys.length)).all (fun j => decide (xs[j]? = ys[j]?)) && xs.length == ys.length) = decide (xs = ys) := by
  by_cases h : xs = ys
  · subst h
    simp
  · rw [decide_eq_false h]
    by_cases hl : xs.length = ys.length
    · rw [Bool.and_eq_false_iff]
      refine .inl ?_
      rw [List.all_eq_false]
      refine Classical.byContradiction fun z => h (List.ext_getElem? fun j => ?_)
      by_cases hj : j < xs.length
      · refine Classical.byContradiction fun y => z ⟨j, List.mem_range.mpr (by omega), by simpa using y⟩
      · rw [List.getElem?_eq_none (by omega), List.getElem?_eq_none (by omega)]
    · rw [Bool.and_eq_false_iff]
      exact .inr (beq_eq_false_iff_ne.mpr hl)
theorem sca_pair {A : Around} {s : Shared} {xs ys : List V} {us vs : List Value} (hx : ScaL xs) (hy : ScaL ys) (ru : Vals xs us) (rv : Vals ys vs) (j : Nat) (h1 : j < us.toArray.size) (h2 : j < vs.toArray.size) :
    EqAt A s us.toArray[j] vs.toArray[j] (decide (xs[j]? = ys[j]?)) := by
  have l1 := ru.length
  have l2 := rv.length
  have h1' : j < us.length := by simpa using h1
  have h2' : j < vs.length := by simpa using h2
  have gx : xs[j]? = some (xs[j]'(by omega)) := List.getElem?_eq_getElem (by omega)
  have gy : ys[j]? = some (ys[j]'(by omega)) := List.getElem?_eq_getElem (by omega)
  obtain ⟨w1, hw1, r1⟩ := ru.get gx
  obtain ⟨w2, hw2, r2⟩ := rv.get gy
  have k1 : us.toArray[j] = w1 := by
    have := List.getElem?_eq_getElem h1'
    rw [hw1] at this
    simpa using (Option.some.inj this).symm
  have k2 : vs.toArray[j] = w2 := by
    have := List.getElem?_eq_getElem h2'
    rw [hw2] at this
    simpa using (Option.some.inj this).symm
  rw [k1, k2, gx, gy]
  have e : decide (some (xs[j]'(by omega)) = some (ys[j]'(by omega))) = decide (xs[j]'(by omega) = ys[j]'(by omega)) := by
    by_cases h : (xs[j]'(by omega)) = (ys[j]'(by omega)) <;> simp [h]
  rw [e]
  exact sca_at (hx.h _ (List.getElem_mem _)) (hy.h _ (List.getElem_mem _)) r1 r2
section
variable {X : Cx}
def rEqT : R2 := fun x y H Q => ∃ (a b : Addr) (xs ys : List V), x = .ref a ∧ y = .ref b ∧ H a = some (.tup xs) ∧ H b = some (.tup ys) ∧ ScaL xs ∧ ScaL ys ∧ Q (.bl (decide (xs = ys))) H
def rNeT : R2 := fun x y H Q => ∃ (a b : Addr) (xs ys : List V), x = .ref a ∧ y = .ref b ∧ H a = some (.tup xs) ∧ H b = some (.tup ys) ∧ ScaL xs ∧ ScaL ys ∧ Q (.bl (!decide (xs = ys))) H
theorem op_eqT (hu : X.A.units + 64 < cLine) : OpR X (compareOp .Eq) rEqT := by
  intro pins s σ H x y v u Q I rx ry h
  obtain ⟨a, b, xs, ys, rfl, rfl, ha, hb, hx, hy, q⟩ := h
  cases rx
  cases ry
  obtain ⟨z, its, rv, t1⟩ := I.hok a _ ha
  obtain ⟨z2, its2, rv2, t2⟩ := I.hok b _ hb
  have key := RcAt.tuples (A := X.A) (s := s) t1 t2 (by omega) (sca_pair hx hy rv rv2)
  have e : ((List.range (min its.toArray.size its2.toArray.size)).all (fun j => decide (xs[j]? = ys[j]?)) && its.toArray.size == its2.toArray.size) = decide (xs = ys) := by
    rw [← all_at, List.size_toArray, List.size_toArray, ← rv.length, ← rv2.length]
  rw [e] at key
  exact key X.prog X.w X.xe _ ⟨.bl _, H, I, rfl, q⟩
def rEqS : R2 := fun x y H Q => ∃ (a b : Addr) (xs ys : List V), x = .ref a ∧ y = .ref b ∧ H a = some (.lst xs) ∧ H b = some (.lst ys) ∧ ScaL xs ∧ ScaL ys ∧ Q (.bl (decide (xs = ys))) H
def rNeS : R2 := fun x y H Q => ∃ (a b : Addr) (xs ys : List V), x = .ref a ∧ y = .ref b ∧ H a = some (.lst xs) ∧ H b = some (.lst ys) ∧ ScaL xs ∧ ScaL ys ∧ Q (.bl (!decide (xs = ys))) H
def rInN : R2 := fun x y H Q => ∃ (b : Addr) (ys : List V), x = .non ∧ y = .ref b ∧ H b = some (.lst ys) ∧ (∀ z ∈ ys, ∃ p, z = .ref p ∧ ((∃ zs, H p = some (.lst zs)) ∨ ∃ zs, H p = some (.tup zs))) ∧ Q (.bl false) H
end
end L2


namespace L2
open PySem PySem.W PyProof.Rows
structure Pm (n : Nat) (p : Array Nat) : Prop where
  perm : p.toList.Perm (List.range n)
section
variable {n : Nat} {L : Nat → Nat → Prop} [DecidableRel L] {cmp : Nat → Nat → (Bool → Shared → Prop) → Shared → Prop} {s : Shared}
def lR (L : Nat → Nat → Prop) (p : Array Nat) (i j : Nat) : Prop := L (p.getD i 0) (p.getD j 0)
instance lR_dec (p : Array Nat) (i j : Nat) : Decidable (lR L p i j) := inferInstanceAs (Decidable (L (p.getD i 0) (p.getD j 0)))
def Up (L : Nat → Nat → Prop) (p : Array Nat) (m : Nat) : Prop := ∀ i j, i < j → j < m → lR L p i j
def Dn (L : Nat → Nat → Prop) (p : Array Nat) (m : Nat) : Prop := ∀ i j, i < j → j < m → lR L p j i
structure Ord (n : Nat) (L : Nat → Nat → Prop) [DecidableRel L] (cmp : Nat → Nat → (Bool → Shared → Prop) → Shared → Prop) (s : Shared) : Prop where
  tr : ∀ {i j k}, L i j → L j k → L i k
  tot : ∀ i j, i < n → j < n → i ≠ j → ¬ L i j → L j i
  ask : ∀ i j C, i < n → j < n → C (decide (L i j)) s → cmp i j C s
end
end L2

namespace L2
open PySem PySem.W PyProof.Rows PySem.Calls
def KeptBut (a : Addr) (h h' : Heap) : Prop := ∀ b o, b ≠ a → h.get? b = some o → h'.get? b = some o
section
variable {prog : Program} {w : World} {A : Around} {E : Value → Shared → Prop} {s : Shared} {a : Addr} {vs : List Value} {κ : SortKind} {L : Nat → Nat → Prop} [DecidableRel L]
end
end L2

namespace L2
open PySem PySem.W PyProof.Rows PySem.SeqAt
def kLt : Key → Key → Prop
  | .inl a, .inl b => a < b
  | .inr x, .inr y => x.cps.toList < y.cps.toList
  | _, _ => False
instance kLt_dec : (a b : Key) → Decidable (kLt a b)
  | .inl a, .inl b => inferInstanceAs (Decidable (a < b))
  | .inr x, .inr y => inferInstanceAs (Decidable (x.cps.toList < y.cps.toList))
  | .inl _, .inr _ => isFalse id
  | .inr _, .inl _ => isFalse id
def kLex : List Key → List Key → Prop
  | k :: ks, k' :: ks' => if k = k' then kLex ks ks' else kLt k k'
  | _, _ => False
instance kLex_dec : (a b : List Key) → Decidable (kLex a b)
  | k :: ks, k' :: ks' => by
    unfold kLex
    by_cases h : k = k'
    · rw [if_pos h]; exact kLex_dec ks ks'
    · rw [if_neg h]; exact kLt_dec k k'
  | [], [] => isFalse id
  | [], _ :: _ => isFalse id
  | _ :: _, [] => isFalse id
section
variable {prog : Program} {w : World} {A : Around} {E : Value → Shared → Prop} {s : Shared}
end
end L2

namespace L2
open PySem PySem.W PyProof.Rows
structure DAt (h : Heap) (d : Addr) (es : Array DictEntry) (ep : Nat) : Prop where
  ex : ∃ o, h.get? d = some o ∧ o.ExactDict ∧ o.data = .dict es ep
def kitO (d : Addr) (i n ep : Nat) : Obj := { cls := .type "dict_keyiterator", data := .fields #[.ref d, .int i 0, .int n 0, .int ep 0] }
section
variable {prog : Program} {w : World} {A : Around} {E : Value → Shared → Prop} {s : Shared} {d it : Addr} {es : Array DictEntry} {ep i : Nat}
end
section
variable {prog : Program} {w : World} {A : Around} {R : Result → Shared → Prop} {d it S : Addr} {es : Array DictEntry} {ep : Nat}
end
end L2

namespace L2
open PySem PySem.W PyProof.Rows
section
variable {prog : Program} {w : World} {A : Around} {E : Value → Shared → Prop} {s : Shared} {d : Addr} {es : Array DictEntry} {ep : Nat}
end
end L2

namespace L2
open PySem PySem.W PyProof.Rows
def TKey (h : Heap) (k : List Key) (v : Value) : Prop := ∃ (p : Addr) (us : List Value), v = .ref p ∧ h.IsTuple p us.toArray ∧ Vals (k.map kV) us
abbrev TKs (h : Heap) : List (List Key) → List Value → Prop := Paired (TKey h)
theorem paired_get {Φ : List Key → Value → Prop} : ∀ {ks : List (List Key)} {vs : List Value} {i : Nat} {k : List Key}, Paired Φ ks vs → ks[i]? = some k → ∃ v, vs[i]? = some v ∧ Φ k v
  | _, _, _, _, .nil, e => by simp at e
  | _, _, 0, _, .cons r _, e => by simp at e; subst e; exact ⟨_, rfl, r⟩
  | _, _, i + 1, _, .cons _ t, e => by
    obtain ⟨v, a, b⟩ := paired_get t (i := i) (by simpa using e)
    exact ⟨v, by simpa using a, b⟩
section
variable {prog : Program} {w : World} {A : Around} {E : Value → Shared → Prop} {s : Shared} {a : Addr} {vs : List Value} {ks : List (List Key)} {g : Heap}
end
end L2

namespace L2
open PySem PySem.W PyProof.Rows PySem.Calls
section
variable {prog : Program} {w : World} {A : Around} {E : Value → Shared → Prop} {s : Shared} {a : Addr} {vs : List Value}
end
section
variable {X : Cx}
def rSrtT : List V → Hp → VK → Prop := fun xs H Q => ∃ (a : Addr) (kvs : List (List Key × V)) (b0 : Bool) (t0 : List Bool), xs = [.ref a] ∧ H a = some (.dT kvs) ∧ kvs.length < 64 ∧ (∀ p ∈ kvs, p.1.map Sum.isLeft = b0 :: t0) ∧
  ∀ (D : Addr) (ks : List (List Key)) (ps : List Addr), H D = none → ks.Perm (kvs.map (·.1)) → ks.Pairwise kLex → Paired (fun k p => H p = some (.tup (k.map kV))) ks ps → Q (.ref D) (upd H D (.lst (ps.map V.ref)))
theorem paired_refs {H : Hp} : ∀ {ks : List (List Key)} {vs : List Value}, Paired (fun k v => ∃ p, v = Value.ref p ∧ H p = some (.tup (k.map kV))) ks vs → ∃ ps : List Addr, vs = ps.map Value.ref ∧ Vals (ps.map V.ref) vs ∧ Paired (fun k p => H p = some (.tup (k.map kV))) ks ps
  | _, _, .nil => ⟨[], rfl, .nil, .nil⟩
  | _, _, .cons ⟨p, e, hp⟩ t => by
    obtain ⟨ps, e1, e2, e3⟩ := paired_refs t
    subst e
    exact ⟨p :: ps, by simp [e1], .cons rfl e2, .cons hp e3⟩
end
end L2

namespace L2
open PySem PySem.W PyProof.Rows
section
variable {prog : Program} {w : World} {K : Type} [DecidableEq K] {knd : HeapKind prog w K} {A : Around} {E : Value → Shared → Prop} {s : Shared}
end
section
variable {X : Cx} {pins : List (Addr × Obj)} {σ : St} {H : Hp} {s : Shared} {A : Around} {E : Value → Shared → Prop}
end
def tDSetD (td ty tx : TE) : TE := fun σ H Q => td σ H fun x H1 => ∃ a, x = .ref a ∧ IsD H1 a ∧ ty σ H1 fun y H2 => tx σ H2 fun z H3 => ∃ b kvs k, H3 a = some (.dT kvs) ∧ y = .ref b ∧ H3 b = some (.tup (k.map kV)) ∧ kvs.length < sizeLine ∧
  (∀ v, valV kvs k = some v → Q v H3) ∧ (valV kvs k = none → Q z (upd H3 a (.dT (putK kvs k z))))
section
variable {X : Cx} {o e f : Expr} {apos cpos : Pos} {td ty tx : TE}
theorem qpe_dgetT {i : Expr} {pos : Pos} (hu : X.A.units + 1 < cLine) (ho : Pr (PE X o td)) (hi : Pr (PE X i ty)) (hs : NoSl i) : Pr (PE X (.Subscript o i pos) (tDGet td ty)) := ⟨pe_dget hu ho.h hi.h hs⟩
end
end L2

namespace L2
open PySem PySem.W PyProof.Rows
def sqO (k : SK) (xs : List V) : HO := match k with
  | .list => .lst xs
  | .tuple => .tup xs
def ItK (K : PySem.W.Frag) (k : SK) (a : Addr) : It := match k with
  | .list => Itl K a
  | .tuple => Itt K a
def iSq (K : PySem.W.Frag) (k : SK) (tl : TE) : TI := fun σ H R => tl σ H fun x H1 => ∃ a, x = .ref a ∧ (∃ xs, Sq k K H1 a xs) ∧ R (ItK K k a) H1
section
variable {X : Cx} {tg l : Expr}
theorem qpi_sqK (K : PySem.W.Frag) (hK : X.K = K) (k : SK) {tl : TE} (hl : Pr (PE X l tl)) : Pr (PI X tg l (iSq K k tl)) := by
  cases k with
  | list => exact qpi_listK K hK hl
  | tuple => exact qpi_tupK K hK hl
end
theorem comp_sq {K : PySem.W.Frag} {k : SK} {a : Addr} (xs : List V) {g : TG} {tt : TT} {te : TE} {Q : List V → Hp → Prop} {σ : St} {H : Hp} (Pv : Nat → List V → St → Hp → Prop) (hn : xs.length < sizeLine) (h0 : Pv 0 [] σ H) (hl : ∀ i ys σ H, i ≤ xs.length → Pv i ys σ H → ys.length ≤ i ∧ Sq k K H a xs)
    (turn : ∀ i ys σ H x, xs[i]? = some x → Pv i ys σ H → g x σ H fun σ2 H2 => tt σ2 H2 fun b H3 => if b = true then te σ2 H3 fun y H4 => Pv (i + 1) (ys ++ [y]) σ2 H4 else Pv (i + 1) ys σ2 H3)
    (after : ∀ ys σ H, Pv xs.length ys σ H → Q ys H) : Comp (ItK K k a) g tt te Q σ H := by
  cases k with
  | list => exact comp_list xs Pv hn h0 hl turn after
  | tuple => exact comp_tup xs Pv hn h0 hl turn after
theorem callK_tuple_of {X : Cx} (K : PySem.W.Frag) (hK : X.K = K) : CallR X (.type "tuple") (fun xs H Q => ∃ p ys, xs = [V.ref p] ∧ ((SqL K H p ys ∧ ∀ (l : Addr), H l = none → Q (V.ref l) (upd H l (HO.tup ys))) ∨ SqT K H p ys ∧ Q (V.ref p) H)) := by subst hK; exact call_tuple_of
end L2

namespace L2
open PySem PySem.Spec PyProof.Rows PySem.SeqAt
section
variable {prog : Program} {w : World} {A : Around} {E : Value → Shared → Prop} {s : Shared} {I : Addr} {fp wr : List Addr} {G : Array GenState → Array GenState → Prop} {n : Nat} {P : Nat → Value → Prop} {St : Nat → Shared → Prop}
end
section
variable {X : Cx}
def tTR (K : PySem.W.Frag) (ta : TA) : TE := fun σ H Q => ta σ H fun vs H1 => ∃ a xs, vs = [.ref a] ∧ SqL K H1 a xs ∧ ∀ D, H1 D = none → Q (.ref D) (upd H1 D (.tup xs.reverse))
def SameL (H : Hp) (u v : Addr) : Prop := u ≠ v ∧ ∃ ps : List Addr, H u = some (.lst (ps.map V.ref)) ∧ H v = some (.lst (ps.map V.ref))
def rNeW : R2 := fun x y H Q => ∃ (a b : Addr) (us vs : List Addr), x = .ref a ∧ y = .ref b ∧ H a = some (.tup (us.map V.ref)) ∧ H b = some (.tup (vs.map V.ref)) ∧ Paired (SameL H) us vs ∧ Q (.bl false) H
theorem paired_at {α β : Type} {R : α → β → Prop} : ∀ {xs : List α} {ys : List β}, Paired R xs ys → ∀ (j : Nat) (h1 : j < xs.length) (h2 : j < ys.length), R xs[j] ys[j]
  | _, _, .nil, j, h1, _ => absurd h1 (Nat.not_lt_zero _)
  | _, _, .cons a t, 0, _, _ => a
  | _, _, .cons a t, j + 1, h1, h2 => by
    have := paired_at t j (by simpa using h1) (by simpa using h2)
    simpa using this
end
end L2

namespace L2
open PySem PySem.Spec PyProof.Rows PySem.SeqAt
section
variable {X : Cx}
def Pl (x : V) : Prop := (∃ i, x = .int i) ∨ ∃ p, x = .ref p
def EqD (H : Hp) (x y : V) : Prop := (x = y ∧ Pl x) ∨ ∃ u v zs, x = .ref u ∧ y = .ref v ∧ H u = some (.tup zs) ∧ H v = some (.tup zs) ∧ ∀ z ∈ zs, Pl z
def rNeD : R2 := fun x y H Q => ∃ (a b : Addr) (xs ys : List V), x = .ref a ∧ y = .ref b ∧ H a = some (.tup xs) ∧ H b = some (.tup ys) ∧ Paired (EqD H) xs ys ∧ Q (.bl false) H
theorem qpe_din {i o : Expr} {ty td : TE} {pos : Pos} (hu : X.A.units + 1 < cLine) (hi : Pr (PE X i ty)) (ho : Pr (PE X o td)) (h1 : behindInMarks .In o = false := by rfl) : Pr (PE X (.Compare i [.In] [o] pos) (tDIn ty td)) := ⟨pe_cmp (pc_din hu hi.h ho.h) h1⟩
end
theorem dgetS_some {H : Hp} {a : Addr} {kvs : List (Key × V)} {x : Str} {v : V} (e : H a = some (.dK kvs)) (h : valV kvs (.inr x) = some v) : DGet H a (.str x) (some v) := h ▸ DGet.k (k := .inr x) e
end L2

namespace B17
open PySem L2 PyProof PyProof.Rows
section
variable {prog : Program} {w : World} {A : Around} {R : Result → Shared → Prop} {I l S : Addr} {its : Array Value} {ns : Nat → Int} {kw : List (Str × Value)}
theorem mx_ask {s : Shared} {Q : Value → Shared → Prop} {E : Value → Shared → Prop} {x M : Int} {t u : Tok} (h : Q (.bool (decide (x > M))) s) : wpAny (model prog w) A (richCompare .Gt (.int x t) (.int M u)) Q E s :=
  CmpOf.ints_gt (P := fun i v => ∃ t, v = .int ([x, M].getD i 0) t) (fun i => [x, M].getD i 0) (fun _ _ h => h) 0 1 _ _ s Q E ⟨t, rfl⟩ ⟨u, rfl⟩ h
theorem mx_name : (toString "max" ++ toString ".loop" : String) = "max.loop" := by decide
theorem mx_loop (hh : A.handled = none) (hlI : l ≠ I) (sI : S ≠ I) (sl : S ≠ l) (hv : ∀ i v, its[i]? = some v → ∃ t, v = Value.int (ns i) t) :
    ∀ (r j : Nat) (s : Shared) (M : Int) (t u : Tok) (c : Nat), its.size - j = r → j ≤ its.size → s.heap.IsListIter I l j ∧ s.heap.IsList l its →
      s.heap.get? S = some { cls := .type "list", dict := none, data := .seq #[.int M t, .int M u] c, slots := #[] } → (∃ i, i < j ∧ ns i = M) → (∀ i, i < j → ns i ≤ M) →
      (∀ (N : Int) (t : Tok) h' tk, (∃ i, i < its.size ∧ ns i = N) → (∀ i, i < its.size → ns i ≤ N) → (∀ b o, b ≠ I → b ≠ S → s.heap.get? b = some o → h'.get? b = some o) → R (.ok (.ret (.int N t))) { s with heap := h', toks := tk }) →
      codeAny (model prog w) A (.builtin "max.loop" ⟨[.ref I, .none, .ref S], kw⟩) R s := by
  have W := Walks.list (prog := prog) (w := w) (A := A.in1) hh I l hlI its
  intro r
  induction r with
  | zero =>
    intro j s M t u c hr hj st gS ex le q
    have ej : j = its.size := by omega
    subst ej
    refine codeAny_builtin PySem.F.entry_max_loop ?_
    rw [Around.under_plainId PySem.F.plain_max_loop _]
    show wpAny (model prog w) A.in1 (seqItems? (.ref S) >>= _) _ _ s
    refine wpAny_bind (wpAny_seqItems gS rfl ?_)
    show wpAny (model prog w) A.in1 (tryCatch (pyNext (.ref I)) _ >>= _) _ _ s
    refine wpAny_bind (wpAny_tryCatch (W.done s _ _ st fun h' tk k => ?_))
    have g1 := k S _ (by simpa using sI) gS
    show wpAny (model prog w) A.in1 (updateSeq S (fun _ => #[]) >>= _) _ _ _
    refine wpAny_bind (wpAny_updateSeq g1 rfl (wpAny_bind (wpAny_letGo (wpAny_pure ?_))))
    exact q M t _ tk ex le fun b o n1 n2 e => (Heap.get?_update_other _ _ (Ne.symm n2)).trans (k b o (by simpa using n1) e)
  | succ r ih =>
    intro j s M t u c hr hj st gS ex le q
    have lt : j < its.size := by omega
    refine codeAny_builtin PySem.F.entry_max_loop ?_
    rw [Around.under_plainId PySem.F.plain_max_loop _]
    show wpAny (model prog w) A.in1 (seqItems? (.ref S) >>= _) _ _ s
    refine wpAny_bind (wpAny_seqItems gS rfl ?_)
    show wpAny (model prog w) A.in1 (tryCatch (pyNext (.ref I)) _ >>= _) _ _ s
    refine wpAny_bind (wpAny_tryCatch (W.item j s _ _ lt st fun v h' tk hP st' k => ?_))
    obtain ⟨t1, rfl⟩ := hv j v hP
    have g1 := k S _ (by simpa using sI) gS
    show wpAny (model prog w) A.in1 (tryCatch (holding [Value.int (ns j) t1, Value.int (ns j) t1] (richCompare .Gt (.int (ns j) t1) (.int M u) >>= _)) _ >>= _) _ _ _
    refine wpAny_bind (wpAny_tryCatch (wpAny_holding (wpAny_bind (mx_ask ?_))))
    refine wpAny_bind (wpAny_holding (wpAny_truthy_bool ?_))
    refine wpAny_bind (wpAny_letGo (wpAny_pure ?_))
    by_cases gt : ns j > M
    · rw [decide_eq_true gt]
      simp only [if_true]
      refine wpAny_bind (wpAny_updateSeq g1 rfl (wpAny_bind (wpAny_letGo ?_)))
      rw [mx_name]
      refine wpAny_pure ⟨plainId_quiet PySem.F.plain_max_loop _, ih (j + 1) _ (ns j) t1 t1 _ (by omega) lt (W.frame _ _ _ st' fun b hb o e => ?_) (Heap.get?_update_self _ g1 rfl) ⟨j, by omega, rfl⟩ (fun i hi => ?_) fun N t2 h2 tk2 a1 a2 k2 => ?_⟩
      · refine (Heap.get?_update_other _ _ ?_).trans e
        rintro rfl
        simp at hb
        exact hb.elim sI sl
      · by_cases z : i = j
        · rw [z]; exact Int.le_refl _
        · have := le i (by omega); omega
      · exact q N t2 h2 tk2 a1 a2 fun b o n1 n2 e => k2 b o n1 n2 ((Heap.get?_update_other _ _ (Ne.symm n2)).trans (k b o (by simpa using n1) e))
    · rw [decide_eq_false gt]
      simp only [Bool.false_eq_true, if_false]
      refine wpAny_bind (wpAny_letGo ?_)
      rw [mx_name]
      refine wpAny_pure ⟨plainId_quiet PySem.F.plain_max_loop _, ih (j + 1) _ M t u c (by omega) lt st' g1 (ex.imp fun i h => ⟨by omega, h.2⟩) (fun i hi => ?_) fun N t2 h2 tk2 a1 a2 k2 => ?_⟩
      · by_cases z : i = j
        · rw [z]; omega
        · exact le i (by omega)
      · exact q N t2 h2 tk2 a1 a2 fun b o n1 n2 e => k2 b o n1 n2 (k b o (by simpa using n1) e)
theorem mx_none (hh : A.handled = none) (hlI : l ≠ I) (sI : S ≠ I) {s : Shared} {c : Nat} {d : Value} {n : Str} (st : s.heap.IsListIter I l 0 ∧ s.heap.IsList l #[]) (gS : s.heap.get? S = some { cls := .type "list", dict := none, data := .seq #[] c, slots := #[] })
    (q : ∀ h' tk, (∀ b o, b ≠ I → s.heap.get? b = some o → h'.get? b = some o) → R (.ok (.ret d)) { s with heap := h', toks := tk }) : codeAny (model prog w) A (.builtin "max.loop" ⟨[.ref I, .none, .ref S], [(n, d)]⟩) R s := by
  have W := Walks.list (prog := prog) (w := w) (A := A.in1) hh I l hlI #[]
  refine codeAny_builtin PySem.F.entry_max_loop ?_
  rw [Around.under_plainId PySem.F.plain_max_loop _]
  show wpAny (model prog w) A.in1 (seqItems? (.ref S) >>= _) _ _ s
  refine wpAny_bind (wpAny_seqItems gS rfl ?_)
  show wpAny (model prog w) A.in1 (tryCatch (pyNext (.ref I)) _ >>= _) _ _ s
  refine wpAny_bind (wpAny_tryCatch (W.done s _ _ st fun h' tk k => ?_))
  show wpAny (model prog w) A.in1 (rule (toString "max" ++ toString ".default") >>= fun _ => ret d) _ _ _
  refine wpAny_bind (wpAny_rule (wpAny_pure ?_))
  exact q h' tk fun b o n1 e => k b o (by simpa using n1) e
theorem mx_first (hh : A.handled = none) (hlI : l ≠ I) (sI : S ≠ I) (sl : S ≠ l) (hv : ∀ i v, its[i]? = some v → ∃ t, v = Value.int (ns i) t) (hn : 0 < its.size) {s : Shared} {c : Nat} (st : s.heap.IsListIter I l 0 ∧ s.heap.IsList l its)
    (gS : s.heap.get? S = some { cls := .type "list", dict := none, data := .seq #[] c, slots := #[] })
    (q : ∀ (N : Int) (t : Tok) h' tk, (∃ i, i < its.size ∧ ns i = N) → (∀ i, i < its.size → ns i ≤ N) → (∀ b o, b ≠ I → b ≠ S → s.heap.get? b = some o → h'.get? b = some o) → R (.ok (.ret (.int N t))) { s with heap := h', toks := tk }) :
    codeAny (model prog w) A (.builtin "max.loop" ⟨[.ref I, .none, .ref S], kw⟩) R s := by
  have W := Walks.list (prog := prog) (w := w) (A := A.in1) hh I l hlI its
  refine codeAny_builtin PySem.F.entry_max_loop ?_
  rw [Around.under_plainId PySem.F.plain_max_loop _]
  show wpAny (model prog w) A.in1 (seqItems? (.ref S) >>= _) _ _ s
  refine wpAny_bind (wpAny_seqItems gS rfl ?_)
  show wpAny (model prog w) A.in1 (tryCatch (pyNext (.ref I)) _ >>= _) _ _ s
  refine wpAny_bind (wpAny_tryCatch (W.item 0 s _ _ hn st fun v h' tk hP st' k => ?_))
  obtain ⟨t1, rfl⟩ := hv 0 v hP
  have g1 := k S _ (by simpa using sI) gS
  show wpAny (model prog w) A.in1 (updateSeq S (fun _ => #[Value.int (ns 0) t1, Value.int (ns 0) t1]) >>= _) _ _ _
  refine wpAny_bind (wpAny_updateSeq g1 rfl ?_)
  rw [mx_name]
  refine wpAny_pure ⟨plainId_quiet PySem.F.plain_max_loop _, mx_loop hh hlI sI sl hv _ 1 _ (ns 0) t1 t1 _ rfl hn (W.frame _ _ _ st' fun b hb o e => ?_) (Heap.get?_update_self _ g1 rfl) ⟨0, by omega, rfl⟩ (fun i hi => ?_) fun N t2 h2 tk2 a1 a2 k2 => ?_⟩
  · refine (Heap.get?_update_other _ _ ?_).trans e
    rintro rfl
    simp at hb
    exact hb.elim sI sl
  · have : i = 0 := by omega
    rw [this]; exact Int.le_refl _
  · exact q N t2 h2 tk2 a1 a2 fun b o n1 n2 e => k2 b o n1 n2 ((Heap.get?_update_other _ _ (Ne.symm n2)).trans (k b o (by simpa using n1) e))
theorem mx_args (a v : Value) : argsOk "max" ⟨[a], [(Str.ofString "default", v)]⟩ := by unfold argsOk; kernel_rfl
variable {E : Value → Shared → Prop} {s : Shared} {Q : Value → Shared → Prop} {d : Value}
theorem mx_call (hh : A.handled = none) (hl : s.heap.IsList l its) (hv : ∀ i v, its[i]? = some v → ∃ t, v = Value.int (ns i) t)
    (q0 : its.size = 0 → ∀ h' tk, (∀ b o, s.heap.get? b = some o → h'.get? b = some o) → Q d { s with heap := h', toks := tk })
    (q1 : 0 < its.size → ∀ (N : Int) (t : Tok) h' tk, (∃ i, i < its.size ∧ ns i = N) → (∀ i, i < its.size → ns i ≤ N) → (∀ b o, s.heap.get? b = some o → h'.get? b = some o) → Q (.int N t) { s with heap := h', toks := tk }) :
    wpAny (model prog w) A (call (.builtin "max") [.ref l] [(Str.ofString "default", d)]) Q E s := by
  obtain ⟨ol, hol, _⟩ := id hl
  have hll : l < s.heap.objs.size := Heap.lt_size hol
  refine kmk_tree PySem.F.kind_max PySem.F.plain_max PySem.F.entry_max (mx_args _ _) ?_
  show wpAny (model prog w) A.in1 (Builtin.Builtins.bindParams "max" ["key", "default"] 0 ⟨[], [(Str.ofString "default", d)]⟩ >>= _) _ _ s
  refine wpAny_bind (wpAny_of_eq (show Builtin.Builtins.bindParams "max" ["key", "default"] 0 ⟨[], [(Str.ofString "default", d)]⟩ = pure [none, some d] from rfl) (wpAny_bind (wpAny_pure (wpAny_bind (wpAny_pyIter_list hl (wpAny_bind (wpAny_newList ?_ (Nat.zero_le _))))))))
  rw [mx_name]
  refine wpAny_pure ⟨plainId_quiet PySem.F.plain_max_loop _, ?_⟩
  have hS : (s.heap.push { cls := .type "list_iterator", data := .fields #[.ref l, .int 0 0] }).objs.size = s.heap.objs.size + 1 := Heap.size_push ..
  have hlI : l ≠ s.heap.objs.size := Nat.ne_of_lt hll
  have sI : (s.heap.push { cls := .type "list_iterator", data := .fields #[.ref l, .int 0 0] }).objs.size ≠ s.heap.objs.size := by rw [hS]; omega
  have sl : (s.heap.push { cls := .type "list_iterator", data := .fields #[.ref l, .int 0 0] }).objs.size ≠ l := by rw [hS]; exact Nat.ne_of_gt (Nat.lt_succ_of_lt hll)
  have keep : ∀ b o, s.heap.get? b = some o → b ≠ s.heap.objs.size ∧ b ≠ (s.heap.push { cls := .type "list_iterator", data := .fields #[.ref l, .int 0 0] }).objs.size ∧ ((s.heap.push { cls := .type "list_iterator", data := .fields #[.ref l, .int 0 0] }).push { cls := .type "list", data := .seq #[] }).get? b = some o := fun b o e => by
    have lt := Heap.lt_size e
    refine ⟨Nat.ne_of_lt lt, by rw [hS]; exact Nat.ne_of_lt (Nat.lt_succ_of_lt lt), Heap.get?_push_of_some _ (Heap.get?_push_of_some _ e)⟩
  have st : ((s.heap.push { cls := .type "list_iterator", data := .fields #[.ref l, .int 0 0] }).push { cls := .type "list", data := .seq #[] }).IsListIter s.heap.objs.size l 0 ∧ ((s.heap.push { cls := .type "list_iterator", data := .fields #[.ref l, .int 0 0] }).push { cls := .type "list", data := .seq #[] }).IsList l its :=
    ⟨⟨_, Heap.get?_push_of_some _ (Heap.get?_push_size _ rfl), rfl, rfl⟩, (hl.push _).push _⟩
  by_cases e : its.size = 0
  · have e0 : its = #[] := Array.eq_empty_of_size_eq_zero e
    subst e0
    exact mx_none hh hlI sI st (Heap.get?_push_size _ rfl) fun h' tk k => q0 rfl h' tk fun b o hb => k b o (keep b o hb).1 (keep b o hb).2.2
  · exact mx_first hh hlI sI sl hv (by omega) st (Heap.get?_push_size _ rfl) fun N t h' tk a1 a2 k => q1 (by omega) N t h' tk a1 a2 fun b o hb => k b o (keep b o hb).1 (keep b o hb).2.1 (keep b o hb).2.2
theorem mx_call0 (hn : 0 < its.size) (hh : A.handled = none) (hl : s.heap.IsList l its) (hv : ∀ i v, its[i]? = some v → ∃ t, v = Value.int (ns i) t)
    (q1 : ∀ (N : Int) (t : Tok) h' tk, (∃ i, i < its.size ∧ ns i = N) → (∀ i, i < its.size → ns i ≤ N) → (∀ b o, s.heap.get? b = some o → h'.get? b = some o) → Q (.int N t) { s with heap := h', toks := tk }) :
    wpAny (model prog w) A (call (.builtin "max") [.ref l]) Q E s := by
  obtain ⟨ol, hol, _⟩ := id hl
  have hll : l < s.heap.objs.size := Heap.lt_size hol
  refine kmk_tree PySem.F.kind_max PySem.F.plain_max PySem.F.entry_max (PySem.F.args_max1 _) ?_
  show wpAny (model prog w) A.in1 (Builtin.Builtins.bindParams "max" ["key", "default"] 0 ⟨[], []⟩ >>= _) _ _ s
  refine wpAny_bind (wpAny_of_eq (show Builtin.Builtins.bindParams "max" ["key", "default"] 0 ⟨[], []⟩ = pure [none, none] from rfl) (wpAny_bind (wpAny_pure (wpAny_bind (wpAny_pyIter_list hl (wpAny_bind (wpAny_newList ?_ (Nat.zero_le _))))))))
  rw [mx_name]
  refine wpAny_pure ⟨plainId_quiet PySem.F.plain_max_loop _, ?_⟩
  have hS : (s.heap.push { cls := .type "list_iterator", data := .fields #[.ref l, .int 0 0] }).objs.size = s.heap.objs.size + 1 := Heap.size_push ..
  have hlI : l ≠ s.heap.objs.size := Nat.ne_of_lt hll
  have sI : (s.heap.push { cls := .type "list_iterator", data := .fields #[.ref l, .int 0 0] }).objs.size ≠ s.heap.objs.size := by rw [hS]; omega
  have sl : (s.heap.push { cls := .type "list_iterator", data := .fields #[.ref l, .int 0 0] }).objs.size ≠ l := by rw [hS]; exact Nat.ne_of_gt (Nat.lt_succ_of_lt hll)
  have keep : ∀ b o, s.heap.get? b = some o → b ≠ s.heap.objs.size ∧ b ≠ (s.heap.push { cls := .type "list_iterator", data := .fields #[.ref l, .int 0 0] }).objs.size ∧ ((s.heap.push { cls := .type "list_iterator", data := .fields #[.ref l, .int 0 0] }).push { cls := .type "list", data := .seq #[] }).get? b = some o := fun b o e => by
    have lt := Heap.lt_size e
    refine ⟨Nat.ne_of_lt lt, by rw [hS]; exact Nat.ne_of_lt (Nat.lt_succ_of_lt lt), Heap.get?_push_of_some _ (Heap.get?_push_of_some _ e)⟩
  have st : ((s.heap.push { cls := .type "list_iterator", data := .fields #[.ref l, .int 0 0] }).push { cls := .type "list", data := .seq #[] }).IsListIter s.heap.objs.size l 0 ∧ ((s.heap.push { cls := .type "list_iterator", data := .fields #[.ref l, .int 0 0] }).push { cls := .type "list", data := .seq #[] }).IsList l its :=
    ⟨⟨_, Heap.get?_push_of_some _ (Heap.get?_push_size _ rfl), rfl, rfl⟩, (hl.push _).push _⟩
  exact mx_first hh hlI sI sl hv hn st (Heap.get?_push_size _ rfl) fun N t h' tk a1 a2 k => q1 N t h' tk a1 a2 fun b o hb => k b o (keep b o hb).1 (keep b o hb).2.1 (keep b o hb).2.2
end
def gr (ns : List Int) : Int := ns.foldr max 0
theorem gr_ge : ∀ {ns : List Int} {a : Int}, a ∈ ns → a ≤ gr ns
  | x :: xs, a, h => by
    show a ≤ max x (gr xs)
    rcases List.mem_cons.mp h with rfl | h
    · omega
    · have := gr_ge h; omega
theorem gr_le : ∀ {ns : List Int} {N : Int}, 0 ≤ N → (∀ a ∈ ns, a ≤ N) → gr ns ≤ N
  | [], N, h, _ => h
  | x :: xs, N, h0, h => by
    show max x (gr xs) ≤ N
    have h1 := h x (by simp)
    have h2 := gr_le (ns := xs) h0 fun a ha => h a (by simp [ha])
    omega
theorem gr_eq {ns : List Int} {N : Int} (m : N ∈ ns) (h : ∀ a ∈ ns, a ≤ N) (h0 : ∀ a ∈ ns, 0 ≤ a) : N = gr ns := by
  have := gr_ge m
  have := gr_le (h0 N m) h
  omega
theorem vals_int_at : ∀ {ns : List Int} {its : List Value}, Vals (ns.map V.int) its → ∀ (i : Nat) (v : Value), its[i]? = some v → ∃ t, v = Value.int (ns.getD i 0) t
  | [], _, .nil, i, v, h => by simp at h
  | x :: ns, _, .cons r t, 0, v, h => by obtain ⟨tk, rfl⟩ := r; exact ⟨tk, by simpa using h.symm⟩
  | x :: ns, _, .cons r t, i + 1, v, h => vals_int_at t i v (by simpa using h)
def CallK (X : Cx) (fn : Value) (ks : List Str) (r : List V → List V → Hp → VK → Prop) : Prop :=
  ∀ (pins : List (Addr × Obj)) (s : Shared) (σ : L2.St) (H : Hp) (xs zs : List V) (us ws : List Value) (Q : VK), Inv X pins σ H s → Vals xs us → Vals zs ws → r xs zs H Q → wpAny (model X.prog X.w) X.A (call fn us (ks.zip ws)) (EP X pins σ Q) X.xe s
def rMaxD : List V → List V → Hp → VK → Prop := fun xs zs H Q => ∃ (p : Addr) (ns : List Int), xs = [.ref p] ∧ zs = [.int 0] ∧ H p = some (.lst (ns.map V.int)) ∧ (∀ a ∈ ns, 0 ≤ a) ∧ Q (.int (gr ns)) H
theorem call_maxD {X : Cx} (hc : X.calm = true) : CallK X (.builtin "max") ["default"] rMaxD := by
  intro pins s σ H xs zs us ws Q I r rz h
  obtain ⟨p, ns, rfl, rfl, hp, h0, q⟩ := h
  obtain ⟨u, rfl, ru⟩ := vals1 r
  cases ru
  obtain ⟨v, rfl, t, rfl⟩ := vals1 rz
  obtain ⟨z, its, n, rv, e⟩ := I.hok p _ hp
  have el : its.toArray.size = ns.length := by rw [List.size_toArray, ← rv.length, List.length_map]
  refine mx_call (its := its.toArray) (ns := fun i => ns.getD i 0) (I.ok.hd hc) ⟨_, e, rfl, n, rfl⟩ (fun i v hv => ?_) (fun e0 h' tk k => ?_) (fun hn N t h' tk a1 a2 k => ?_)
  · exact vals_int_at rv i v (by simpa using hv)
  · have : ns = [] := List.length_eq_zero_iff.mp (by omega)
    subst this
    exact ⟨.int 0, H, I.kept (t' := tk) k, ⟨t, rfl⟩, q⟩
  · obtain ⟨i, hi, rfl⟩ := a1
    have m : ns.getD i 0 ∈ ns := by rw [List.getD_eq_getElem?_getD, List.getElem?_eq_getElem (by omega)]; exact List.getElem_mem _
    have g := gr_eq m (fun a ha => by
      obtain ⟨j, hj⟩ := List.getElem?_of_mem ha
      have h2 := a2 j (by have := (List.getElem?_eq_some_iff.mp hj).1; omega)
      rw [List.getD_eq_getElem?_getD, hj] at h2
      exact h2) h0
    exact ⟨.int (gr ns), H, I.kept (t' := tk) k, ⟨t, by rw [← g]⟩, q⟩
theorem gr_at {ns : List Int} (h0 : ∀ a ∈ ns, 0 ≤ a) {n i : Nat} (en : n = ns.length) (hi : i < n) (a2 : ∀ j, j < n → ns.getD j 0 ≤ ns.getD i 0) : ns.getD i 0 = gr ns := by
  have m : ns.getD i 0 ∈ ns := by rw [List.getD_eq_getElem?_getD, List.getElem?_eq_getElem (by omega)]; exact List.getElem_mem _
  refine gr_eq m (fun a ha => ?_) h0
  obtain ⟨j, hj⟩ := List.getElem?_of_mem ha
  have h2 := a2 j (by have := (List.getElem?_eq_some_iff.mp hj).1; omega)
  rw [List.getD_eq_getElem?_getD, hj] at h2
  exact h2
def rMax1 : List V → Hp → VK → Prop := fun xs H Q => ∃ (p : Addr) (ns : List Int), xs = [.ref p] ∧ H p = some (.lst (ns.map V.int)) ∧ 0 < ns.length ∧ (∀ a ∈ ns, 0 ≤ a) ∧ Q (.int (gr ns)) H
theorem call_max1 {X : Cx} (hc : X.calm = true) : CallR X (.builtin "max") rMax1 := by
  intro pins s σ H xs us Q I r h
  obtain ⟨p, ns, rfl, hp, hn, h0, q⟩ := h
  obtain ⟨u, rfl, ru⟩ := vals1 r
  cases ru
  obtain ⟨z, its, n, rv, e⟩ := I.hok p _ hp
  have el : its.toArray.size = ns.length := by rw [List.size_toArray, ← rv.length, List.length_map]
  refine mx_call0 (its := its.toArray) (ns := fun i => ns.getD i 0) (by omega) (I.ok.hd hc) ⟨_, e, rfl, n, rfl⟩ (fun i v hv => vals_int_at rv i v (by simpa using hv)) (fun N t h' tk a1 a2 k => ?_)
  obtain ⟨i, hi, rfl⟩ := a1
  exact ⟨.int (gr ns), H, I.kept (t' := tk) k, ⟨t, by rw [← gr_at h0 el hi a2]⟩, q⟩
def tCBK (r : List V → List V → Hp → VK → Prop) (t tk : TA) : TE := fun σ H Q => t σ H fun vs H1 => tk σ H1 fun zs H2 => r vs zs H2 Q
theorem qpe_callBK {X : Cx} {id : String} {x : Str} {ks : List Str} {r : List V → List V → Hp → VK → Prop} {e : Expr} {es : List Expr} {kws : List Keyword} {p pos : Pos} {t tk : TA} (hc : CallK X (.builtin id) ks r) (hg : Gl X x) (hm : X.mg x = none) (hv : bootBuiltins x = some (.builtin id))
    (ha : Pr (PA X (e :: es) t)) (hk : PK X kws tk) (hks : (backToKw pos (keywordEach kws X.env)).filterMap (·.1) = ks := by rfl) (hn : x ≠ "__name__" := by decide) (hdb : (x == ("__debug__" : Str)) = false := by decide)
    (he : backTo pos (starEach (e :: es) X.env) = (false, eval e X.env) :: backTo pos (starEach es X.env) := by rfl) (hpl : (backTo pos (starEach (e :: es) X.env)).any (·.1) = false := by rfl)
    (hall : (backToKw pos (keywordEach kws X.env)).all (·.1.isSome) = true := by rfl) (hkn : (backToKw pos (keywordEach kws X.env)).any (·.1.isNone) = false := by rfl) : Pr (PE X (.Call (.Name x p) (e :: es) kws pos) (tCBK r t tk)) := by
  refine ⟨fun pins s σ H Q I h => wpAny_Call_Name_kw (ld_blt I hg hm hv ?_ hn hdb)⟩
  refine callWith_kw (thn (ha.h pos pins s σ H _ I h) fun us s1 ⟨vs, H1, I1, r1, q1⟩ => thn (hk pos pins s1 σ H1 _ I1 q1) fun ws s2 ⟨zs, H2, I2, rz, q2⟩ => ?_) he hpl hall hkn
  rw [hks]
  exact hc pins s2 σ H2 vs zs us ws Q I2 r1 rz q2
end B17

namespace L2
open PySem PySem.Spec PyProof.Rows
def tMakeX (C : Addr) (sp : Sp) (t : TA) : TEX := fun σ H Q Ew => t σ H fun vs H1 => ∀ x dx, H1 x = none → H1 dx = none → dx ≠ x →
  sp (.ref x :: vs) (upd (upd H1 dx (.own x)) x (.ins C dx [])) (fun v H2 => v = .non ∧ Q (.ref x) H2) fun c _ H' => Ew c H'
section
variable {X : Cx} {k : Nat} {C : Addr} {ps : List Str} {sp : Sp} {x : Str} {p pos : Pos} {e : Expr} {es : List Expr} {t : TA}
theorem pex_makeD (hx : Nox X) (D : MakeOk X.prog X.w X.K X.mg X.base (CXE X.prog X.w) k C x ps sp) (hr : Room (k + 1) X.A) (hg : Gl X x) (ha : Pr (PA X (e :: es) t)) (hdb : (x == ("__debug__" : Str)) = false := by decide)
    (he : starEach (e :: es) X.env = (false, eval e X.env) :: starEach es X.env := by rfl) (hpl : (backTo pos (starEach es X.env)).any (·.1) = false := by rfl) : PEX X (.Call (.Name x p) (e :: es) [] pos) (tMakeX C sp t) := by
  obtain ⟨f, fd, F, hb, M, hm⟩ := D.ex
  intro pins s0 σ H0 Q Ew I0 h
  refine wpAny_Call_Name_kw (ld_glob I0 hg hm ?_ hdb)
  refine PySem.W.callWith_K (h₀ := X.base) I0.ok.mod.kin M.kp (wpAny_mono (ha.h pos pins s0 σ H0 _ I0 h) (fun us s ⟨vs, H, I, r, h⟩ => ⟨I.kIn, ?_⟩) fun _ _ z => (hx _ _ z).elim) he hpl
  have hq := h (s.heap.objs.size + 1) s.heap.objs.size (I.hok.fresh (Nat.le_succ _)) (I.hok.fresh (Nat.le_refl _)) (Nat.ne_of_lt (Nat.lt_succ_self _))
  have I2 := Inv.made (C := C) I
  have r2 : Vals (V.ref (s.heap.objs.size + 1) :: vs) (Value.ref (s.heap.objs.size + 1) :: us) := .cons rfl r
  have hl : (Value.ref (s.heap.objs.size + 1) :: us ++ []).length = ps.length := by
    have e := r2.length
    rw [F.len _ _ _ _ hq] at e
    rw [List.append_nil]
    exact e.symm
  have bt := hb _ (Value.ref (s.heap.objs.size + 1) :: us) I2.kIn hl
  rw [List.append_nil] at bt
  refine wpAny_call (make_map (f := f) I.kIn M.makes M.init (beq_iff_eq.mp M.fn) (codeAny_mono (F.run _ X.stack _ _ ⟨Value.ref (s.heap.objs.size + 1) :: us, []⟩ (Value.ref (s.heap.objs.size + 1) :: us) _ _ _ (hr.make C us []) (I2.env0.make C us []) bt r2 hq) fun r s' hq' => ?_))
  cases r with
  | error e => exact ⟨_, _, I2, hq'⟩
  | ok fl =>
    cases fl with
    | ret u =>
      obtain ⟨v, H', I3, rv, ev, q3⟩ := I2.after hq'
      subst ev
      exact ⟨rv, ⟨V.ref (s.heap.objs.size + 1), H', I3, rfl, q3⟩⟩
    | next => exact False.elim hq'
    | brk => exact False.elim hq'
    | cont => exact False.elim hq'
end
def rIsXs (K : PySem.W.Frag) : List V → Hp → VK → Prop := fun xs H Q => ∃ (ea C p : Addr) (cs : List V) (b : Bool), xs = [.ref ea, .ref p] ∧ H ea = some (exO ea C) ∧ H p = some (.tup cs) ∧ (∃ as : List Addr, cs = as.map V.ref ∧ XA K C ∧ PySem.W.kitAny K (.ref C) (as.map Value.ref) = some b) ∧ Q (.bl b) H
theorem vals_refs : ∀ {as : List Addr} {us : List Value}, Vals (as.map V.ref) us → us = as.map Value.ref
  | [], _, .nil => rfl
  | T :: as, _, .cons r t => by rw [List.map_cons, vals_refs t]; cases r; rfl
theorem call_isXs {X : Cx} : CallR X (.builtin "isinstance") (rIsXs X.K) := by
  intro pins s σ H xs us Q I r h
  obtain ⟨ea, C, p, cs, b, rfl, he, hp, ⟨as, rfl, xa, e⟩, q⟩ := h
  obtain ⟨u, v, rfl, ru, rv⟩ := vals2 r
  obtain rfl : u = Value.ref ea := ru
  obtain rfl : v = Value.ref p := rv
  obtain ⟨o, vs, g1, ⟨g2, g3⟩, g4, _⟩ := exO_get I.hok he
  have J : ∃ ox, PySem.W.InstAt s.heap ea ox C none := ⟨o, g1, g2, by unfold PySem.W.notCls; rw [g4], by rw [g3]; trivial⟩
  obtain ⟨_, its, rt, ⟨cl, di, da, sl⟩, ho, hoc, n, hod⟩ := I.hok p _ hp
  obtain rfl := vals_refs rt
  cases hoc
  cases hod
  exact PySem.W.kia_tup (kitx_exc xa) I.kIn J ho e (fun z => by cases z) fun tk => ⟨.bl b, H, I.tok _, rfl, q⟩
theorem kany {K : PySem.W.Frag} {t : Value} : ∀ {as : List Addr}, (∀ c ∈ as, PySem.W.kitOne K t (.ref c) = some false) → PySem.W.kitAny K t (as.map Value.ref) = some false
  | [], _ => rfl
  | c :: as, h => by
    rw [List.map_cons, PySem.W.kitAny, h c (by simp)]
    exact kany fun x hx => h x (by simp [hx])
structure WK (K : PySem.W.Frag) (CR : Addr) (cs : List Addr) (co : Addr) : Prop where
  xa : XA K CR
  kr : PySem.W.kitOne K (.ref CR) (.ref CR) = some true
  kv : PySem.W.kitOne K (.ref CR) (.type "ValueError") = some true
  ks : PySem.W.kitAny K (.ref CR) (cs.map Value.ref) = some false
  ko : PySem.W.kitOne K (.ref CR) (.ref co) = some false
def tPar3 (i j l : Nat) (ta : TA) : TS := fun D σ H => ta σ H fun vs H1 => ∃ v w z, vs = [v, w, z] ∧ D.nx (((σ.set i (some v)).set j (some w)).set l (some z)) H1
theorem qps_par3 {X : Cx} {i j l : Nat} {x y z : Str} {a b c : Expr} {ta : TA} {px py pz pt pos : Pos} {kt k2 pt2} (hc : X.calm = true) (hN : X.N.Nodup) (hi : X.N[i]? = some x) (hj : X.N[j]? = some y) (hl : X.N[l]? = some z) (hij : i ≠ j) (hil : i ≠ l) (hjl : j ≠ l)
    (hx : X.env.scope.names.lookup x = some .local) (hy : X.env.scope.names.lookup y = some .local) (hz : X.env.scope.names.lookup z = some .local) (ha : Pr (PA X [a, b, c] ta))
    (hw : swappedStores [.Tuple [.Name x px, .Name y py, .Name z pz] kt pt] (.Tuple [a, b, c] k2 pt2) X.env = pure (some [x, y, z]))
    (hs : swapsWithSole [.Tuple [.Name x px, .Name y py, .Name z pz] kt pt] (.Tuple [a, b, c] k2 pt2) pos.line X.env = pure false := by rfl) :
    Pr (PS X (.Assign [.Tuple [.Name x px, .Name y py, .Name z pz] kt pt] (.Tuple [a, b, c] k2 pt2) pos) (tPar3 i j l ta)) := by
  refine ⟨?_⟩
  intro pins s σ H D I h
  rw [exec_Assign_arm]
  refine wpAny_bind (wpAny_standAt ?_)
  rw [hs]
  refine wpAny_bind (wpAny_pure ?_)
  rw [if_neg (by decide)]
  refine wpAny_bind (Tuple_ (thn (ha.h _ pins s σ H _ I h) fun us s1 ⟨vs, H1, I1, r1, q1⟩ => ?_))
  obtain ⟨v, w, t, e1, q1⟩ := q1
  subst e1
  obtain ⟨u1, u2, u3, rfl, rv, rw', rt⟩ : ∃ u1 u2 u3, us = [u1, u2, u3] ∧ RelV v u1 ∧ RelV w u2 ∧ RelV t u3 := by
    cases r1 with
    | cons p q =>
      cases q with
      | cons p' q' =>
        cases q' with
        | cons p2 q2 =>
          cases q2
          exact ⟨_, _, _, rfl, p, p', p2⟩
  refine wpAny_newObj_type ?_ (by show 3 ≤ sizeLine; decide)
  have I2 : Inv X pins σ H1 { s1 with heap := s1.heap.push { cls := .type "tuple", data := .seq [u1, u2, u3].toArray } } := I1.kept (t' := s1.toks) fun b o e => Heap.get?_push_of_some _ e
  rw [hw]
  refine wpAny_bind (wpAny_pure ?_)
  show wpAny (model X.prog X.w) X.A (do rule "assign.swapped-stores"; let items ← unpackItems (.ref s1.heap.objs.size) 3 none; assignInOrder [fun v => bindName X.env z v, fun v => bindName X.env y v, fun v => bindName X.env x v] items.reverse; pure Flow.next) _ _ _
  refine wpAny_bind (wpAny_rule (wpAny_bind (unpackItems_tuple (items := #[u1, u2, u3]) (I.ok.hd hc) (IsTup.new s1.heap _) fun h' hx' => ?_)))
  have I3 := I2.kept (h' := h') (t' := s1.toks) fun b o e => hx' b o (Nat.ne_of_lt (Heap.lt_size e)) e
  show wpAny _ _ (assignInOrder [fun v => bindName X.env z v, fun v => bindName X.env y v, fun v => bindName X.env x v] [u3, u2, u1] >>= fun _ => pure Flow.next) _ _ _
  refine wpAny_bind (assignInOrder_cons (wpAny_bindName (store_ok I3 hN hl (.inl hz) rt (fun s2 I4 => ?_) (.inr hz))))
  refine assignInOrder_cons (wpAny_bindName (store_ok I4 hN hj (.inl hy) rw' (fun s3 I5 => ?_) (.inr hy)))
  refine assignInOrder_cons (wpAny_bindName (store_ok I5 hN hi (.inl hx) rv (fun s4 I6 => assignInOrder_nil (wpAny_pure ?_)) (.inr hx)))
  rw [List.set_comm _ _ hjl.symm, List.set_comm _ _ hil.symm, List.set_comm _ _ hij.symm] at I6
  exact ⟨_, H1, I6, q1⟩
end L2

set_option maxHeartbeats 4000000
namespace B17
open PySem L2
abbrev Vs (sc : Scope) (x : Str) : Prop := sc.names.lookup x = some NameKind.local ∨ sc.names.lookup x = some NameKind.cell ∨ sc.names.lookup x = some NameKind.free
abbrev Lc (sc : Scope) (x : Str) : Prop := sc.names.lookup x = some NameKind.local ∨ sc.names.lookup x = some NameKind.cell
abbrev Gi (sc : Scope) (x : Str) : Prop := sc.names.lookup x = some NameKind.globalImplicit
abbrev Nd (x : Str) : Prop := (x == ("__debug__" : Str)) = false
abbrev Nc (x : Str) : Prop := (x == ("__classdict__" : Str)) = false
local macro_rules | `(tactic| walk_at "few") => `(tactic| (with_reducible show (List.length (α := Str × V) _) < 1000); first | exact (by decide : 0 < 1000) | exact (by decide : 1 < 1000) | exact (by decide : 2 < 1000) | exact (by decide : 3 < 1000) | exact (by decide : 4 < 1000) | exact (by decide : 5 < 1000) | exact (by decide : 6 < 1000))
local macro_rules | `(tactic| walk_at "get") => `(tactic| first
  | with_reducible assumption
  | exact upd_same
  | (apply g_new; (focus with_reducible assumption); (focus walk_at "get"))
  | (apply g_put; (focus walk_at "ne"); (focus walk_at "get"))
  | (apply Ch.get; (focus with_reducible assumption); (focus walk_at "get"); (focus walk_at "notin")))
local macro_rules | `(tactic| walk_at "ne") => `(tactic| first | with_reducible assumption | (apply Ne.symm; with_reducible assumption) | (apply ne_of; (focus with_reducible assumption); (focus with_reducible assumption); (focus (intro z; cases z))))
local macro_rules | `(tactic| walk_at "notin") => `(tactic| first | exact List.not_mem_nil | (simp only [List.mem_cons, List.not_mem_nil, or_false, not_or, not_false_eq_true]; first | walk_at "ne" | trivial))
local macro_rules | `(tactic| walk_at "scr") => `(tactic| first
  | with_reducible assumption
  | (apply Scr.ch; (focus with_reducible assumption); (focus with_reducible assumption); (focus walk_at "ch"))
  | (apply Scr.same; (focus with_reducible assumption); (focus walk_at "ch")))
local macro_rules | `(tactic| walk_at "ch") => `(tactic| first
  | with_reducible assumption
  | exact Ch.refl _ _
  | exact Ch.put
  | (apply Ch.new; with_reducible assumption)
  | (apply Ch.wk; with_reducible assumption)
  | (apply Ch.own; (focus with_reducible assumption); (focus walk_at "ch"))
  | (apply Ch.trans; (rotate_left; focus with_reducible assumption); (focus walk_at "ch"))
  | (apply Ch.trans; (rotate_left; focus (apply Ch.wk; with_reducible assumption)); (focus walk_at "ch"))
  | (apply Ch.trans; (rotate_left; focus exact Ch.put); (focus walk_at "ch"))
  | (apply Ch.trans; (rotate_left; focus (apply Ch.new; with_reducible assumption)); (focus walk_at "ch")))
local macro_rules | `(tactic| walk_at "sq") => `(tactic| first
  | (apply Scr.sq; walk_at "scr")
  | (apply Exists.intro; walk_at "sq")
  | (refine (‹∀ H : Hp, SqT _ H _ _›) _)
  | (apply SqL.of; walk_at "get")
  | (apply SqT.of; walk_at "get")
  | (apply Or.inl; apply Scr.sq; walk_at "scr")
  | (apply Or.inl; apply SqL.of; walk_at "get")
  | (apply Or.inr; apply SqT.of; walk_at "get"))
local macro_rules | `(tactic| walk_at "arith") => `(tactic| first
  | omega
  | (simp only [List.length_map, List.length_cons, List.length_nil, List.length_append, List.length_singleton, List.length_replicate]; done)
  | ((try dsimp only); (try simp only [List.length_map, List.length_cons, List.length_nil, List.length_append, List.length_singleton, List.length_replicate, sizeLine_eq]); omega)
  | ((try dsimp only); (try simp only [List.length_map, List.length_cons, List.length_nil, List.length_append, List.length_singleton, List.length_replicate, sizeLine_eq] at *); omega))
local macro_rules | `(tactic| walk_at "cond") => `(tactic| first
  | (refine Or.inl (And.intro ?_ ?_) <;> walk_at "arith")
  | (refine Or.inr (And.intro ?_ ?_) <;> walk_at "arith")
  | (refine And.intro ?_ (And.intro ?_ ?_) <;> walk_at "arith")
  | (refine And.intro ?_ ?_ <;> walk_at "arith"))
local macro_rules | `(tactic| walk_at "len") => `(tactic| first
  | with_reducible assumption
  | exact len_one
  | (apply len_slice; walk_at "len")
  | (apply len_app; (focus walk_at "len"); (focus walk_at "len"))
  | exact Nat.le_refl _)
local macro_rules | `(tactic| walk_at "lens") => `(tactic| first
  | (apply len_sum; (focus walk_at "len"); (focus walk_at "len"); (focus first | decide +kernel | walk_at "arith"))
  | (apply len_top; (focus walk_at "len"); (focus first | decide +kernel | walk_at "arith")))
local macro_rules | `(tactic| walk_at "side") => `(tactic| first
  | with_reducible rfl | with_reducible assumption | walk_at "sq" | walk_at "get" | walk_at "scr" | walk_at "ch" | walk_at "ty" | exact TyOf.int _ | exact TyOf.str _ | (apply TyOf.tup; walk_at "get") | (apply TyOf.lst; walk_at "get") | exact TyOf.bl _ | exact TyOf.non | walk_at "few" | decide | omega | walk_at "arith" | walk_at "cond" | ((try simp only [List.length_map]); with_reducible assumption) | walk_at "lens" | (apply Or.inr; with_reducible assumption) | walk_at "user" | exact rfl | assumption)
local macro_rules | `(tactic| walk_at "ty") => `(tactic| (refine Or.inl (And.intro rfl ?_); apply Exists.intro; walk_at "sq"))
local macro_rules | `(tactic| walk_at "user") => `(tactic| fail)
local macro_rules | `(tactic| walk_at "rd1") => `(tactic| first
  | apply Exists.intro
  | (refine And.intro rfl ?_)
  | (refine And.intro (show V.str _ = L2.kV (Sum.inr _) from rfl) ?_)
  | (refine And.intro (show V.int _ = L2.kV (Sum.inl _) from rfl) ?_)
  | (refine And.intro (L2.cut1_not _ _) ?_)
  | (apply And.intro; (focus (walk_at "side"; done)))
  | apply Atx.head
  | (apply Atx.of; (focus first | exact rfl | with_reducible assumption | ((try simp only [List.length_map]); with_reducible assumption)))
  | (apply Or.inl; apply Exists.intro; (refine And.intro rfl ?_))
  | (apply Or.inr; apply Exists.intro; (refine And.intro rfl ?_))
  | (apply Or.inl; apply And.intro; (focus walk_at "sq"))
  | (apply Or.inr; apply And.intro; (focus walk_at "sq"))
  | (intro _)
  | walk_at "fin")
local macro_rules | `(tactic| walk_at "fin") => `(tactic| first | exact rfl | (walk_at "get"; done))
local macro_rules | `(tactic| walk_at "rd") => `(tactic| repeat walk_at "rd1")
section
theorem dgetS_none {H : Hp} {a : Addr} {kvs : List (Key × V)} {x : Str} (e : H a = some (.dK kvs)) (h : valV kvs (.inr x) = none) : DGet H a (.str x) none := h ▸ DGet.k (k := .inr x) e
local macro_rules | `(tactic| walk_at "user") => `(tactic| first
  | (apply dgetS_some; (focus walk_at "get"); (focus with_reducible assumption))
  | (apply dgetS_none; (focus walk_at "get"); (focus with_reducible assumption))
  | (apply dgetI_some; (focus walk_at "get"); (focus with_reducible assumption)))
def top (i : Nat) : Stmt := PySem.Challenge.pw_bitfloor_k35_tables_kept.main.body.getD i (.Pass ⟨0, 0, 0, 0⟩)
def SqX (k : SK) (H : Hp) (a : Addr) (xs : List V) : Prop := match k with
  | .list => H a = some (.lst xs)
  | .tuple => H a = some (.tup xs)
theorem SqX.ch {kd : SK} {H H' : Hp} {a : Addr} {xs : List V} (h : SqX kd H a xs) (c : Ch [] H H') : SqX kd H' a xs := by
  cases kd with
  | list => exact c.get h (by simp)
  | tuple => exact c.get h (by simp)
def bi : Bool → Int
  | true => 1
  | false => 0
def bV (b : Bool) : V := .int (bi b)
theorem rep_flat {α : Type} (x : α) : ∀ n : Nat, (List.replicate n [x]).flatten = List.replicate n x
  | 0 => rfl
  | n + 1 => by rw [List.replicate_succ, List.flatten_cons, rep_flat x n, List.replicate_succ]; rfl
theorem chFree {H H' : Hp} (c : Ch [] H H') {r : Addr} (h : H' r = none) : H r = none := by
  cases e : H r with
  | none => rfl
  | some o => rw [c r o e (by simp)] at h; cases h
inductive Th (H : Hp) : V → Prop
  | int (i : Int) : Th H (.int i)
  | non : Th H .non
  | bl (b : Bool) : Th H (.bl b)
  | str (x : Str) : Th H (.str x)
def isI : V → Bool
  | .int _ => true
  | _ => false
def belB (v : V) (b : Int) : Bool := match v with
  | .int i => decide (0 ≤ i) && decide (i < b)
  | _ => false
def okB (v : V) : Prop := belB v 2 = true
abbrev Wr := List Key
inductive Wd
  | i
  | k
  | t
def Wd.s : Wd → Str
  | .i => "in"
  | .k => "keep"
  | .t => "table"
abbrev Plc := Wd × Nat
def plK (p : Plc) : Wr := [.inr p.1.s, .inl (p.2 : Int)]
def lim (a b c : Nat) : Wd → Nat
  | .i => a
  | .k => b
  | .t => c
def cntK (a b c : Nat) : List (Key × V) := [(.inr "in", .int (a : Int)), (.inr "keep", .int (b : Int)), (.inr "table", .int (c : Int))]
theorem cnt_val (a b c : Nat) (x : Wd) : valV (cntK a b c) (.inr x.s) = some (.int (lim a b c x : Int)) := by cases x <;> rfl
abbrev WsAt (H : Hp) : List Wr → List Addr → Prop := Paired (fun k p => H p = some (.tup (k.map kV)))
theorem paired_imp {α β : Type} {R S : α → β → Prop} (h : ∀ x y, R x y → S x y) : ∀ {xs : List α} {ys : List β}, Paired R xs ys → Paired S xs ys
  | _, _, .nil => .nil
  | _, _, .cons a t => .cons (h _ _ a) (paired_imp h t)
theorem paired_snoc {α β : Type} {R : α → β → Prop} {x : α} {y : β} (h : R x y) : ∀ {xs : List α} {ys : List β}, Paired R xs ys → Paired R (xs ++ [x]) (ys ++ [y])
  | _, _, .nil => .cons h .nil
  | _, _, .cons a t => .cons a (paired_snoc h t)
theorem paired_get {α : Type} {R : α → Addr → Prop} : ∀ {xs : List α} {ps : List Addr}, Paired R xs ps → ∀ (i : Nat) (v : V), (ps.map V.ref)[i]? = some v → ∃ p x, v = .ref p ∧ xs[i]? = some x ∧ R x p
  | _, _, .nil, i, x, h => by simp at h
  | k :: ws, p :: ps, .cons a t, 0, x, h => ⟨p, k, by simpa using h.symm, rfl, a⟩
  | k :: ws, p :: ps, .cons a t, i + 1, x, h => by
    obtain ⟨p', k', e1, e2, e3⟩ := paired_get t i x (by simpa using h)
    exact ⟨p', k', e1, by simpa using e2, e3⟩
theorem WsAt.tu {H H' : Hp} (h : Tu H H') {ks : List Wr} {ps : List Addr} (s : WsAt H ks ps) : WsAt H' ks ps := paired_imp (fun _ _ e => h _ _ e) s
theorem pl_get {H : Hp} {ls : List Plc} {ps : List Addr} (s : WsAt H (ls.map plK) ps) (i : Nat) (v : V) (h : (ps.map V.ref)[i]? = some v) : ∃ p x, v = .ref p ∧ ls[i]? = some x ∧ H p = some (.tup [.str x.1.s, .int (x.2 : Int)]) := by
  obtain ⟨p, k, e1, e2, e3⟩ := paired_get s i v h
  rw [List.getElem?_map] at e2
  obtain ⟨x, ex, rfl⟩ := Option.map_eq_some_iff.mp e2
  exact ⟨p, x, e1, ex, e3⟩
structure Tb where
  ls : List Plc
  bits : Int
def room (n : Nat) : Int := [2, 4, 16, 256, 65536].getD n 2
structure Tb.ok (a b c : Nat) (t : Tb) : Prop where
  l4 : t.ls.length ≤ 4
  lo : ∀ p ∈ t.ls, p.2 < lim a b c p.1
  b0 : 0 ≤ t.bits
  b1 : t.bits < room t.ls.length
structure Kp where
  f : Bool
  pl : Plc
def TbL (ex : List Addr) (H : Hp) (t : Tb) (p : Addr) : Prop := ∃ (lp : Addr) (ps : List Addr), lp ∉ ex ∧ H p = some (.tup [.ref lp, .int t.bits]) ∧ H lp = some (.lst (ps.map V.ref)) ∧ WsAt H (t.ls.map plK) ps
def TbT (H : Hp) (t : Tb) (p : Addr) : Prop := ∃ (lp : Addr) (ps : List Addr), H p = some (.tup [.ref lp, .int t.bits]) ∧ H lp = some (.tup (ps.map V.ref)) ∧ WsAt H (t.ls.map plK) ps
def KpAt (H : Hp) (k : Kp) (p : Addr) : Prop := ∃ pp, H p = some (.tup [bV k.f, .ref pp]) ∧ H pp = some (.tup [.str k.pl.1.s, .int (k.pl.2 : Int)])
structure Kl (ex : List Addr) (H H' : Hp) : Prop where
  t : Tu H H'
  l : ∀ p xs, p ∉ ex → H p = some (.lst xs) → H' p = some (.lst xs)
theorem Kl.new {ex : List Addr} {H H' : Hp} (c : Ch [] H H') : Kl ex H H' := ⟨Tu.same c, fun p xs _ h => c.get h (by simp)⟩
theorem Kl.one {ex : List Addr} {H H' : Hp} {b : Addr} {zs : List V} (c : Ch [b] H H') (hb : H b = some (.lst zs)) (m : b ∈ ex) : Kl ex H H' := ⟨Tu.lst c hb, fun p xs n h => c.get h (fun z => n (by rw [List.mem_singleton.mp z]; exact m))⟩
theorem Kl.trans {ex : List Addr} {H H1 H2 : Hp} (a : Kl ex H H1) (b : Kl ex H1 H2) : Kl ex H H2 := ⟨a.t.trans b.t, fun p xs n h => b.l p xs n (a.l p xs n h)⟩
theorem TbL.kl {ex : List Addr} {H H' : Hp} (k : Kl ex H H') {t : Tb} {p : Addr} (s : TbL ex H t p) : TbL ex H' t p := let ⟨lp, ps, n, a, b, w⟩ := s; ⟨lp, ps, n, k.t _ _ a, k.l _ _ n b, WsAt.tu k.t w⟩
theorem KpAt.tu {H H' : Hp} (k : Tu H H') {t : Kp} {p : Addr} (s : KpAt H t p) : KpAt H' t p := let ⟨pp, a, b⟩ := s; ⟨pp, k _ _ a, k _ _ b⟩
def PX (xs : List V) : Prop := xs.length ≠ 2 ∨ ∃ w n, xs = [.str w, .int n]
def inB (o : Option V) (n : Int) : Bool := match o with
  | some (.int m) => decide (0 ≤ n) && decide (n < m)
  | _ => false
def plB (a b c : Nat) : List V → Bool
  | [.str w, .int n] => inB (valV (cntK a b c) (.inr w)) n
  | _ => false
theorem plB_odd {a b c : Nat} {xs : List V} (h : xs.length ≠ 2) : plB a b c xs = false := by
  unfold plB
  split
  · exact absurd rfl h
  · rfl
theorem cnt_int {a b c : Nat} {k : Key} {v : V} (h : valV (cntK a b c) k = some v) : ∃ m, v = .int m := by
  unfold valV at h
  obtain ⟨kv, e, rfl⟩ := Option.map_eq_some_iff.mp h
  have := List.mem_of_find?_eq_some e
  simp only [cntK, List.mem_cons, List.not_mem_nil, or_false] at this
  rcases this with rfl | rfl | rfl <;> exact ⟨_, rfl⟩
abbrev PgAt (H : Hp) (xs : List V) (p : Addr) : Prop := H p = some (.tup xs) ∧ PX xs
inductive TG
  | odd
  | tb (ls : List (List V)) (bits : Int)
def rm (n : Nat) : Int := 1 * 2 ^ (1 * 2 ^ ((n : Nat) : Int).toNat : Int).toNat
def tgB (a b c : Nat) : TG → Bool
  | .odd => false
  | .tb ls bits => decide (ls.length ≤ 4) && (belB (.int bits) (rm ls.length) && ls.all (plB a b c))
inductive KG
  | odd
  | kp (f : Int) (pl : List V)
def kgB (a b c : Nat) : KG → Bool
  | .odd => false
  | .kp f pl => belB (.int f) 2 && plB a b c pl
def TgAt (kd : SK) (H : Hp) (t : TG) (p : Addr) : Prop := match t with
  | .odd => ∃ ys, H p = some (.tup ys) ∧ ys.length ≠ 2
  | .tb ls bits => ∃ lp ps, H p = some (.tup [.ref lp, .int bits]) ∧ SqX kd H lp (ps.map V.ref) ∧ Paired (PgAt H) ls ps
def KgAt (H : Hp) (t : KG) (p : Addr) : Prop := match t with
  | .odd => ∃ ys, H p = some (.tup ys) ∧ ys.length ≠ 2
  | .kp f pl => ∃ pp, H p = some (.tup [.int f, .ref pp]) ∧ PgAt H pl pp
theorem SqX.sq {kd : SK} {K : PySem.W.Frag} {H : Hp} {a : Addr} {xs : List V} (h : SqX kd H a xs) : Sq kd K H a xs := by
  cases kd with
  | list => exact SqL.of h
  | tuple => exact SqT.of h
theorem SqX.or {kd : SK} {K : PySem.W.Frag} {H : Hp} {a : Addr} {xs : List V} (h : SqX kd H a xs) : SqL K H a xs ∨ SqT K H a xs := by
  cases kd with
  | list => exact .inl (SqL.of h)
  | tuple => exact .inr (SqT.of h)
theorem len_two {xs : List V} (h : ¬(!decide (V.int (xs.length : Int) = V.int 2)) = true) : xs.length = 2 := by
  have : (xs.length : Int) = 2 := by simpa using h
  omega
theorem PgAt.tu {H H' : Hp} (k : Tu H H') {xs : List V} {p : Addr} (s : PgAt H xs p) : PgAt H' xs p := ⟨k _ _ s.1, s.2⟩
theorem TgAt.ch {kd : SK} {H H' : Hp} (c : Ch [] H H') {t : TG} {p : Addr} (s : TgAt kd H t p) : TgAt kd H' t p := by
  cases t with
  | odd => obtain ⟨ys, h, n⟩ := s; exact ⟨ys, c.get h (by simp), n⟩
  | tb ls bits => obtain ⟨lp, ps, h, q, w⟩ := s; exact ⟨lp, ps, c.get h (by simp), q.ch c, paired_imp (fun _ _ e => PgAt.tu (Tu.same c) e) w⟩
theorem KgAt.tu {H H' : Hp} (k : Tu H H') {t : KG} {p : Addr} (s : KgAt H t p) : KgAt H' t p := by
  cases t with
  | odd => obtain ⟨ys, h, n⟩ := s; exact ⟨ys, k _ _ h, n⟩
  | kp f pl => obtain ⟨pp, h, q⟩ := s; exact ⟨pp, k _ _ h, q.tu k⟩
section
variable {P : Program} {w : World} {K : PySem.W.Frag} {mg : Str → Option Value} {base : Heap} {f : Addr} {fd : FuncData} {k : Nat}
theorem bo_isinstance : bootBuiltins "isinstance" = some (.builtin "isinstance") := by decide +kernel
theorem bo_bool : bootBuiltins "bool" = some (.type "bool") := by decide +kernel
theorem nn_bool : ("bool" : Str) ≠ "__name__" := by decide +kernel
theorem gd_bool : Nd "bool" := by decide +kernel
theorem nn_isinstance : ("isinstance" : Str) ≠ "__name__" := by decide +kernel
theorem gd_isinstance : Nd "isinstance" := by decide +kernel
theorem bo_int : bootBuiltins "int" = some (.type "int") := by decide +kernel
theorem nn_int : ("int" : Str) ≠ "__name__" := by decide +kernel
theorem gd_int : Nd "int" := by decide +kernel
theorem gd_is_whole : Nd "is_whole" := by decide +kernel
theorem bo_tuple : bootBuiltins "tuple" = some (.type "tuple") := by decide +kernel
theorem nn_tuple : ("tuple" : Str) ≠ "__name__" := by decide +kernel
theorem gd_tuple : Nd "tuple" := by decide +kernel
theorem bo_list : bootBuiltins "list" = some (.type "list") := by decide +kernel
theorem nn_list : ("list" : Str) ≠ "__name__" := by decide +kernel
theorem gd_list : Nd "list" := by decide +kernel
theorem bo_str : bootBuiltins "str" = some (.type "str") := by decide +kernel
theorem nn_str : ("str" : Str) ≠ "__name__" := by decide +kernel
theorem gd_str : Nd "str" := by decide +kernel
theorem nn_len : ("len" : Str) ≠ "__name__" := by decide +kernel
theorem gd_len : Nd "len" := by decide +kernel
theorem gd_is_below : Nd "is_below" := by decide +kernel
theorem gd_is_listed : Nd "is_listed" := by decide +kernel
theorem bo_all : bootBuiltins "all" = some (.builtin "all") := by decide +kernel
theorem gd_is_place : Nd "is_place" := by decide +kernel
theorem nn_all : ("all" : Str) ≠ "__name__" := by decide +kernel
theorem gd_all : Nd "all" := by decide +kernel
theorem g14_isinstance : Gi (defScope (top 14)) "isinstance" := by decide +kernel
theorem v14_0 : Vs (defScope (top 14)) "thing" := by decide +kernel
theorem d14_0 : Nd "thing" := by decide +kernel
theorem c14_0 : Nc "thing" := by decide +kernel
theorem g14_bool : Gi (defScope (top 14)) "bool" := by decide +kernel
theorem g14_int : Gi (defScope (top 14)) "int" := by decide +kernel
def spWholeG : Sp := fun vs H Q _ => ∃ v : V, vs = [v] ∧ Th H v ∧ Q (.bl (isI v)) H
theorem scWhole : FnScope ["thing"] ["thing"] (defScope (top 14)) := ⟨rfl, rfl, rfl, by decide +kernel, rfl, by decide +kernel, by decide +kernel⟩
theorem ok_wholeG (F : Fun K "is_whole" "is_whole" (top 14) f fd) (z_isinstance : mg "isinstance" = none) (z_int : mg "int" = none) (z_bool : mg "bool" = none) : FnOk P w K mg base CX0 (k + 1) f fd ["thing"] spWholeG := by
  have nd := scWhole.nd
  refine F.ok scWhole (fun vs H Q E h => by obtain ⟨i, rfl, _⟩ := h; rfl) (fun cdv A outer s H vs Q E hr h => ?_)
  obtain ⟨v, rfl, t, q⟩ := h
  refine ⟨_, (Pr.h (qpss_one (qps_ret (qpe_and (qpe_callB call_isT g14_isinstance z_isinstance bo_isinstance (qpa_cons (qpe_var (i := 0) rfl v14_0 d14_0 c14_0) (qpa_cons (qpe_bltn (v := .ty "int") g14_int z_int bo_int rfl nn_int gd_int) qpa_nil)) nn_isinstance gd_isinstance) (qpe_one (qpe_not (qpe_callB call_isT g14_isinstance z_isinstance bo_isinstance (qpa_cons (qpe_var (i := 0) rfl v14_0 d14_0 c14_0) (qpa_cons (qpe_bltn (v := .ty "bool") g14_bool z_bool bo_bool rfl nn_bool gd_bool) qpa_nil)) nn_isinstance gd_isinstance))))))), ?_⟩
  (try dsimp only [cxOf])
  cases t with
  | int i => walk_at "rd"; exact q
  | non => walk_at "rd"; exact q
  | bl b => walk_at "rd"; exact q
  | str x => walk_at "rd"; exact q
def spWhole : Sp := fun vs H Q _ => ∃ i : Int, vs = [.int i] ∧ Q (.bl true) H
theorem v15_0 : Vs (defScope (top 15)) "thing" := by decide +kernel
theorem d15_0 : Nd "thing" := by decide +kernel
theorem c15_0 : Nc "thing" := by decide +kernel
theorem v15_1 : Vs (defScope (top 15)) "bound" := by decide +kernel
theorem d15_1 : Nd "bound" := by decide +kernel
theorem c15_1 : Nc "bound" := by decide +kernel
theorem g15_is_whole : Gi (defScope (top 15)) "is_whole" := by decide +kernel
def spBelowG : Sp := fun vs H Q _ => ∃ (v : V) (b : Int), vs = [v, .int b] ∧ Th H v ∧ Q (.bl (belB v b)) H
theorem scBelow : FnScope ["thing", "bound"] ["thing", "bound"] (defScope (top 15)) := ⟨rfl, rfl, rfl, by decide +kernel, rfl, by decide +kernel, by decide +kernel⟩
theorem ok_belowG (F : Fun K "is_below" "is_below" (top 15) f fd) (Dis_whole : DefOk P w K mg base CX0 k "is_whole" ["thing"] spWholeG) : FnOk P w K mg base CX0 (k + 1) f fd ["thing", "bound"] spBelowG := by
  have nd := scBelow.nd
  refine F.ok scBelow (fun vs H Q E h => by obtain ⟨v, b, rfl, _⟩ := h; rfl) (fun cdv A outer s H vs Q E hr h => ?_)
  obtain ⟨v, b, rfl, t, q⟩ := h
  refine ⟨_, (Pr.h (qpss_one (qps_ret (qpe_and (qpe_callD Dis_whole hr g15_is_whole pass0 (qpa_cons (qpe_var (i := 0) rfl v15_0 d15_0 c15_0) qpa_nil se_Name) gd_is_whole) (qpe_one (qpe_chain op_le op_lt qpe_int (qpe_var (i := 0) rfl v15_0 d15_0 c15_0) (qpe_var (i := 1) rfl v15_1 d15_1 c15_1))))))), ?_⟩
  (try dsimp only [cxOf])
  refine ⟨_, rfl, _, rfl, t, ?_⟩
  cases t with
  | int i =>
    walk_at "rd"
    refine ite2 (fun h0 => ?_) (fun h0 => ?_)
    · walk_at "rd"
      have h0 : 0 ≤ i := by simpa using h0
      have e : belB (.int i) b = decide (i < b) := by show (decide (0 ≤ i) && decide (i < b)) = _; rw [decide_eq_true h0, Bool.true_and]
      rw [e] at q
      exact q
    · have h0 : ¬ 0 ≤ i := by simpa using h0
      have e : belB (.int i) b = false := by show (decide (0 ≤ i) && decide (i < b)) = _; rw [decide_eq_false h0, Bool.false_and]
      rw [e] at q
      walk_at "rd"
      all_goals first | exact q | (rw [decide_eq_false h0]; exact q)
  | non => walk_at "rd"; exact q
  | bl b => walk_at "rd"; exact q
  | str x => walk_at "rd"; exact q
def spBelow : Sp := fun vs H Q _ => ∃ i b : Int, vs = [.int i, .int b] ∧ 0 ≤ i ∧ i < b ∧ Q (.bl true) H
theorem g16_tuple : Gi (defScope (top 16)) "tuple" := by decide +kernel
theorem g16_list : Gi (defScope (top 16)) "list" := by decide +kernel
theorem g16_isinstance : Gi (defScope (top 16)) "isinstance" := by decide +kernel
theorem v16_0 : Vs (defScope (top 16)) "thing" := by decide +kernel
theorem d16_0 : Nd "thing" := by decide +kernel
theorem c16_0 : Nc "thing" := by decide +kernel
def spListed : Sp := fun vs H Q _ => ∃ (kd : SK) (a : Addr) (xs : List V), vs = [.ref a] ∧ SqX kd H a xs ∧ ∀ H', Ch [] H H' → Q (.bl true) H'
theorem scListed : FnScope ["thing"] ["thing"] (defScope (top 16)) := ⟨rfl, rfl, rfl, by decide +kernel, rfl, by decide +kernel, by decide +kernel⟩
theorem ok_listed (F : Fun K "is_listed" "is_listed" (top 16) f fd) (z_isinstance : mg "isinstance" = none) (z_list : mg "list" = none) (z_tuple : mg "tuple" = none) : FnOk P w K mg base CX0 (k + 1) f fd ["thing"] spListed := by
  have nd := scListed.nd
  refine F.ok scListed (fun vs H Q E h => by obtain ⟨kd, a, xs, rfl, _⟩ := h; rfl) (fun cdv A outer s H vs Q E hr h => ?_)
  obtain ⟨kd, a, xs, rfl, hx, q⟩ := h
  refine ⟨_, (Pr.h (qpss_one (qps_ret (qpe_callB call_isT2 g16_isinstance z_isinstance bo_isinstance (qpa_cons (qpe_var (i := 0) rfl v16_0 d16_0 c16_0) (qpa_cons (qpe_tup (qpa_cons (qpe_bltn (v := .ty "list") g16_list z_list bo_list rfl nn_list gd_list) (qpa_cons (qpe_bltn (v := .ty "tuple") g16_tuple z_tuple bo_tuple rfl nn_tuple gd_tuple) qpa_nil se_Name) se_Name)) qpa_nil)) nn_isinstance gd_isinstance)))), ?_⟩
  (try dsimp only [cxOf])
  cases kd with
  | list =>
    have hx : H a = some (.lst xs) := hx
    walk_at "rd"
    exact q _ (Ch.new (by assumption) _)
  | tuple =>
    have hx : H a = some (.tup xs) := hx
    walk_at "rd"
    exact q _ (Ch.new (by assumption) _)
theorem g17_isinstance : Gi (defScope (top 17)) "isinstance" := by decide +kernel
theorem v17_0 : Vs (defScope (top 17)) "thing" := by decide +kernel
theorem d17_0 : Nd "thing" := by decide +kernel
theorem c17_0 : Nc "thing" := by decide +kernel
theorem g17_str : Gi (defScope (top 17)) "str" := by decide +kernel
theorem g17_len : Gi (defScope (top 17)) "len" := by decide +kernel
theorem g17_tuple : Gi (defScope (top 17)) "tuple" := by decide +kernel
theorem g17_is_below : Gi (defScope (top 17)) "is_below" := by decide +kernel
theorem v17_1 : Vs (defScope (top 17)) "counts" := by decide +kernel
theorem d17_1 : Nd "counts" := by decide +kernel
theorem c17_1 : Nc "counts" := by decide +kernel
def spPlaceG : Sp := fun vs H Q _ => ∃ (p cd : Addr) (a b c : Nat) (xs : List V), vs = [.ref p, .ref cd] ∧ PgAt H xs p ∧ H cd = some (.dK (cntK a b c)) ∧ Q (.bl (plB a b c xs)) H
theorem scPlace : FnScope ["thing", "counts"] ["thing", "counts"] (defScope (top 17)) := ⟨rfl, rfl, rfl, by decide +kernel, rfl, by decide +kernel, by decide +kernel⟩
theorem ok_placeG (F : Fun K "is_place" "is_place" (top 17) f fd) (Dis_below : DefOk P w K mg base CX0 k "is_below" ["thing", "bound"] spBelowG) (z_isinstance : mg "isinstance" = none) (z_tuple : mg "tuple" = none) (z_str : mg "str" = none) (z_len : mg "len" = none) : FnOk P w K mg base CX0 (k + 1) f fd ["thing", "counts"] spPlaceG := by
  have nd := scPlace.nd
  refine F.ok scPlace (fun vs H Q E h => by obtain ⟨p, cd, a, b, c, x, rfl, _⟩ := h; rfl) (fun cdv A outer s H vs Q E hr h => ?_)
  obtain ⟨p, cd, a, b, c, xs, rfl, ⟨hp, px⟩, hc, q⟩ := h
  have hu := hu_of hr
  refine ⟨_, (Pr.h (qpss_cons (qps_if (qPW_pt (qpw_or (qpt_not (qpt_val (qpe_callB call_isT g17_isinstance z_isinstance bo_isinstance (qpa_cons (qpe_var (i := 0) rfl v17_0 d17_0 c17_0) (qpa_cons (qpe_bltn (v := .ty "tuple") g17_tuple z_tuple bo_tuple rfl nn_tuple gd_tuple) qpa_nil)) nn_isinstance gd_isinstance))) (qpw_or (qpt_cmpR op_ne (qpe_callB call_len_seq g17_len z_len PySem.boot_len (qpa_cons (qpe_var (i := 0) rfl v17_0 d17_0 c17_0) qpa_nil se_Name) nn_len gd_len) qpe_int (nomark _)) (qpw_or1 (qpt_not (qpt_val (qpe_callB call_isT g17_isinstance z_isinstance bo_isinstance (qpa_cons (qpe_ix ixa_tup (qpe_var (i := 0) rfl v17_0 d17_0 c17_0) qpe_int (fun _ _ => rfl)) (qpa_cons (qpe_bltn (v := .ty "str") g17_str z_str bo_str rfl nn_str gd_str) qpa_nil)) nn_isinstance gd_isinstance)))))))
  (qpss_one (qps_ret qpe_bl))
  qpss_nil)
 (qpss_one (qps_ret (qpe_and (qpe_din hu (qpe_ix ixa_tup (qpe_var (i := 0) rfl v17_0 d17_0 c17_0) qpe_int (fun _ _ => rfl)) (qpe_var (i := 1) rfl v17_1 d17_1 c17_1)) (qpe_one (qpe_callD Dis_below hr g17_is_below pass0 (qpa_cons (qpe_ix ixa_tup (qpe_var (i := 0) rfl v17_0 d17_0 c17_0) qpe_int (fun _ _ => rfl)) (qpa_cons (qpe_dgetT hu (qpe_var (i := 1) rfl v17_1 d17_1 c17_1) (qpe_ix ixa_tup (qpe_var (i := 0) rfl v17_0 d17_0 c17_0) qpe_int (fun _ _ => rfl)) (fun _ _ => rfl)) qpa_nil se_Subscript) se_Subscript) gd_is_below))))))), ?_⟩
  (try dsimp only [cxOf])
  rcases px with hx | ⟨w, n, rfl⟩
  · rw [plB_odd hx] at q
    walk_at "rd"
    refine ite2 (fun _ => ?_) (fun h2 => absurd (len_two h2) hx)
    walk_at "rd"
    exact q
  · have q : Q (.bl (inB (valV (cntK a b c) (.inr w)) n)) H := q
    cases cv : valV (cntK a b c) (.inr w) with
    | none =>
      rw [cv] at q
      walk_at "rd"
      exact q
    | some v =>
      obtain ⟨m, rfl⟩ := cnt_int cv
      rw [cv] at q
      have t : Th H (.int n) := .int n
      walk_at "rd"
      exact q
theorem g19_len : Gi (defScope (top 19)) "len" := by decide +kernel
theorem v19_0 : Vs (defScope (top 19)) "thing" := by decide +kernel
theorem d19_0 : Nd "thing" := by decide +kernel
theorem c19_0 : Nc "thing" := by decide +kernel
theorem g19_is_listed : Gi (defScope (top 19)) "is_listed" := by decide +kernel
theorem g19_isinstance : Gi (defScope (top 19)) "isinstance" := by decide +kernel
theorem g19_tuple : Gi (defScope (top 19)) "tuple" := by decide +kernel
theorem g19_all : Gi (defScope (top 19)) "all" := by decide +kernel
def csc19_0 : Scope := { kind := PySem.ScopeKind.function, names := [ (PySem.Str.ofString ".0", PySem.NameKind.local), (PySem.Str.ofString "leaf", PySem.NameKind.local), (PySem.Str.ofString "is_place", PySem.NameKind.globalImplicit), (PySem.Str.ofString "counts", PySem.NameKind.free)], isGenerator := false, isCoroutine := false, more := [] : PySem.Scope }
theorem cok19_0 : CompOk csc19_0 (defScope (top 19)) (["leaf"] : List Str) (["thing", "counts"] : List Str) [1] (["leaf", "counts"] : List Str) := compOk rfl (by decide +kernel) (by decide +kernel) (by decide +kernel) (by decide +kernel) rfl (by decide +kernel)
theorem kq19_0_0 : (relab csc19_0 (defScope (top 19))).names.lookup (Str.ofString "leaf") = some NameKind.local := by decide +kernel
theorem gq19_0_is_place : Gi (relab csc19_0 (defScope (top 19))) "is_place" := by decide +kernel
theorem vq19_0_1 : Vs (relab csc19_0 (defScope (top 19))) "counts" := by decide +kernel
theorem dq19_0_1 : Nd "counts" := by decide +kernel
theorem cq19_0_1 : Nc "counts" := by decide +kernel
theorem vq19_0_0 : Vs (relab csc19_0 (defScope (top 19))) "leaf" := by decide +kernel
theorem dq19_0_0 : Nd "leaf" := by decide +kernel
theorem cq19_0_0 : Nc "leaf" := by decide +kernel
theorem g19_is_below : Gi (defScope (top 19)) "is_below" := by decide +kernel
def spTableG : Sp := fun vs H Q _ => ∃ (kd : SK) (p cd : Addr) (a b c : Nat) (t : TG), vs = [.ref p, .ref cd] ∧ TgAt kd H t p ∧ H cd = some (.dK (cntK a b c)) ∧ ∀ H', Ch [] H H' → Q (.bl (tgB a b c t)) H'
theorem scTable : FnScope ["thing", "counts"] ["thing", "counts"] (defScope (top 19)) := ⟨rfl, rfl, rfl, by decide +kernel, rfl, by decide +kernel, by decide +kernel⟩
theorem ok_tableG (F : Fun K "is_table" "is_table" (top 19) f fd) (Dis_below : DefOk P w K mg base CX0 k "is_below" ["thing", "bound"] spBelowG) (Dis_listed : DefOk P w K mg base CX0 k "is_listed" ["thing"] spListed) (Dis_place : DefOk P w K mg base CX0 k "is_place" ["thing", "counts"] spPlaceG) (z_isinstance : mg "isinstance" = none) (z_tuple : mg "tuple" = none) (z_all : mg "all" = none) (z_len : mg "len" = none) : FnOk P w K mg base CX0 (k + 1) f fd ["thing", "counts"] spTableG := by
  have nd := scTable.nd
  refine F.ok scTable (fun vs H Q E h => by obtain ⟨kd, p, cd, a, b, c, t, rfl, _⟩ := h; rfl) (fun cdv A outer s H vs Q E hr h => ?_)
  obtain ⟨kd, p, cd, a, b, c, t, rfl, tg, hc, q⟩ := h
  have hu := hu_of hr
  refine ⟨_, (Pr.h (qpss_cons (qps_if (qPW_pt (qpw_or (qpt_not (qpt_val (qpe_callB call_isT g19_isinstance z_isinstance bo_isinstance (qpa_cons (qpe_var (i := 0) rfl v19_0 d19_0 c19_0) (qpa_cons (qpe_bltn (v := .ty "tuple") g19_tuple z_tuple bo_tuple rfl nn_tuple gd_tuple) qpa_nil)) nn_isinstance gd_isinstance))) (qpw_or (qpt_cmpR op_ne (qpe_callB call_len_seq g19_len z_len PySem.boot_len (qpa_cons (qpe_var (i := 0) rfl v19_0 d19_0 c19_0) qpa_nil se_Name) nn_len gd_len) qpe_int (nomark _)) (qpw_or (qpt_not (qpt_val (qpe_callD Dis_listed hr g19_is_listed pass0 (qpa_cons (qpe_ix ixa_tup (qpe_var (i := 0) rfl v19_0 d19_0 c19_0) qpe_int (fun _ _ => rfl)) qpa_nil se_Subscript) gd_is_listed))) (qpw_or1 (qpt_cmpR op_gt (qpe_callB call_len_seq g19_len z_len PySem.boot_len (qpa_cons (qpe_ix ixa_tup (qpe_var (i := 0) rfl v19_0 d19_0 c19_0) qpe_int (fun _ _ => rfl)) qpa_nil se_Subscript) nn_len gd_len) qpe_int (nomark _)))))))
  (qpss_one (qps_ret qpe_bl))
  qpss_nil)
 (qpss_one (qps_ret (qpe_and (qpe_callD Dis_below hr g19_is_below pass0 (qpa_cons (qpe_ix ixa_tup (qpe_var (i := 0) rfl v19_0 d19_0 c19_0) qpe_int (fun _ _ => rfl)) (qpa_cons (qpe_op op_shl qpe_int (qpe_op op_shl qpe_int (qpe_callB call_len_seq g19_len z_len PySem.boot_len (qpa_cons (qpe_ix ixa_tup (qpe_var (i := 0) rfl v19_0 d19_0 c19_0) qpe_int (fun _ _ => rfl)) qpa_nil se_Subscript) nn_len gd_len))) qpa_nil se_BinOp) se_Subscript) gd_is_below) (qpe_one (qpe_callB (call_all rfl) g19_all z_all bo_all (qpa_cons (qpe_comp rfl cok19_0 (qpi_sqK K rfl kd (qpe_ix ixa_tup (qpe_var (i := 0) rfl v19_0 d19_0 c19_0) qpe_int (fun _ _ => rfl))) (fun _ _ _ _ _ => (qpg_name (i := 0) cok19_0.nd rfl (Or.inl kq19_0_0) (Or.inr kq19_0_0))) (fun _ _ _ _ _ => qpif_nil) (fun _ _ _ _ _ => (qpe_callD Dis_place hr gq19_0_is_place pass0 (qpa_cons (qpe_var (i := 0) rfl vq19_0_0 dq19_0_0 cq19_0_0) (qpa_cons (qpe_var (i := 1) rfl vq19_0_1 dq19_0_1 cq19_0_1) qpa_nil se_Name) se_Name) gd_is_place))) qpa_nil se_ListComp) nn_all gd_all))))))), ?_⟩
  (try dsimp only [cxOf])
  cases t with
  | odd =>
    obtain ⟨ys, hp, hx⟩ := tg
    walk_at "rd"
    refine ite2 (fun _ => ?_) (fun h2 => absurd (len_two h2) hx)
    walk_at "rd"
    exact q _ (Ch.refl _ _)
  | tb ls bits =>
    obtain ⟨lp, ps, hp, hs, ws⟩ := tg
    have ll := Paired.length ws
    walk_at "rd"
    rename_i H1 c1
    have hs1 := hs.ch c1
    have hp1 : H1 p = some (.tup [.ref lp, .int bits]) := c1.get hp (by simp)
    have hc1 : H1 cd = some (.dK (cntK a b c)) := c1.get hc (by simp)
    have ws1 := paired_imp (fun _ _ e => PgAt.tu (Tu.same c1) e) ws
    have so : SqL K H1 lp (ps.map V.ref) ∨ SqT K H1 lp (ps.map V.ref) := hs1.or
    refine ⟨so, ?_⟩
    clear hp hs ws
    by_cases l4 : ls.length ≤ 4
    · walk_at "rd"
      refine ite2 (fun hc => absurd (of_decide_eq_true hc) (by rw [List.length_map]; omega)) (fun _ => ?_)
      have lm : (ps.map V.ref).length = ls.length := by rw [List.length_map, ll]
      have p0 : (0 : Int) ≤ 1 * 2 ^ ((ps.map V.ref).length : Int).toNat := by rw [Int.one_mul]; exact Int.le_of_lt (Int.pow_pos (by decide))
      have p1 : (1 : Int) * 2 ^ ((ps.map V.ref).length : Int).toNat ≤ 16 := by
        rw [Int.toNat_natCast]
        have e5 : (ps.map V.ref).length = 0 ∨ (ps.map V.ref).length = 1 ∨ (ps.map V.ref).length = 2 ∨ (ps.map V.ref).length = 3 ∨ (ps.map V.ref).length = 4 := by omega
        rcases e5 with e | e | e | e | e <;> rw [e] <;> decide
      have tb : Th H1 (.int bits) := .int bits
      have eq : tgB a b c (.tb ls bits) = (belB (.int bits) (1 * 2 ^ (1 * 2 ^ ((ps.map V.ref).length : Int).toNat : Int).toNat) && ls.all (plB a b c)) := by
        show (decide _ && _) = _
        rw [decide_eq_true l4, Bool.true_and, lm]
        rfl
      rw [eq] at q
      clear eq
      walk_at "rd"
      refine ite2 (fun hb => ?_) (fun hb => ?_)
      · rw [hb, Bool.true_and] at q
        clear hb p0 p1 tb
        walk_at "rd"
        refine ⟨⟨_, hs1.sq⟩, ?_⟩
        refine comp_sq (ps.map V.ref) (fun i ys σ H' => H' = H1 ∧ ys = ((ls.take i).map (plB a b c)).map V.bl ∧ ∃ u, σ = [u, some (.ref cd)]) (by rw [sizeLine_eq]; omega) ⟨rfl, rfl, _, rfl⟩ ?_ ?_ ?_
        · rintro i ys σ H' hi ⟨rfl, rfl, _⟩
          exact ⟨by simp; omega, hs1.sq⟩
        · rintro i ys σ H' z hz ⟨rfl, rfl, u, rfl⟩
          obtain ⟨pl, x, rfl, es, e2⟩ := paired_get ws1 i z hz
          walk_at "rd"
          refine ⟨?_, _, rfl⟩
          rw [List.take_add_one, es]; simp
        · rintro ys σ H' ⟨rfl, rfl, _⟩
          rw [lm, List.take_length]
          intro D hD
          refine ⟨D, ls.map (plB a b c), rfl, by rw [upd_same], ?_⟩
          rw [List.all_map]
          exact q _ (c1.trans (Ch.new hD _))
      · rw [Bool.eq_false_iff.mpr hb, Bool.false_and] at q
        exact q _ c1
    · have e0 : tgB a b c (.tb ls bits) = false := by show (decide _ && _) = _; rw [decide_eq_false l4, Bool.false_and]
      rw [e0] at q
      walk_at "rd"
      refine ite2 (fun _ => ?_) (fun hc => absurd (by simp; omega) hc)
      walk_at "rd"
      exact q _ c1
theorem g20_is_place : Gi (defScope (top 20)) "is_place" := by decide +kernel
theorem v20_1 : Vs (defScope (top 20)) "counts" := by decide +kernel
theorem d20_1 : Nd "counts" := by decide +kernel
theorem c20_1 : Nc "counts" := by decide +kernel
theorem v20_0 : Vs (defScope (top 20)) "thing" := by decide +kernel
theorem d20_0 : Nd "thing" := by decide +kernel
theorem c20_0 : Nc "thing" := by decide +kernel
theorem g20_is_below : Gi (defScope (top 20)) "is_below" := by decide +kernel
theorem g20_len : Gi (defScope (top 20)) "len" := by decide +kernel
theorem g20_isinstance : Gi (defScope (top 20)) "isinstance" := by decide +kernel
theorem g20_tuple : Gi (defScope (top 20)) "tuple" := by decide +kernel
def spKeepG : Sp := fun vs H Q _ => ∃ (p cd : Addr) (a b c : Nat) (t : KG), vs = [.ref p, .ref cd] ∧ KgAt H t p ∧ H cd = some (.dK (cntK a b c)) ∧ Q (.bl (kgB a b c t)) H
theorem scKeep : FnScope ["thing", "counts"] ["thing", "counts"] (defScope (top 20)) := ⟨rfl, rfl, rfl, by decide +kernel, rfl, by decide +kernel, by decide +kernel⟩
theorem ok_keepG (F : Fun K "is_keep" "is_keep" (top 20) f fd) (Dis_below : DefOk P w K mg base CX0 k "is_below" ["thing", "bound"] spBelowG) (Dis_place : DefOk P w K mg base CX0 k "is_place" ["thing", "counts"] spPlaceG) (z_isinstance : mg "isinstance" = none) (z_tuple : mg "tuple" = none) (z_len : mg "len" = none) : FnOk P w K mg base CX0 (k + 1) f fd ["thing", "counts"] spKeepG := by
  have nd := scKeep.nd
  refine F.ok scKeep (fun vs H Q E h => by obtain ⟨p, cd, a, b, c, t, rfl, _⟩ := h; rfl) (fun cdv A outer s H vs Q E hr h => ?_)
  obtain ⟨p, cd, a, b, c, t, rfl, kg, hc, q⟩ := h
  refine ⟨_, (Pr.h (qpss_one (qps_ret (qpe_and (qpe_callB call_isT g20_isinstance z_isinstance bo_isinstance (qpa_cons (qpe_var (i := 0) rfl v20_0 d20_0 c20_0) (qpa_cons (qpe_bltn (v := .ty "tuple") g20_tuple z_tuple bo_tuple rfl nn_tuple gd_tuple) qpa_nil)) nn_isinstance gd_isinstance) (qpe_and (qpe_cmpR op_eq (qpe_callB call_len_seq g20_len z_len PySem.boot_len (qpa_cons (qpe_var (i := 0) rfl v20_0 d20_0 c20_0) qpa_nil se_Name) nn_len gd_len) qpe_int (nomark _)) (qpe_and (qpe_callD Dis_below hr g20_is_below pass0 (qpa_cons (qpe_ix ixa_tup (qpe_var (i := 0) rfl v20_0 d20_0 c20_0) qpe_int (fun _ _ => rfl)) (qpa_cons qpe_int qpa_nil se_Constant) se_Subscript) gd_is_below) (qpe_one (qpe_callD Dis_place hr g20_is_place pass0 (qpa_cons (qpe_ix ixa_tup (qpe_var (i := 0) rfl v20_0 d20_0 c20_0) qpe_int (fun _ _ => rfl)) (qpa_cons (qpe_var (i := 1) rfl v20_1 d20_1 c20_1) qpa_nil se_Name) se_Subscript) gd_is_place)))))))), ?_⟩
  (try dsimp only [cxOf])
  cases t with
  | odd =>
    obtain ⟨ys, hp, hx⟩ := kg
    walk_at "rd"
    refine ite2 (fun h2 => absurd (by have : (ys.length : Int) = 2 := by simpa using h2
                                      omega) hx) (fun h2 => ?_)
    walk_at "rd"
    all_goals first | exact q | (rw [Bool.eq_false_iff.mpr h2]; exact q)
  | kp fb pl =>
    obtain ⟨pp, hp, pg⟩ := kg
    have t : Th H (.int fb) := .int fb
    have q : Q (.bl (belB (.int fb) 2 && plB a b c pl)) H := q
    walk_at "rd"
    refine ite2 (fun hb => ?_) (fun hb => ?_)
    · rw [hb, Bool.true_and] at q
      walk_at "rd"
    · rw [Bool.eq_false_iff.mpr hb, Bool.false_and] at q
      exact q
end
end

section
structure AskAt (kd : SK) (H : Hp) (tl kl ol : Addr) (tgs : List TG) (kgs : List KG) (ogs : List (List V)) : Prop where
  t : ∃ ps, SqX kd H tl (ps.map V.ref) ∧ Paired (TgAt kd H) tgs ps
  k : ∃ ps, SqX kd H kl (ps.map V.ref) ∧ Paired (KgAt H) kgs ps
  o : ∃ ps, SqX kd H ol (ps.map V.ref) ∧ Paired (PgAt H) ogs ps
  lt : tgs.length ≤ 20
  lk : kgs.length ≤ 20
  lo : ogs.length ≤ 20
structure AOk (ins : Nat) (tgs : List TG) (kgs : List KG) (ogs : List (List V)) : Prop where
  t : ∀ (i : Nat) (t : TG), tgs[i]? = some t → tgB ins kgs.length i t = true
  k : ∀ x ∈ kgs, kgB ins kgs.length tgs.length x = true
  o : ∀ x ∈ ogs, plB ins kgs.length tgs.length x = true
section
variable {P : Program} {w : World} {K : PySem.W.Frag} {mg : Str → Option Value} {base : Heap} {f : Addr} {fd : FuncData} {k : Nat}
theorem gd_NoTables : Nd "NoTables" := by decide +kernel
theorem gd_is_table : Nd "is_table" := by decide +kernel
theorem gd_is_keep : Nd "is_keep" := by decide +kernel
theorem v21_0 : Vs (defScope (top 21)) "ins" := by decide +kernel
theorem d21_0 : Nd "ins" := by decide +kernel
theorem c21_0 : Nc "ins" := by decide +kernel
theorem g21_is_whole : Gi (defScope (top 21)) "is_whole" := by decide +kernel
theorem g21_NoTables : Gi (defScope (top 21)) "NoTables" := by decide +kernel
theorem g21_is_listed : Gi (defScope (top 21)) "is_listed" := by decide +kernel
theorem v21_3 : Vs (defScope (top 21)) "outs" := by decide +kernel
theorem d21_3 : Nd "outs" := by decide +kernel
theorem c21_3 : Nc "outs" := by decide +kernel
theorem v21_2 : Vs (defScope (top 21)) "keeps" := by decide +kernel
theorem d21_2 : Nd "keeps" := by decide +kernel
theorem c21_2 : Nc "keeps" := by decide +kernel
theorem v21_1 : Vs (defScope (top 21)) "tables" := by decide +kernel
theorem d21_1 : Nd "tables" := by decide +kernel
theorem c21_1 : Nc "tables" := by decide +kernel
theorem l21_4 : Lc (defScope (top 21)) "counts" := by decide +kernel
theorem g21_len : Gi (defScope (top 21)) "len" := by decide +kernel
theorem g21_enumerate : Gi (defScope (top 21)) "enumerate" := by decide +kernel
theorem l21_6 : Lc (defScope (top 21)) "table" := by decide +kernel
theorem l21_5 : Lc (defScope (top 21)) "number" := by decide +kernel
theorem g21_is_table : Gi (defScope (top 21)) "is_table" := by decide +kernel
theorem v21_5 : Vs (defScope (top 21)) "number" := by decide +kernel
theorem d21_5 : Nd "number" := by decide +kernel
theorem c21_5 : Nc "number" := by decide +kernel
theorem v21_6 : Vs (defScope (top 21)) "table" := by decide +kernel
theorem d21_6 : Nd "table" := by decide +kernel
theorem c21_6 : Nc "table" := by decide +kernel
theorem g21_all : Gi (defScope (top 21)) "all" := by decide +kernel
def csc21_0 : Scope := { kind := PySem.ScopeKind.function, names := [ (PySem.Str.ofString ".0", PySem.NameKind.local), (PySem.Str.ofString "keep", PySem.NameKind.local), (PySem.Str.ofString "is_keep", PySem.NameKind.globalImplicit), (PySem.Str.ofString "counts", PySem.NameKind.free)], isGenerator := false, isCoroutine := false, more := [] : PySem.Scope }
theorem cok21_0 : CompOk csc21_0 (defScope (top 21)) (["keep"] : List Str) (["ins", "tables", "keeps", "outs", "counts", "number", "table"] : List Str) [4] (["keep", "counts"] : List Str) := compOk rfl (by decide +kernel) (by decide +kernel) (by decide +kernel) (by decide +kernel) rfl (by decide +kernel)
theorem kq21_0_0 : (relab csc21_0 (defScope (top 21))).names.lookup (Str.ofString "keep") = some NameKind.local := by decide +kernel
theorem gq21_0_is_keep : Gi (relab csc21_0 (defScope (top 21))) "is_keep" := by decide +kernel
theorem vq21_0_1 : Vs (relab csc21_0 (defScope (top 21))) "counts" := by decide +kernel
theorem dq21_0_1 : Nd "counts" := by decide +kernel
theorem cq21_0_1 : Nc "counts" := by decide +kernel
theorem vq21_0_0 : Vs (relab csc21_0 (defScope (top 21))) "keep" := by decide +kernel
theorem dq21_0_0 : Nd "keep" := by decide +kernel
theorem cq21_0_0 : Nc "keep" := by decide +kernel
def csc21_1 : Scope := { kind := PySem.ScopeKind.function, names := [ (PySem.Str.ofString ".0", PySem.NameKind.local), (PySem.Str.ofString "out", PySem.NameKind.local), (PySem.Str.ofString "is_place", PySem.NameKind.globalImplicit), (PySem.Str.ofString "counts", PySem.NameKind.free)], isGenerator := false, isCoroutine := false, more := [] : PySem.Scope }
theorem cok21_1 : CompOk csc21_1 (defScope (top 21)) (["out"] : List Str) (["ins", "tables", "keeps", "outs", "counts", "number", "table"] : List Str) [4] (["out", "counts"] : List Str) := compOk rfl (by decide +kernel) (by decide +kernel) (by decide +kernel) (by decide +kernel) rfl (by decide +kernel)
theorem kq21_1_0 : (relab csc21_1 (defScope (top 21))).names.lookup (Str.ofString "out") = some NameKind.local := by decide +kernel
theorem gq21_1_is_place : Gi (relab csc21_1 (defScope (top 21))) "is_place" := by decide +kernel
theorem vq21_1_1 : Vs (relab csc21_1 (defScope (top 21))) "counts" := by decide +kernel
theorem dq21_1_1 : Nd "counts" := by decide +kernel
theorem cq21_1_1 : Nc "counts" := by decide +kernel
theorem vq21_1_0 : Vs (relab csc21_1 (defScope (top 21))) "out" := by decide +kernel
theorem dq21_1_0 : Nd "out" := by decide +kernel
theorem cq21_1_0 : Nc "out" := by decide +kernel
def spAskX (CE : Addr) : Sp := fun vs H Q E => ∃ (kd : SK) (tl kl ol : Addr) (ins : Int) (tgs : List TG) (kgs : List KG) (ogs : List (List V)), vs = [.int ins, .ref tl, .ref kl, .ref ol] ∧ AskAt kd H tl kl ol tgs kgs ogs ∧ (∀ n : Nat, ins = (n : Int) → AOk n tgs kgs ogs → ∀ H', Ch [] H H' → Q .non H') ∧ ((∀ n : Nat, ins = (n : Int) → ¬ AOk n tgs kgs ogs) → ∀ H', Ch [] H H' → E (.ref CE) none H')
theorem scAsk : FnScope ["ins", "tables", "keeps", "outs", "counts", "number", "table"] ["ins", "tables", "keeps", "outs"] (defScope (top 21)) := ⟨rfl, rfl, rfl, by decide +kernel, rfl, by decide +kernel, by decide +kernel⟩
theorem ok_askX {CE : Addr} (F : Fun K "ask_tables" "ask_tables" (top 21) f fd) (Dis_whole : DefOk P w K mg base CX0 k "is_whole" ["thing"] spWholeG) (Dis_listed : DefOk P w K mg base CX0 k "is_listed" ["thing"] spListed) (Dis_table : DefOk P w K mg base CX0 k "is_table" ["thing", "counts"] spTableG) (Dis_keep : DefOk P w K mg base CX0 k "is_keep" ["thing", "counts"] spKeepG) (Dis_place : DefOk P w K mg base CX0 k "is_place" ["thing", "counts"] spPlaceG) (z_len : mg "len" = none) (z_all : mg "all" = none) (z_enumerate : mg "enumerate" = none) (m_NoTables : mg "NoTables" = some (.ref CE)) (X_NoTables : XC K CE) :
    FnOk P w K mg base (CXE P w) (k + 1) f fd ["ins", "tables", "keeps", "outs"] (spAskX CE) := by
  have nd := scAsk.nd
  refine F.okE scAsk (fun vs H Q E h => by obtain ⟨kd, tl, kl, ol, ins, tgs, kgs, ogs, rfl, _⟩ := h; rfl) (fun cdv A outer s H vs Q E hr h => ?_)
  obtain ⟨kd, tl, kl, ol, ins, tgs, kgs, ogs, rfl, dr, q1, q2⟩ := h
  have hu := hu_of hr
  obtain ⟨tps, ht, tt⟩ := dr.t
  obtain ⟨kps, hk, kk⟩ := dr.k
  obtain ⟨ops, ho, oo⟩ := dr.o
  have lt := Paired.length tt
  have lk := Paired.length kk
  have lo := Paired.length oo
  have t12 := dr.lt
  have k12 := dr.lk
  have o12 := dr.lo
  have th : Th H (.int ins) := .int ins
  refine ⟨_, (Pr.h (qpss_cons (qps_if (qPW_pt (qpw_or (qpt_not (qpt_val (qpe_callD Dis_whole hr g21_is_whole pass0 (qpa_cons (qpe_var (i := 0) rfl v21_0 d21_0 c21_0) qpa_nil se_Name) gd_is_whole))) (qpw_or1 (qpt_cmpR op_lt (qpe_var (i := 0) rfl v21_0 d21_0 c21_0) qpe_int (nomark _)))))
  (qpss_one (qps_raiseE g21_NoTables m_NoTables X_NoTables (qpa_cons qpe_str qpa_nil se_Constant) gd_NoTables))
  qpss_nil)
 (qpss_cons (qps_if (qPW_pt (qpw_or (qpt_not (qpt_val (qpe_callD Dis_listed hr g21_is_listed pass0 (qpa_cons (qpe_var (i := 1) rfl v21_1 d21_1 c21_1) qpa_nil se_Name) gd_is_listed))) (qpw_or (qpt_not (qpt_val (qpe_callD Dis_listed hr g21_is_listed pass0 (qpa_cons (qpe_var (i := 2) rfl v21_2 d21_2 c21_2) qpa_nil se_Name) gd_is_listed))) (qpw_or1 (qpt_not (qpt_val (qpe_callD Dis_listed hr g21_is_listed pass0 (qpa_cons (qpe_var (i := 3) rfl v21_3 d21_3 c21_3) qpa_nil se_Name) gd_is_listed)))))))
  (qpss_one (qps_raiseE g21_NoTables m_NoTables X_NoTables (qpa_cons qpe_str qpa_nil se_Constant) gd_NoTables))
  qpss_nil)
 (qpss_cons (qps_set (i := 4) nd rfl l21_4 (qpe_disp (qpps_cons qpe_str (qpe_var (i := 0) rfl v21_0 d21_0 c21_0) (qpps_cons qpe_str (qpe_callB call_len_seq g21_len z_len PySem.boot_len (qpa_cons (qpe_var (i := 2) rfl v21_2 d21_2 c21_2) qpa_nil se_Name) nn_len gd_len) (qpps_cons qpe_str (qpe_callB call_len_seq g21_len z_len PySem.boot_len (qpa_cons (qpe_var (i := 1) rfl v21_1 d21_1 c21_1) qpa_nil se_Name) nn_len gd_len) qpps_nil))) rfl rfl (by intro z; cases z) (by decide)))
 (qpss_cons (qps_loop powE rfl (qpi_enum kd g21_enumerate z_enumerate (qpa_cons (qpe_var (i := 1) rfl v21_1 d21_1 c21_1) qpa_nil se_Name)) (qpg_tup rfl (qpgs_cons (qpg_name (i := 5) nd rfl l21_5) (qpgs_cons (qpg_name (i := 6) nd rfl l21_6) qpgs_nil)))
  (qpss_one (qps_if (qpt_not (qpt_val (qpe_callD Dis_table hr g21_is_table pass0 (qpa_cons (qpe_var (i := 6) rfl v21_6 d21_6 c21_6) (qpa_cons (qpe_disp (qpps_cons qpe_str (qpe_var (i := 0) rfl v21_0 d21_0 c21_0) (qpps_cons qpe_str (qpe_callB call_len_seq g21_len z_len PySem.boot_len (qpa_cons (qpe_var (i := 2) rfl v21_2 d21_2 c21_2) qpa_nil se_Name) nn_len gd_len) (qpps_cons qpe_str (qpe_var (i := 5) rfl v21_5 d21_5 c21_5) qpps_nil))) rfl rfl (by intro z; cases z) (by decide)) qpa_nil se_Dict) se_Name) gd_is_table)))
  (qpss_one (qps_raiseE g21_NoTables m_NoTables X_NoTables (qpa_cons qpe_str qpa_nil se_Constant) gd_NoTables))
  qpss_nil)))
 (qpss_cons (qps_if (qpt_not (qpt_val (qpe_callB (call_all rfl) g21_all z_all bo_all (qpa_cons (qpe_comp rfl cok21_0 (qpi_sqK K rfl kd (qpe_var (i := 2) rfl v21_2 d21_2 c21_2)) (fun _ _ _ _ _ => (qpg_name (i := 0) cok21_0.nd rfl (Or.inl kq21_0_0) (Or.inr kq21_0_0))) (fun _ _ _ _ _ => qpif_nil) (fun _ _ _ _ _ => (qpe_callD Dis_keep hr gq21_0_is_keep pass0 (qpa_cons (qpe_var (i := 0) rfl vq21_0_0 dq21_0_0 cq21_0_0) (qpa_cons (qpe_var (i := 1) rfl vq21_0_1 dq21_0_1 cq21_0_1) qpa_nil se_Name) se_Name) gd_is_keep))) qpa_nil se_ListComp) nn_all gd_all)))
  (qpss_one (qps_raiseE g21_NoTables m_NoTables X_NoTables (qpa_cons qpe_str qpa_nil se_Constant) gd_NoTables))
  qpss_nil)
 (qpss_one (qps_if (qpt_not (qpt_val (qpe_callB (call_all rfl) g21_all z_all bo_all (qpa_cons (qpe_comp rfl cok21_1 (qpi_sqK K rfl kd (qpe_var (i := 3) rfl v21_3 d21_3 c21_3)) (fun _ _ _ _ _ => (qpg_name (i := 0) cok21_1.nd rfl (Or.inl kq21_1_0) (Or.inr kq21_1_0))) (fun _ _ _ _ _ => qpif_nil) (fun _ _ _ _ _ => (qpe_callD Dis_place hr gq21_1_is_place pass0 (qpa_cons (qpe_var (i := 0) rfl vq21_1_0 dq21_1_0 cq21_1_0) (qpa_cons (qpe_var (i := 1) rfl vq21_1_1 dq21_1_1 cq21_1_1) qpa_nil se_Name) se_Name) gd_is_place))) qpa_nil se_ListComp) nn_all gd_all)))
  (qpss_one (qps_raiseE g21_NoTables m_NoTables X_NoTables (qpa_cons qpe_str qpa_nil se_Constant) gd_NoTables))
  qpss_nil)))))))), ?_⟩
  (try dsimp only [cxOf])
  walk_at "rd"
  by_cases h0 : 0 ≤ ins
  · obtain ⟨n, rfl⟩ := Int.eq_ofNat_of_zero_le h0
    refine ite2 (fun hc => absurd (by simpa using hc) (by omega)) (fun _ => ?_)
    walk_at "rd"
    rename_i H1 c1
    refine ⟨hk.ch c1, fun H2 c2 => ?_⟩
    walk_at "rd"
    refine ⟨ho.ch (c1.trans c2), fun H3 c3 => ?_⟩
    have c03 := (c1.trans c2).trans c3
    clear c1 c2 c3 th
    walk_at "rd"
    rename_i cd hcd
    have cn : Ch [] H (upd H3 cd (.dK [])) := c03.trans (Ch.new hcd _)
    refine ⟨(hk.ch cn).or, ?_⟩
    walk_at "rd"
    refine ⟨(ht.ch cn).or, ?_⟩
    walk_at "rd"
    refine ⟨(show _ = List.map (fun kv => (kV kv.1, kv.2)) (cntK n kgs.length tgs.length) from by rw [List.length_map, List.length_map, ← lt, ← lk]; rfl), (by show (3 : Nat) ≤ 15; decide), ?_⟩
    have em : mergeK [] (cntK n kgs.length tgs.length) = cntK n kgs.length tgs.length := rfl
    rw [em]
    have c4 : Ch [] H3 (upd (upd H3 cd (.dK [])) cd (.dK (cntK n kgs.length tgs.length))) := Ch.own hcd (Ch.new hcd _)
    have g4 : (upd (upd H3 cd (.dK [])) cd (.dK (cntK n kgs.length tgs.length))) cd = some (.dK (cntK n kgs.length tgs.length)) := upd_same
    have c04 := c03.trans c4
    generalize upd (upd H3 cd (.dK [])) cd (.dK (cntK n kgs.length tgs.length)) = H4 at c4 g4 c04 ⊢
    clear c4 hcd c03 em cn
    have ht4 := ht.ch c04
    walk_at "rd"
    refine ⟨⟨_, ht4.sq⟩, ?_⟩
    refine loop_enum (xs := tps.map V.ref) (fun i σ H' => Ch [] H4 H' ∧ (∀ (j : Nat) (t : TG), j < i → tgs[j]? = some t → tgB n kgs.length j t = true) ∧ ∃ u v, σ = [some (.int (n : Int)), some (.ref tl), some (.ref kl), some (.ref ol), some (.ref cd), u, v]) ⟨Ch.refl _ _, fun j t h => absurd h (by omega), _, _, rfl⟩ ?_ ?_ ?_
    · rintro i σ H' hi ⟨c, _⟩
      exact (ht4.ch c).sq
    · rintro i x σ H' T hx ⟨c, fa, u, v, rfl⟩ hT
      obtain ⟨p, t, rfl, et, tp⟩ := paired_get tt i x hx
      have cT : Ch [] H (upd H' T (.tup [.int (i : Int), .ref p])) := (c04.trans c).trans (Ch.new hT _)
      have gT : (upd H' T (.tup [.int (i : Int), .ref p])) T = some (.tup [.int (i : Int), .ref p]) := upd_same
      have c4T : Ch [] H4 (upd H' T (.tup [.int (i : Int), .ref p])) := c.trans (Ch.new hT _)
      generalize upd H' T (.tup [.int (i : Int), .ref p]) = H5 at cT gT c4T ⊢
      clear hT c
      walk_at "rd"
      rename_i ce hce
      refine ⟨((hk.ch cT).ch (Ch.new hce _)).or, ?_⟩
      walk_at "rd"
      refine ⟨(show _ = List.map (fun kv => (kV kv.1, kv.2)) (cntK n kgs.length i) from by rw [List.length_map, ← lk]; rfl), (by show (3 : Nat) ≤ 15; decide), ?_⟩
      have em : mergeK [] (cntK n kgs.length i) = cntK n kgs.length i := rfl
      rw [em]
      have c6 : Ch [] H5 (upd (upd H5 ce (.dK [])) ce (.dK (cntK n kgs.length i))) := Ch.own hce (Ch.new hce _)
      refine ⟨kd, p, ce, n, kgs.length, i, t, rfl, tp.ch (cT.trans c6), upd_same, fun H7 c7 => ?_⟩
      have c07 := (cT.trans c6).trans c7
      have c47 := (c4T.trans c6).trans c7
      clear c6 c7 hce cT c4T gT
      walk_at "rd"
      refine ite2 (fun hb => ?_) (fun hb => ?_)
      · walk_at "rd"
        exact q2 (fun n' e ok => by have e' : n = n' := by omega
                                    subst e'
                                    have := ok.t i t et
                                    rw [this] at hb; cases hb) _ c07
      · walk_at "rd"
        refine ⟨fun j t' hj ej => ?_, _, _, rfl⟩
        by_cases hji : j < i
        · exact fa j t' hji ej
        · have : j = i := by omega
          subst this
          rw [et] at ej
          cases ej
          simpa using hb
    rintro σ H5 ⟨c5, fa, u, v, rfl⟩
    have c05 := c04.trans c5
    have g5 := c5.get g4 (by simp)
    clear c04 c5 g4 ht4
    have hk5 := hk.ch c05
    have kk5 := paired_imp (fun _ _ e => KgAt.tu (Tu.same c05) e) kk
    walk_at "rd"
    refine ⟨⟨_, hk5.sq⟩, ?_⟩
    refine comp_sq (kps.map V.ref) (fun i ys σ H' => H' = H5 ∧ ys = ((kgs.take i).map (kgB n kgs.length tgs.length)).map V.bl ∧ ∃ u, σ = [u, some (.ref cd)]) (by rw [sizeLine_eq, List.length_map]; omega) ⟨rfl, rfl, _, rfl⟩ ?_ ?_ ?_
    · rintro i ys σ H' hi ⟨rfl, rfl, _⟩
      exact ⟨by simp; omega, hk5.sq⟩
    · rintro i ys σ H' z hz ⟨rfl, rfl, u, rfl⟩
      obtain ⟨p, t, rfl, et, tp⟩ := paired_get kk5 i z hz
      walk_at "rd"
      refine ⟨?_, _, rfl⟩
      rw [List.take_add_one, et]; simp
    rintro ys σ H' ⟨rfl, rfl, _⟩
    rw [List.length_map, ← lk, List.take_length]
    intro D hD
    refine ⟨D, kgs.map (kgB n kgs.length tgs.length), rfl, by rw [upd_same], ?_⟩
    have c06 : Ch [] H (upd H' D (.lst ((kgs.map (kgB n kgs.length tgs.length)).map V.bl))) := c05.trans (Ch.new hD _)
    have g6 : (upd H' D (.lst ((kgs.map (kgB n kgs.length tgs.length)).map V.bl))) cd = some (.dK (cntK n kgs.length tgs.length)) := g_new hD g5
    generalize upd H' D (.lst ((kgs.map (kgB n kgs.length tgs.length)).map V.bl)) = H6 at c06 g6 ⊢
    clear c05 g5 hk5 hD kk5
    by_cases hA : ∀ x ∈ kgs, kgB n kgs.length tgs.length x = true
    · rw [show (kgs.map (kgB n kgs.length tgs.length)).all id = true from by rw [List.all_map]; exact List.all_eq_true.mpr hA]
      have ho6 := ho.ch c06
      have oo6 := paired_imp (fun _ _ e => PgAt.tu (Tu.same c06) e) oo
      walk_at "rd"
      refine ⟨⟨_, ho6.sq⟩, ?_⟩
      refine comp_sq (ops.map V.ref) (fun i ys σ H' => H' = H6 ∧ ys = ((ogs.take i).map (plB n kgs.length tgs.length)).map V.bl ∧ ∃ u, σ = [u, some (.ref cd)]) (by rw [sizeLine_eq, List.length_map]; omega) ⟨rfl, rfl, _, rfl⟩ ?_ ?_ ?_
      · rintro i ys σ H' hi ⟨rfl, rfl, _⟩
        exact ⟨by simp; omega, ho6.sq⟩
      · rintro i ys σ H' z hz ⟨rfl, rfl, u, rfl⟩
        obtain ⟨p, t, rfl, et, tp⟩ := paired_get oo6 i z hz
        walk_at "rd"
        refine ⟨?_, _, rfl⟩
        rw [List.take_add_one, et]; simp
      rintro ys σ H' ⟨rfl, rfl, _⟩
      rw [List.length_map, ← lo, List.take_length]
      intro D hD
      refine ⟨D, ogs.map (plB n kgs.length tgs.length), rfl, by rw [upd_same], ?_⟩
      have c07 : Ch [] H (upd H' D (.lst ((ogs.map (plB n kgs.length tgs.length)).map V.bl))) := c06.trans (Ch.new hD _)
      generalize upd H' D (.lst ((ogs.map (plB n kgs.length tgs.length)).map V.bl)) = H7 at c07 ⊢
      clear ho6 oo6 hD g6
      by_cases hO : ∀ x ∈ ogs, plB n kgs.length tgs.length x = true
      · rw [show (ogs.map (plB n kgs.length tgs.length)).all id = true from by rw [List.all_map]; exact List.all_eq_true.mpr hO]
        walk_at "rd"
        exact q1 n rfl ⟨fun i t et => fa i t (by have := (List.getElem?_eq_some_iff.mp et).1; rw [List.length_map]; omega) et, hA, hO⟩ _ c07
      · rw [show (ogs.map (plB n kgs.length tgs.length)).all id = false from by rw [List.all_map]; exact Bool.eq_false_iff.mpr fun z => hO (List.all_eq_true.mp z)]
        walk_at "rd"
        exact q2 (fun n' e ok => hO (by have e' : n = n' := by omega
                                        subst e'
                                        exact ok.o)) _ c07
    · rw [show (kgs.map (kgB n kgs.length tgs.length)).all id = false from by rw [List.all_map]; exact Bool.eq_false_iff.mpr fun z => hA (List.all_eq_true.mp z)]
      walk_at "rd"
      exact q2 (fun n' e ok => hA (by have e' : n = n' := by omega
                                      subst e'
                                      exact ok.k)) _ c06
  · refine ite2 (fun _ => ?_) (fun hc => absurd (by simpa using hc) h0)
    walk_at "rd"
    exact q2 (fun n e => absurd (by omega) h0) _ (Ch.refl _ _)
end
end

section
def fldsT (ins : Nat) (tt kt ot : Addr) : List (Str × V) := [("ins", .int (ins : Int)), ("tables", .ref tt), ("keeps", .ref kt), ("outs", .ref ot)]
structure TgT (H : Hp) (tt kt ot : Addr) (tgs : List TG) (kgs : List KG) (ogs : List (List V)) : Prop where
  t : ∃ ps, H tt = some (.tup (ps.map V.ref)) ∧ Paired (TgAt .tuple H) tgs ps
  k : ∃ ps, H kt = some (.tup (ps.map V.ref)) ∧ Paired (KgAt H) kgs ps
  o : ∃ ps, H ot = some (.tup (ps.map V.ref)) ∧ Paired (PgAt H) ogs ps
theorem TgAt.tu {H H' : Hp} (k : Tu H H') {t : TG} {p : Addr} (s : TgAt .tuple H t p) : TgAt .tuple H' t p := by
  cases t with
  | odd => obtain ⟨ys, h, n⟩ := s; exact ⟨ys, k _ _ h, n⟩
  | tb ls bits => obtain ⟨lp, ps, h, q, w⟩ := s; exact ⟨lp, ps, k _ _ h, k _ _ q, paired_imp (fun _ _ e => PgAt.tu k e) w⟩
theorem TgT.tu {H H' : Hp} (k : Tu H H') {tt kt ot : Addr} {tgs : List TG} {kgs : List KG} {ogs : List (List V)} (s : TgT H tt kt ot tgs kgs ogs) : TgT H' tt kt ot tgs kgs ogs :=
  ⟨s.t.imp fun _ h => ⟨k _ _ h.1, paired_imp (fun _ _ e => TgAt.tu k e) h.2⟩, s.k.imp fun _ h => ⟨k _ _ h.1, paired_imp (fun _ _ e => KgAt.tu k e) h.2⟩, s.o.imp fun _ h => ⟨k _ _ h.1, paired_imp (fun _ _ e => PgAt.tu k e) h.2⟩⟩
theorem SqX.ob {kd : SK} {H H' : Hp} {a y C d : Addr} {fs : List (Str × V)} {xs : List V} (h : SqX kd H a xs) (c : Ch [y] H H') (hy : H y = some (.ins C d fs)) : SqX kd H' a xs := by
  cases kd with
  | list => exact c.get h (by simpa using ne_of h hy (by intro z; cases z))
  | tuple => exact c.get h (by simpa using ne_of h hy (by intro z; cases z))
theorem TgAt.ob {kd : SK} {H H' : Hp} {y C d : Addr} {fs : List (Str × V)} {t : TG} {p : Addr} (s : TgAt kd H t p) (c : Ch [y] H H') (hy : H y = some (.ins C d fs)) : TgAt kd H' t p := by
  have k : Tu H H' := Tu.ch c hy (fun _ z => by cases z)
  cases t with
  | odd => obtain ⟨ys, h, n⟩ := s; exact ⟨ys, k _ _ h, n⟩
  | tb ls bits => obtain ⟨lp, ps, h, q, w⟩ := s; exact ⟨lp, ps, k _ _ h, q.ob c hy, paired_imp (fun _ _ e => PgAt.tu k e) w⟩
theorem AskAt.ob {kd : SK} {H H' : Hp} {y C d : Addr} {fs : List (Str × V)} {tl kl ol : Addr} {tgs : List TG} {kgs : List KG} {ogs : List (List V)} (s : AskAt kd H tl kl ol tgs kgs ogs) (c : Ch [y] H H') (hy : H y = some (.ins C d fs)) : AskAt kd H' tl kl ol tgs kgs ogs := by
  have k : Tu H H' := Tu.ch c hy (fun _ z => by cases z)
  exact ⟨s.t.imp fun _ h => ⟨h.1.ob c hy, paired_imp (fun _ _ e => TgAt.ob e c hy) h.2⟩, s.k.imp fun _ h => ⟨h.1.ob c hy, paired_imp (fun _ _ e => KgAt.tu k e) h.2⟩, s.o.imp fun _ h => ⟨h.1.ob c hy, paired_imp (fun _ _ e => PgAt.tu k e) h.2⟩, s.lt, s.lk, s.lo⟩
theorem AskAt.ch {kd : SK} {H H' : Hp} {tl kl ol : Addr} {tgs : List TG} {kgs : List KG} {ogs : List (List V)} (s : AskAt kd H tl kl ol tgs kgs ogs) (c : Ch [] H H') : AskAt kd H' tl kl ol tgs kgs ogs :=
  ⟨s.t.imp fun _ h => ⟨h.1.ch c, paired_imp (fun _ _ e => TgAt.ch c e) h.2⟩, s.k.imp fun _ h => ⟨h.1.ch c, paired_imp (fun _ _ e => KgAt.tu (Tu.same c) e) h.2⟩, s.o.imp fun _ h => ⟨h.1.ch c, paired_imp (fun _ _ e => PgAt.tu (Tu.same c) e) h.2⟩, s.lt, s.lk, s.lo⟩
structure BC (H0 H' : Hp) (ts : List TG) (ys : List V) : Prop where
  c : Ch [] H0 H'
  b : ∃ us : List Addr, ys = us.map V.ref ∧ Paired (TgAt .tuple H') ts us
section
variable {P : Program} {w : World} {K : PySem.W.Frag} {mg : Str → Option Value} {base : Heap} {f : Addr} {fd : FuncData} {k : Nat}
theorem gd_ask_tables : Nd "ask_tables" := by decide +kernel
theorem g22m0_ask_tables : Gi (defScope (inClass (top 22) 0)) "ask_tables" := by decide +kernel
theorem v22m0_4 : Vs (defScope (inClass (top 22) 0)) "outs" := by decide +kernel
theorem d22m0_4 : Nd "outs" := by decide +kernel
theorem c22m0_4 : Nc "outs" := by decide +kernel
theorem v22m0_3 : Vs (defScope (inClass (top 22) 0)) "keeps" := by decide +kernel
theorem d22m0_3 : Nd "keeps" := by decide +kernel
theorem c22m0_3 : Nc "keeps" := by decide +kernel
theorem v22m0_2 : Vs (defScope (inClass (top 22) 0)) "tables" := by decide +kernel
theorem d22m0_2 : Nd "tables" := by decide +kernel
theorem c22m0_2 : Nc "tables" := by decide +kernel
theorem v22m0_1 : Vs (defScope (inClass (top 22) 0)) "ins" := by decide +kernel
theorem d22m0_1 : Nd "ins" := by decide +kernel
theorem c22m0_1 : Nc "ins" := by decide +kernel
theorem v22m0_0 : Vs (defScope (inClass (top 22) 0)) "self" := by decide +kernel
theorem d22m0_0 : Nd "self" := by decide +kernel
theorem c22m0_0 : Nc "self" := by decide +kernel
theorem g22m0_tuple : Gi (defScope (inClass (top 22) 0)) "tuple" := by decide +kernel
def csc22m0_0 : Scope := { kind := PySem.ScopeKind.function, names := [ (PySem.Str.ofString ".0", PySem.NameKind.local), (PySem.Str.ofString "leaves", PySem.NameKind.local), (PySem.Str.ofString "bits", PySem.NameKind.local), (PySem.Str.ofString "tuple", PySem.NameKind.globalImplicit)], isGenerator := false, isCoroutine := false, more := [] : PySem.Scope }
theorem cok22m0_0 : CompOk csc22m0_0 (defScope (inClass (top 22) 0)) (["leaves", "bits"] : List Str) (["self", "ins", "tables", "keeps", "outs"] : List Str) [] (["leaves", "bits"] : List Str) := compOk rfl (by decide +kernel) (by decide +kernel) (by decide +kernel) (by decide +kernel) rfl (by decide +kernel)
theorem kq22m0_0_1 : (relab csc22m0_0 (defScope (inClass (top 22) 0))).names.lookup (Str.ofString "bits") = some NameKind.local := by decide +kernel
theorem kq22m0_0_0 : (relab csc22m0_0 (defScope (inClass (top 22) 0))).names.lookup (Str.ofString "leaves") = some NameKind.local := by decide +kernel
theorem vq22m0_0_1 : Vs (relab csc22m0_0 (defScope (inClass (top 22) 0))) "bits" := by decide +kernel
theorem dq22m0_0_1 : Nd "bits" := by decide +kernel
theorem cq22m0_0_1 : Nc "bits" := by decide +kernel
theorem gq22m0_0_tuple : Gi (relab csc22m0_0 (defScope (inClass (top 22) 0))) "tuple" := by decide +kernel
theorem vq22m0_0_0 : Vs (relab csc22m0_0 (defScope (inClass (top 22) 0))) "leaves" := by decide +kernel
theorem dq22m0_0_0 : Nd "leaves" := by decide +kernel
theorem cq22m0_0_0 : Nc "leaves" := by decide +kernel
def spTabsX (C CE : Addr) : Sp := fun vs H Q E => ∃ (kd : SK) (x dx tl kl ol : Addr) (ins : Int) (tgs : List TG) (kgs : List KG) (ogs : List (List V)), vs = [.ref x, .int ins, .ref tl, .ref kl, .ref ol] ∧ H x = some (.ins C dx []) ∧ AskAt kd H tl kl ol tgs kgs ogs ∧
  (∀ n : Nat, ins = (n : Int) → AOk n tgs kgs ogs → ∀ tt kt ot H', Ch [x] H H' → H' x = some (.ins C dx (fldsT n tt kt ot)) → TgT H' tt kt ot tgs kgs ogs → Q .non H') ∧ ((∀ n : Nat, ins = (n : Int) → ¬ AOk n tgs kgs ogs) → ∀ H', Ch [x] H H' → E (.ref CE) none H')
theorem scTabs : FnScope ["self", "ins", "tables", "keeps", "outs"] ["self", "ins", "tables", "keeps", "outs"] (defScope (inClass (top 22) 0)) := ⟨rfl, rfl, rfl, by decide +kernel, rfl, by decide +kernel, by decide +kernel⟩
theorem ok_TabsX {C CE : Addr} (F : Fun K "__init__" "Tables.__init__" (inClass (top 22) 0) f fd) (cl : Cls K C) (nI : NoAttr K C "ins") (nT : NoAttr K C "tables") (nK : NoAttr K C "keeps") (nO : NoAttr K C "outs") (Dask_tables : DefOk P w K mg base (CXE P w) k "ask_tables" ["ins", "tables", "keeps", "outs"] (spAskX CE)) (z_tuple : mg "tuple" = none) :
    FnOk P w K mg base (CXE P w) (k + 1) f fd ["self", "ins", "tables", "keeps", "outs"] (spTabsX C CE) := by
  have nd := scTabs.nd
  refine F.okE scTabs (fun vs H Q E h => by obtain ⟨kd, x, dx, tl, kl, ol, ins, tgs, kgs, ogs, rfl, _⟩ := h; rfl) (fun cdv A outer s H vs Q E hr h => ?_)
  obtain ⟨kd, x, dx, tl, kl, ol, ins, tgs, kgs, ogs, rfl, hx, dr, q1, q2⟩ := h
  refine ⟨_, (Pr.h (qpss_cons (qps_expr (qpe_callD Dask_tables hr g22m0_ask_tables passE (qpa_cons (qpe_var (i := 1) rfl v22m0_1 d22m0_1 c22m0_1) (qpa_cons (qpe_var (i := 2) rfl v22m0_2 d22m0_2 c22m0_2) (qpa_cons (qpe_var (i := 3) rfl v22m0_3 d22m0_3 c22m0_3) (qpa_cons (qpe_var (i := 4) rfl v22m0_4 d22m0_4 c22m0_4) qpa_nil se_Name) se_Name) se_Name) se_Name) gd_ask_tables))
 (qpss_cons (qps_fld (qpe_var (i := 0) rfl v22m0_0 d22m0_0 c22m0_0) (qpe_var (i := 1) rfl v22m0_1 d22m0_1 c22m0_1) rfl)
 (qpss_cons (qps_fld (qpe_var (i := 0) rfl v22m0_0 d22m0_0 c22m0_0) (qpe_callTy call_tuple_of g22m0_tuple z_tuple bo_tuple (qpa_cons (qpe_comp rfl cok22m0_0 (qpi_sqK K rfl kd (qpe_var (i := 2) rfl v22m0_2 d22m0_2 c22m0_2)) (fun _ _ _ _ _ => (qpg_tupK K 2 rfl rfl (qpgs_cons (qpg_name (i := 0) cok22m0_0.nd rfl (Or.inl kq22m0_0_0) (Or.inr kq22m0_0_0)) (qpgs_cons (qpg_name (i := 1) cok22m0_0.nd rfl (Or.inl kq22m0_0_1) (Or.inr kq22m0_0_1)) qpgs_nil)))) (fun _ _ _ _ _ => qpif_nil) (fun _ _ _ _ _ => (qpe_tup (qpa_cons (qpe_callTy (callK_tuple_of K rfl) gq22m0_0_tuple z_tuple bo_tuple (qpa_cons (qpe_var (i := 0) rfl vq22m0_0_0 dq22m0_0_0 cq22m0_0_0) qpa_nil se_Name) nn_tuple gd_tuple) (qpa_cons (qpe_var (i := 1) rfl vq22m0_0_1 dq22m0_0_1 cq22m0_0_1) qpa_nil se_Name) se_Call)))) qpa_nil se_ListComp) nn_tuple gd_tuple) rfl)
 (qpss_cons (qps_fld (qpe_var (i := 0) rfl v22m0_0 d22m0_0 c22m0_0) (qpe_callTy call_tuple_of g22m0_tuple z_tuple bo_tuple (qpa_cons (qpe_var (i := 3) rfl v22m0_3 d22m0_3 c22m0_3) qpa_nil se_Name) nn_tuple gd_tuple) rfl)
 (qpss_one (qps_fld (qpe_var (i := 0) rfl v22m0_0 d22m0_0 c22m0_0) (qpe_callTy call_tuple_of g22m0_tuple z_tuple bo_tuple (qpa_cons (qpe_var (i := 4) rfl v22m0_4 d22m0_4 c22m0_4) qpa_nil se_Name) nn_tuple gd_tuple) rfl))))))), ?_⟩
  (try dsimp only [cxOf])
  walk_at "rd"
  refine ⟨fun n en ok H1 c1 => ?_, fun no H1 c1 => q2 no _ c1.wk⟩
  subst en
  have hx1 : H1 x = some (.ins C dx []) := c1.get hx (by simp)
  walk_at "rd"
  have dr2 := (dr.ch c1).ob (Ch.put (o := HO.ins C dx (putF "ins" (.int (n : Int)) []))) hx1
  have hx2 : (upd H1 x (.ins C dx (putF "ins" (.int (n : Int)) []))) x = some (.ins C dx (putF "ins" (.int (n : Int)) [])) := upd_same
  have c2 : Ch [x] H (upd H1 x (.ins C dx (putF "ins" (.int (n : Int)) []))) := c1.wk.trans Ch.put
  obtain ⟨tps, ht, tt⟩ := dr2.t
  refine ⟨⟨_, ht.sq⟩, ?_⟩
  generalize upd H1 x (.ins C dx (putF "ins" (.int (n : Int)) [])) = H2 at hx2 c2 dr2 ht tt ⊢
  clear hx1 c1 dr
  have lt := Paired.length tt
  have t12 := dr2.lt
  refine comp_sq (tps.map V.ref) (fun i ys σ H' => BC H2 H' (tgs.take i) ys ∧ ∃ u0 u1, σ = [u0, u1]) (by rw [sizeLine_eq, List.length_map]; omega) ⟨⟨Ch.refl _ _, [], rfl, .nil⟩, _, _, rfl⟩ ?_ ?_ ?_
  · rintro i ys σ H' hi ⟨⟨c, us, rfl, uu⟩, _⟩
    refine ⟨?_, (ht.ch c).sq⟩
    rw [List.length_map, ← Paired.length uu, List.length_take]
    omega
  · rintro i ys σ H' z hz ⟨⟨c, us, rfl, uu⟩, u0, u1, rfl⟩
    obtain ⟨p, t, rfl, et, tp⟩ := paired_get tt i z hz
    have okt := ok.t i t et
    cases t with
    | odd => cases okt
    | tb ls bits =>
      obtain ⟨lp, sps, hp, hs, ws⟩ := tp.ch c
      cases kd with
      | list =>
        have hs : H' lp = some (.lst (sps.map V.ref)) := hs
        walk_at "rd"
        rename_i T1 h1 T2 h2
        have cT : Ch [] H' (upd (upd H' T1 (.tup (sps.map V.ref))) T2 (.tup [.ref T1, .int bits])) := (Ch.new h1 _).trans (Ch.new h2 _)
        refine ⟨⟨c.trans cT, us ++ [T2], by simp, ?_⟩, _, _, rfl⟩
        rw [List.take_add_one, et]
        exact paired_snoc ⟨T1, sps, upd_same, g_new h2 upd_same, paired_imp (fun _ _ e => PgAt.tu (Tu.same cT) e) ws⟩ (paired_imp (fun _ _ => TgAt.tu (Tu.same cT)) uu)
      | tuple =>
        have hs : H' lp = some (.tup (sps.map V.ref)) := hs
        walk_at "rd"
        rename_i T2 h2
        have cT : Ch [] H' (upd H' T2 (.tup [.ref lp, .int bits])) := Ch.new h2 _
        refine ⟨⟨c.trans cT, us ++ [T2], by simp, ?_⟩, _, _, rfl⟩
        rw [List.take_add_one, et]
        exact paired_snoc ⟨lp, sps, upd_same, g_new h2 hs, paired_imp (fun _ _ e => PgAt.tu (Tu.same cT) e) ws⟩ (paired_imp (fun _ _ => TgAt.tu (Tu.same cT)) uu)
  rintro ys σ H3 ⟨⟨c3, us, rfl, uu⟩, _⟩
  rw [List.length_map, ← lt, List.take_length] at uu
  intro D hD
  have hx3 : H3 x = some (.ins C dx (putF "ins" (.int (n : Int)) [])) := c3.get hx2 (by simp)
  have dr3 := dr2.ch c3
  obtain ⟨kps, hk, kk⟩ := dr3.k
  obtain ⟨ops, ho, oo⟩ := dr3.o
  have cA1 : Ch [] H3 (upd H3 D (.lst (us.map V.ref))) := Ch.new hD _
  cases kd with
  | list =>
    have hk : H3 kl = some (.lst (kps.map V.ref)) := hk
    have ho : H3 ol = some (.lst (ops.map V.ref)) := ho
    have nkx : kl ≠ x := ne_of hk hx3 (by intro z; cases z)
    have nox : ol ≠ x := ne_of ho hx3 (by intro z; cases z)
    walk_at "rd"
    rename_i tb h1 tk h2 to h3
    have cA : Ch [] H3 (upd (upd H3 D (.lst (us.map V.ref))) tb (.tup (us.map V.ref))) := cA1.trans (Ch.new h1 _)
    have ntx : tb ≠ x := (ne_of_none (g_new hD hx3) h1).symm
    have nkx2 : tk ≠ x := fun z => by rw [z, upd_same] at h2; cases h2
    have nox2 : to ≠ x := fun z => by rw [z, upd_same] at h3; cases h3
    have cF : Ch [x] H3 (upd (upd (upd (upd (upd (upd (upd H3 D (.lst (us.map V.ref))) tb (.tup (us.map V.ref))) x (.ins C dx (putF "tables" (.ref tb) (putF "ins" (.int (n : Int)) [])))) tk (.tup (kps.map V.ref))) x (.ins C dx (putF "keeps" (.ref tk) (putF "tables" (.ref tb) (putF "ins" (.int (n : Int)) []))))) to (.tup (ops.map V.ref))) x (.ins C dx (putF "outs" (.ref to) (putF "keeps" (.ref tk) (putF "tables" (.ref tb) (putF "ins" (.int (n : Int)) [])))))) :=
      ((((cA.wk.trans Ch.put).trans (Ch.new h2 _)).trans Ch.put).trans (Ch.new h3 _)).trans Ch.put
    have tu := Tu.ch cF hx3 (fun _ z => by cases z)
    exact q1 n rfl ok tb tk to _ ((c2.trans c3.wk).trans cF) upd_same ⟨⟨us, g_put ntx (g_new h3 (g_put ntx (g_new h2 (g_put ntx upd_same)))), paired_imp (fun _ _ => TgAt.tu tu) uu⟩, ⟨kps, g_put nkx2 (g_new h3 (g_put nkx2 upd_same)), paired_imp (fun _ _ => KgAt.tu tu) kk⟩, ⟨ops, g_put nox2 upd_same, paired_imp (fun _ _ e => PgAt.tu tu e) oo⟩⟩
  | tuple =>
    have hk : H3 kl = some (.tup (kps.map V.ref)) := hk
    have ho : H3 ol = some (.tup (ops.map V.ref)) := ho
    have nkx : kl ≠ x := ne_of hk hx3 (by intro z; cases z)
    have nox : ol ≠ x := ne_of ho hx3 (by intro z; cases z)
    walk_at "rd"
    rename_i tb h1
    have cA : Ch [] H3 (upd (upd H3 D (.lst (us.map V.ref))) tb (.tup (us.map V.ref))) := cA1.trans (Ch.new h1 _)
    have ntx : tb ≠ x := (ne_of_none (g_new hD hx3) h1).symm
    have cF : Ch [x] H3 (upd (upd (upd (upd (upd H3 D (.lst (us.map V.ref))) tb (.tup (us.map V.ref))) x (.ins C dx (putF "tables" (.ref tb) (putF "ins" (.int (n : Int)) [])))) x (.ins C dx (putF "keeps" (.ref kl) (putF "tables" (.ref tb) (putF "ins" (.int (n : Int)) []))))) x (.ins C dx (putF "outs" (.ref ol) (putF "keeps" (.ref kl) (putF "tables" (.ref tb) (putF "ins" (.int (n : Int)) [])))))) :=
      ((cA.wk.trans Ch.put).trans Ch.put).trans Ch.put
    have tu := Tu.ch cF hx3 (fun _ z => by cases z)
    exact q1 n rfl ok tb kl ol _ ((c2.trans c3.wk).trans cF) upd_same ⟨⟨us, g_put ntx (g_put ntx (g_put ntx upd_same)), paired_imp (fun _ _ => TgAt.tu tu) uu⟩, ⟨kps, tu _ _ hk, paired_imp (fun _ _ => KgAt.tu tu) kk⟩, ⟨ops, tu _ _ ho, paired_imp (fun _ _ e => PgAt.tu tu e) oo⟩⟩
end
end

section
def spNext (K : PySem.W.Frag) : Sp := fun vs H Q _ => ∃ (a b : Addr) (ns : List Int) (c : Int), vs = [.ref a, .ref b] ∧ Scr K H a ns ∧ H b = some (.lst [.int c]) ∧ 0 ≤ c ∧ c < 2 ^ 60 ∧
  ∀ (n : Int) (H' : Hp), 0 ≤ n → n < 2147483629 → Ch [b] H H' → H' b = some (.lst [.int (c + 1)]) → Q (.int n) H'
section
variable {P : Program} {w : World} {K : PySem.W.Frag} {mg : Str → Option Value} {base : Heap} {f : Addr} {fd : FuncData} {k : Nat}
theorem v25_1 : Vs (defScope (top 25)) "_law_at" := by decide +kernel
theorem d25_1 : Nd "_law_at" := by decide +kernel
theorem c25_1 : Nc "_law_at" := by decide +kernel
theorem l25_2 : Lc (defScope (top 25)) "_law_cell" := by decide +kernel
theorem g25_len : Gi (defScope (top 25)) "len" := by decide +kernel
theorem v25_0 : Vs (defScope (top 25)) "_law_script" := by decide +kernel
theorem d25_0 : Nd "_law_script" := by decide +kernel
theorem c25_0 : Nc "_law_script" := by decide +kernel
theorem l25_3 : Lc (defScope (top 25)) "_law_figures" := by decide +kernel
theorem v25_2 : Vs (defScope (top 25)) "_law_cell" := by decide +kernel
theorem d25_2 : Nd "_law_cell" := by decide +kernel
theorem c25_2 : Nc "_law_cell" := by decide +kernel
theorem g25_range : Gi (defScope (top 25)) "range" := by decide +kernel
theorem l25_4 : Lc (defScope (top 25)) "_law_k" := by decide +kernel
theorem v25_3 : Vs (defScope (top 25)) "_law_figures" := by decide +kernel
theorem d25_3 : Nd "_law_figures" := by decide +kernel
theorem c25_3 : Nc "_law_figures" := by decide +kernel
theorem l25_5 : Lc (defScope (top 25)) "_law_m" := by decide +kernel
theorem v25_5 : Vs (defScope (top 25)) "_law_m" := by decide +kernel
theorem d25_5 : Nd "_law_m" := by decide +kernel
theorem c25_5 : Nc "_law_m" := by decide +kernel
theorem scNext : FnScope ["_law_script", "_law_at", "_law_cell", "_law_figures", "_law_k", "_law_m"] ["_law_script", "_law_at"] (defScope (top 25)) := ⟨rfl, rfl, rfl, by decide +kernel, rfl, by decide +kernel, by decide +kernel⟩
theorem ok_next (F : Fun K "_law_next" "_law_next" (top 25) f fd) (z_len : mg "len" = none) (z_range : mg "range" = none) :
    FnOk P w K mg base CX0 (k + 1) f fd ["_law_script", "_law_at"] (spNext K) := by
  have nd := scNext.nd
  refine F.ok scNext (fun vs H Q E h => ?_) (fun cdv A outer s H vs Q E hr h => ?_)
  · obtain ⟨a, b, ns, c, rfl, _⟩ := h
    rfl
  obtain ⟨a, b, ns, c, rfl, hS, hb, h0, h1, q⟩ := h
  refine ⟨_, (Pr.h (qpss_cons (qps_asg (qpe_op op_add (qpe_ix ixa_list (qpe_var (i := 1) rfl v25_1 d25_1 c25_1) qpe_int (fun _ _ => rfl)) qpe_int) (qpg_sub (qpe_var (i := 1) rfl v25_1 d25_1 c25_1) qpe_int set_list))
 (qpss_cons (qps_set (i := 2) nd rfl l25_2 qpe_int)
 (qpss_cut (qps_if (qpt_cmpR op_gt (qpe_callB call_len_seq g25_len z_len PySem.boot_len (qpa_cons (qpe_var (i := 0) rfl v25_0 d25_0 c25_0) qpa_nil se_Name) nn_len gd_len) qpe_int (nomark _))
  (qpss_one (qps_set (i := 2) nd rfl l25_2 (qpe_ix ixa_list (qpe_var (i := 0) rfl v25_0 d25_0 c25_0) (qpe_op op_mod (qpe_ix ixa_list (qpe_var (i := 1) rfl v25_1 d25_1 c25_1) qpe_int (fun _ _ => rfl)) (qpe_callB call_len_seq g25_len z_len PySem.boot_len (qpa_cons (qpe_var (i := 0) rfl v25_0 d25_0 c25_0) qpa_nil se_Name) nn_len gd_len)) (fun _ _ => rfl))))
  qpss_nil)
 (qpss_cut (qps_if (qPW_pt (qpw_and (qpt_cmpR op_gt (qpe_callB call_len_seq g25_len z_len PySem.boot_len (qpa_cons (qpe_var (i := 0) rfl v25_0 d25_0 c25_0) qpa_nil se_Name) nn_len gd_len) qpe_int (nomark _)) (qpw_and1 (qpt_cmpR op_eq (qpe_op op_mod (qpe_ix ixa_list (qpe_var (i := 0) rfl v25_0 d25_0 c25_0) qpe_int (fun _ _ => rfl)) qpe_int) qpe_int (nomark _)))))
  (qpss_cons (qps_set (i := 3) nd rfl l25_3 (qpe_var (i := 2) rfl v25_2 d25_2 c25_2))
 (qpss_cons (qps_loop PassesOwn.never rfl (qpi_range1 g25_range z_range (qpa_cons (qpe_op op_mod (qpe_op op_fdivW (qpe_ix ixa_list (qpe_var (i := 1) rfl v25_1 d25_1 c25_1) qpe_int (fun _ _ => rfl)) (qpe_callB call_len_seq g25_len z_len PySem.boot_len (qpa_cons (qpe_var (i := 0) rfl v25_0 d25_0 c25_0) qpa_nil se_Name) nn_len gd_len)) qpe_int) qpa_nil se_BinOp)) (qpg_name (i := 4) nd rfl l25_4)
  (qpss_one (qps_set (i := 3) nd rfl l25_3 (qpe_op op_fdivW (qpe_var (i := 3) rfl v25_3 d25_3 c25_3) qpe_int))))
 (qpss_one (qps_if (qPW_pt (qpw_or (qpt_cmpR op_notIn_seq (qpe_var (i := 3) rfl v25_3 d25_3 c25_3) (qpe_tup (qpa_cons qpe_int (qpa_cons (qpe_un un_neg qpe_int) qpa_nil se_UnaryOp) se_Constant)) rfl) (qpw_or1 (qpt_cmpR op_lt (qpe_ix ixa_list (qpe_var (i := 1) rfl v25_1 d25_1 c25_1) qpe_int (fun _ _ => rfl)) (qpe_callB call_len_seq g25_len z_len PySem.boot_len (qpa_cons (qpe_var (i := 0) rfl v25_0 d25_0 c25_0) qpa_nil se_Name) nn_len gd_len) (nomark _)))))
  (qpss_one (qps_ret (qpe_op op_mod (qpe_var (i := 3) rfl v25_3 d25_3 c25_3) qpe_int)))
  qpss_nil))))
  qpss_nil)
 (qpss_cons (qps_set (i := 5) nd rfl l25_5 (qpe_op op_mod (qpe_op op_mul (qpe_op op_add (qpe_op op_add (qpe_op op_mod (qpe_var (i := 2) rfl v25_2 d25_2 c25_2) qpe_int) (qpe_op op_mul (qpe_op op_mul (qpe_ix ixa_list (qpe_var (i := 1) rfl v25_1 d25_1 c25_1) qpe_int (fun _ _ => rfl)) (qpe_ix ixa_list (qpe_var (i := 1) rfl v25_1 d25_1 c25_1) qpe_int (fun _ _ => rfl))) qpe_int)) qpe_int) qpe_int) qpe_int))
 (qpss_cons (qps_set (i := 5) nd rfl l25_5 (qpe_op op_mod (qpe_op op_mul (qpe_var (i := 5) rfl v25_5 d25_5 c25_5) (qpe_var (i := 5) rfl v25_5 d25_5 c25_5)) qpe_int))
 (qpss_one (qps_ret (qpe_op op_mod (qpe_op op_mul (qpe_op op_add (qpe_var (i := 5) rfl v25_5 d25_5 c25_5) (qpe_op op_mul (qpe_ix ixa_list (qpe_var (i := 1) rfl v25_1 d25_1 c25_1) qpe_int (fun _ _ => rfl)) qpe_int)) qpe_int) qpe_int)))))))))), ?_⟩
  have h63 : ns.length ≤ 63 := hS.1
  (try dsimp only [cxOf])
  walk_at "rd"
  refine cut_by (fun σ H' => ∃ n : Int, σ = [some (.ref a), some (.ref b), some (.int n), none, none, none] ∧ Ch [b] H H' ∧ H' b = some (.lst [.int (c + 1)])) ?_ ?_
  · walk_at "rd"
    refine ite2 (fun hc => ?_) (fun hc => ?_)
    · have hc' : 0 < (ns.length : Int) := by simpa using hc
      have e1 : 0 ≤ (c + 1) % (ns.length : Int) := Int.emod_nonneg _ (by omega)
      have e2 : (c + 1) % (ns.length : Int) < (ns.length : Int) := Int.emod_lt_of_pos _ hc'
      obtain ⟨n, hn⟩ := atI_ints e1 e2
      walk_at "rd"
    · walk_at "rd"
  · rintro σ H1 ⟨n, rfl, c1, b1⟩
    have hS1 : Scr K H1 a ns := hS.ch hb c1
    refine cut_by (fun σ H' => ∃ u v w, σ = [some (.ref a), some (.ref b), some (.int n), u, v, w] ∧ Ch [b] H H' ∧ H' b = some (.lst [.int (c + 1)])) ?_ ?_
    · walk_at "rd"
      refine ite2 (fun hc => ?_) (fun hc => iteF ?_)
      · have hc' : 0 < (ns.length : Int) := by simpa using hc
        obtain ⟨n0, hn0⟩ := atI_ints (ns := ns) (i := 0) (by omega) hc'
        walk_at "rd"
        refine ite2 (fun hd => ?_) (fun hd => ?_)
        · walk_at "rd"
          refine loop_range (fun i σ H' => H' = H1 ∧ ∃ g kk, σ = [some (.ref a), some (.ref b), some (.int n), some (.int g), kk, none]) ⟨rfl, _, _, rfl⟩ ?_ ?_
          · rintro i σ H' hi ⟨rfl, g, kk, rfl⟩
            walk_at "rd"
          · rintro σ H' ⟨rfl, g, kk, rfl⟩
            walk_at "rd"
            refine ite2 (fun hd => iteT ?_) (fun hd => ?_)
            · walk_at "rd"
              exact q _ _ (Int.emod_nonneg _ (by decide)) (Int.lt_of_lt_of_le (Int.emod_lt_of_pos _ (by decide)) (by decide)) (c1.trans (Ch.new (by assumption) _)) (by walk_at "get")
            · walk_at "rd"
              refine ite2 (fun he => ?_) (fun he => ?_)
              · walk_at "rd"
                exact q _ _ (Int.emod_nonneg _ (by decide)) (Int.lt_of_lt_of_le (Int.emod_lt_of_pos _ (by decide)) (by decide)) (c1.trans (Ch.new (by assumption) _)) (by walk_at "get")
              · walk_at "rd"
        · walk_at "rd"
      · walk_at "rd"
    · rintro σ H2 ⟨u, v, w, rfl, c2, b2⟩
      walk_at "rd"
      exact q _ _ (Int.emod_nonneg _ (by decide)) (Int.emod_lt_of_pos _ (by decide)) c2 b2
end
end

section
def Eqv : Nat → Hp → V → V → Prop
  | 0, _, _, _ => False
  | n + 1, H, x, y => (∃ k : Key, x = kV k ∧ y = kV k) ∨ ∃ (p r : Addr) (xs ys : List V), x = .ref p ∧ y = .ref r ∧ H p = some (.tup xs) ∧ H r = some (.tup ys) ∧ Paired (Eqv n H) xs ys ∧ xs.length ≤ 300
theorem Eqv.ch {H H' : Hp} (c : Ch [] H H') : ∀ {n : Nat} {x y : V}, Eqv n H x y → Eqv n H' x y
  | 0, _, _, h => h
  | n + 1, x, y, h => by
    rcases h with h | ⟨p, r, xs, ys, e1, e2, g1, g2, pr, l⟩
    · exact .inl h
    · exact .inr ⟨p, r, xs, ys, e1, e2, c.get g1 (by simp), c.get g2 (by simp), paired_imp (fun _ _ => Eqv.ch c) pr, l⟩
inductive Dt
  | sc (k : Key)
  | seq (l : List Dt)
def DAt (tp : Bool) : Nat → Hp → Dt → V → Prop
  | 0, _, _, _ => False
  | n + 1, H, d, v => (∃ k : Key, d = .sc k ∧ v = kV k) ∨ ∃ (ds : List Dt) (p : Addr) (xs : List V) (kd : SK), d = .seq ds ∧ v = .ref p ∧ (tp = true → kd = .tuple) ∧ SqX kd H p xs ∧ Paired (DAt tp n H) ds xs ∧ xs.length ≤ 300
theorem DAt.ch {tp : Bool} {H H' : Hp} (c : Ch [] H H') : ∀ {n : Nat} {d : Dt} {v : V}, DAt tp n H d v → DAt tp n H' d v
  | 0, _, _, h => h
  | n + 1, d, v, h => by
    rcases h with h | ⟨ds, p, xs, kd, e1, e2, t, s, pr, l⟩
    · exact .inl h
    · exact .inr ⟨ds, p, xs, kd, e1, e2, t, s.ch c, paired_imp (fun _ _ => DAt.ch c) pr, l⟩
theorem paired_join {α β γ : Type} {R : α → β → Prop} {S : α → γ → Prop} {T : β → γ → Prop} (h : ∀ a b c, R a b → S a c → T b c) : ∀ {xs : List α} {ys : List β} {zs : List γ}, Paired R xs ys → Paired S xs zs → Paired T ys zs
  | _, _, _, .nil, .nil => .nil
  | _, _, _, .cons a t, .cons b u => .cons (h _ _ _ a b) (paired_join h t u)
theorem DAt.eqv {H : Hp} : ∀ {n : Nat} {d : Dt} {x y : V}, DAt true n H d x → DAt true n H d y → Eqv n H x y
  | 0, _, _, _, h, _ => h
  | n + 1, d, x, y, h, g => by
    rcases h with ⟨k, rfl, rfl⟩ | ⟨ds, p, xs, kd, rfl, rfl, t, s, pr, l⟩
    · rcases g with ⟨k', e, rfl⟩ | ⟨ds, p, xs, kd, e, _⟩
      · cases e; exact .inl ⟨_, rfl, rfl⟩
      · cases e
    · rcases g with ⟨k', e, rfl⟩ | ⟨ds', p', xs', kd', e, rfl, t', s', pr', l'⟩
      · cases e
      · cases e
        cases t rfl
        cases t' rfl
        exact .inr ⟨p, p', xs, xs', rfl, rfl, s, s', paired_join (fun a b c (x : DAt true n H a b) (y : DAt true n H a c) => DAt.eqv x y) pr pr', l⟩
section
variable {P : Program} {w : World} {K : PySem.W.Frag} {mg : Str → Option Value} {base : Heap} {f : Addr} {fd : FuncData} {k : Nat}
theorem bo_dict : bootBuiltins "dict" = some (.type "dict") := by decide +kernel
theorem nn_dict : ("dict" : Str) ≠ "__name__" := by decide +kernel
theorem gd_dict : Nd "dict" := by decide +kernel
theorem gd__law_same : Nd "_law_same" := by decide +kernel
theorem gd__law_tupled : Nd "_law_tupled" := by decide +kernel
theorem v26_1 : Vs (defScope (top 26)) "_law_due" := by decide +kernel
theorem d26_1 : Nd "_law_due" := by decide +kernel
theorem c26_1 : Nc "_law_due" := by decide +kernel
theorem v26_0 : Vs (defScope (top 26)) "_law_found" := by decide +kernel
theorem d26_0 : Nd "_law_found" := by decide +kernel
theorem c26_0 : Nc "_law_found" := by decide +kernel
theorem g26_isinstance : Gi (defScope (top 26)) "isinstance" := by decide +kernel
theorem g26_dict : Gi (defScope (top 26)) "dict" := by decide +kernel
theorem g26_len : Gi (defScope (top 26)) "len" := by decide +kernel
theorem g26_all : Gi (defScope (top 26)) "all" := by decide +kernel
def csc26_0 : Scope := { kind := PySem.ScopeKind.function, names := [ (PySem.Str.ofString ".0", PySem.NameKind.local), (PySem.Str.ofString "_law_name", PySem.NameKind.local), (PySem.Str.ofString "_law_same", PySem.NameKind.globalImplicit), (PySem.Str.ofString "_law_due", PySem.NameKind.free), (PySem.Str.ofString "_law_found", PySem.NameKind.free)], isGenerator := false, isCoroutine := false, more := [] : PySem.Scope }
theorem cok26_0 : CompOk csc26_0 (defScope (top 26)) (["_law_name"] : List Str) (["_law_found", "_law_due"] : List Str) [0, 1] (["_law_name", "_law_found", "_law_due"] : List Str) := compOk rfl (by decide +kernel) (by decide +kernel) (by decide +kernel) (by decide +kernel) rfl (by decide +kernel)
theorem kq26_0_0 : (relab csc26_0 (defScope (top 26))).names.lookup (Str.ofString "_law_name") = some NameKind.local := by decide +kernel
theorem gq26_0__law_same : Gi (relab csc26_0 (defScope (top 26))) "_law_same" := by decide +kernel
theorem vq26_0_2 : Vs (relab csc26_0 (defScope (top 26))) "_law_due" := by decide +kernel
theorem dq26_0_2 : Nd "_law_due" := by decide +kernel
theorem cq26_0_2 : Nc "_law_due" := by decide +kernel
theorem vq26_0_0 : Vs (relab csc26_0 (defScope (top 26))) "_law_name" := by decide +kernel
theorem dq26_0_0 : Nd "_law_name" := by decide +kernel
theorem cq26_0_0 : Nc "_law_name" := by decide +kernel
theorem vq26_0_1 : Vs (relab csc26_0 (defScope (top 26))) "_law_found" := by decide +kernel
theorem dq26_0_1 : Nd "_law_found" := by decide +kernel
theorem cq26_0_1 : Nc "_law_found" := by decide +kernel
theorem g26_tuple : Gi (defScope (top 26)) "tuple" := by decide +kernel
theorem g26_list : Gi (defScope (top 26)) "list" := by decide +kernel
theorem g26_zip : Gi (defScope (top 26)) "zip" := by decide +kernel
def csc26_1 : Scope := { kind := PySem.ScopeKind.function, names := [ (PySem.Str.ofString ".0", PySem.NameKind.local), (PySem.Str.ofString "_law_one", PySem.NameKind.local), (PySem.Str.ofString "_law_other", PySem.NameKind.local), (PySem.Str.ofString "_law_same", PySem.NameKind.globalImplicit)], isGenerator := false, isCoroutine := false, more := [] : PySem.Scope }
theorem cok26_1 : CompOk csc26_1 (defScope (top 26)) (["_law_one", "_law_other"] : List Str) (["_law_found", "_law_due"] : List Str) [] (["_law_one", "_law_other"] : List Str) := compOk rfl (by decide +kernel) (by decide +kernel) (by decide +kernel) (by decide +kernel) rfl (by decide +kernel)
theorem kq26_1_1 : (relab csc26_1 (defScope (top 26))).names.lookup (Str.ofString "_law_other") = some NameKind.local := by decide +kernel
theorem kq26_1_0 : (relab csc26_1 (defScope (top 26))).names.lookup (Str.ofString "_law_one") = some NameKind.local := by decide +kernel
theorem gq26_1__law_same : Gi (relab csc26_1 (defScope (top 26))) "_law_same" := by decide +kernel
theorem vq26_1_1 : Vs (relab csc26_1 (defScope (top 26))) "_law_other" := by decide +kernel
theorem dq26_1_1 : Nd "_law_other" := by decide +kernel
theorem cq26_1_1 : Nc "_law_other" := by decide +kernel
theorem vq26_1_0 : Vs (relab csc26_1 (defScope (top 26))) "_law_one" := by decide +kernel
theorem dq26_1_0 : Nd "_law_one" := by decide +kernel
theorem cq26_1_0 : Nc "_law_one" := by decide +kernel
theorem g26_str : Gi (defScope (top 26)) "str" := by decide +kernel
theorem g26_bool : Gi (defScope (top 26)) "bool" := by decide +kernel
theorem g26_int : Gi (defScope (top 26)) "int" := by decide +kernel
structure EqvS (n : Nat) (H : Hp) (x y : V) : Prop where
  h : Eqv n H x y
def spSame (n : Nat) : Sp := fun vs H Q _ => ∃ (x y : V), vs = [x, y] ∧ EqvS n H x y ∧ ∀ H', Ch [] H H' → Q (.bl true) H'
theorem scSame : FnScope ["_law_found", "_law_due"] ["_law_found", "_law_due"] (defScope (top 26)) := ⟨rfl, rfl, rfl, by decide +kernel, rfl, by decide +kernel, by decide +kernel⟩
theorem ok_sameF (F : Fun K "_law_same" "_law_same" (top 26) f fd) : FnOk P w K mg base CX0 (k + 1) f fd ["_law_found", "_law_due"] (spSame 0) :=
  F.ok scSame (fun vs H Q E h => by obtain ⟨x, y, rfl, _⟩ := h; rfl) (fun cdv A outer s H vs Q E hr h => by obtain ⟨_, _, _, e, _⟩ := h; exact e.h.elim)
theorem ok_same (n : Nat) (F : Fun K "_law_same" "_law_same" (top 26) f fd) (D_law_same : DefOk P w K mg base CX0 k "_law_same" ["_law_found", "_law_due"] (spSame n)) (z_isinstance : mg "isinstance" = none) (z_dict : mg "dict" = none) (z_list : mg "list" = none) (z_tuple : mg "tuple" = none) (z_str : mg "str" = none) (z_int : mg "int" = none) (z_bool : mg "bool" = none) (z_len : mg "len" = none) (z_all : mg "all" = none) (z_zip : mg "zip" = none) :
    FnOk P w K mg base CX0 (k + 1) f fd ["_law_found", "_law_due"] (spSame (n + 1)) := by
  have nd := scSame.nd
  refine F.ok scSame (fun vs H Q E h => by obtain ⟨x, y, rfl, _⟩ := h; rfl) (fun cdv A outer s H vs Q E hr h => ?_)
  obtain ⟨x, y, rfl, ⟨e⟩, q⟩ := h
  rcases e with ⟨kk, rfl, rfl⟩ | ⟨p, r, xs, ys, rfl, rfl, g1, g2, pr, l⟩
  · refine ⟨_, (Pr.h (qpss_cons (qps_if (qpt_cmpR op_isN (qpe_var (i := 1) rfl v26_1 d26_1 c26_1) qpe_non (nomark _))
  (qpss_one (qps_ret (qpe_cmpR op_isN (qpe_var (i := 0) rfl v26_0 d26_0 c26_0) qpe_non (nomark _))))
  qpss_nil)
 (qpss_cons (qps_if (qpt_val (qpe_callB call_isT g26_isinstance z_isinstance bo_isinstance (qpa_cons (qpe_var (i := 1) rfl v26_1 d26_1 c26_1) (qpa_cons (qpe_bltn (v := .ty "dict") g26_dict z_dict bo_dict rfl nn_dict gd_dict) qpa_nil)) nn_isinstance gd_isinstance))
  (qpss_cons (qps_if (qPW_pt (qpw_or (qpt_not (qpt_val (qpe_callB call_isT g26_isinstance z_isinstance bo_isinstance (qpa_cons (qpe_var (i := 0) rfl v26_0 d26_0 c26_0) (qpa_cons (qpe_bltn (v := .ty "dict") g26_dict z_dict bo_dict rfl nn_dict gd_dict) qpa_nil)) nn_isinstance gd_isinstance))) (qpw_or1 (qpt_cmpR op_ne (qpe_callB call_len_seq g26_len z_len PySem.boot_len (qpa_cons (qpe_var (i := 0) rfl v26_0 d26_0 c26_0) qpa_nil se_Name) nn_len gd_len) (qpe_callB call_len_seq g26_len z_len PySem.boot_len (qpa_cons (qpe_var (i := 1) rfl v26_1 d26_1 c26_1) qpa_nil se_Name) nn_len gd_len) (nomark _)))))
  (qpss_one (qps_ret qpe_bl))
  qpss_nil)
 (qpss_one (qps_ret (qpe_callB (call_all rfl) g26_all z_all bo_all (qpa_cons (qpe_comp rfl cok26_0 (qpi_list (qpe_var (i := 1) rfl v26_1 d26_1 c26_1)) (fun _ _ _ _ _ => (qpg_name (i := 0) cok26_0.nd rfl (Or.inl kq26_0_0) (Or.inr kq26_0_0))) (fun _ _ _ _ _ => qpif_nil) (fun _ _ _ _ _ => (qpe_and (qpe_cmpR (opK_in_seq K rfl) (qpe_var (i := 0) rfl vq26_0_0 dq26_0_0 cq26_0_0) (qpe_var (i := 1) rfl vq26_0_1 dq26_0_1 cq26_0_1) rfl) (qpe_one (qpe_callD D_law_same hr gq26_0__law_same pass0 (qpa_cons (qpe_ix (ixaK_list K rfl) (qpe_var (i := 1) rfl vq26_0_1 dq26_0_1 cq26_0_1) (qpe_var (i := 0) rfl vq26_0_0 dq26_0_0 cq26_0_0) (fun _ _ => rfl)) (qpa_cons (qpe_ix (ixaK_list K rfl) (qpe_var (i := 2) rfl vq26_0_2 dq26_0_2 cq26_0_2) (qpe_var (i := 0) rfl vq26_0_0 dq26_0_0 cq26_0_0) (fun _ _ => rfl)) qpa_nil se_Subscript) se_Subscript) gd__law_same))))) qpa_nil se_ListComp) nn_all gd_all))))
  qpss_nil)
 (qpss_cons (qps_if (qPW_pt (qpw_or (qpt_val (qpe_callB call_isT g26_isinstance z_isinstance bo_isinstance (qpa_cons (qpe_var (i := 1) rfl v26_1 d26_1 c26_1) (qpa_cons (qpe_bltn (v := .ty "list") g26_list z_list bo_list rfl nn_list gd_list) qpa_nil)) nn_isinstance gd_isinstance)) (qpw_or1 (qpt_val (qpe_callB call_isT g26_isinstance z_isinstance bo_isinstance (qpa_cons (qpe_var (i := 1) rfl v26_1 d26_1 c26_1) (qpa_cons (qpe_bltn (v := .ty "tuple") g26_tuple z_tuple bo_tuple rfl nn_tuple gd_tuple) qpa_nil)) nn_isinstance gd_isinstance)))))
  (qpss_cons (qps_if (qpt_cmpR op_ne (qpe_callB call_isT g26_isinstance z_isinstance bo_isinstance (qpa_cons (qpe_var (i := 0) rfl v26_0 d26_0 c26_0) (qpa_cons (qpe_bltn (v := .ty "list") g26_list z_list bo_list rfl nn_list gd_list) qpa_nil)) nn_isinstance gd_isinstance) (qpe_callB call_isT g26_isinstance z_isinstance bo_isinstance (qpa_cons (qpe_var (i := 1) rfl v26_1 d26_1 c26_1) (qpa_cons (qpe_bltn (v := .ty "list") g26_list z_list bo_list rfl nn_list gd_list) qpa_nil)) nn_isinstance gd_isinstance) (nomark _))
  (qpss_one (qps_ret qpe_bl))
  qpss_nil)
 (qpss_cons (qps_if (qPW_pt (qpw_or (qpt_cmpR op_ne (qpe_callB call_isT g26_isinstance z_isinstance bo_isinstance (qpa_cons (qpe_var (i := 0) rfl v26_0 d26_0 c26_0) (qpa_cons (qpe_bltn (v := .ty "tuple") g26_tuple z_tuple bo_tuple rfl nn_tuple gd_tuple) qpa_nil)) nn_isinstance gd_isinstance) (qpe_callB call_isT g26_isinstance z_isinstance bo_isinstance (qpa_cons (qpe_var (i := 1) rfl v26_1 d26_1 c26_1) (qpa_cons (qpe_bltn (v := .ty "tuple") g26_tuple z_tuple bo_tuple rfl nn_tuple gd_tuple) qpa_nil)) nn_isinstance gd_isinstance) (nomark _)) (qpw_or1 (qpt_cmpR op_ne (qpe_callB call_len_seq g26_len z_len PySem.boot_len (qpa_cons (qpe_var (i := 0) rfl v26_0 d26_0 c26_0) qpa_nil se_Name) nn_len gd_len) (qpe_callB call_len_seq g26_len z_len PySem.boot_len (qpa_cons (qpe_var (i := 1) rfl v26_1 d26_1 c26_1) qpa_nil se_Name) nn_len gd_len) (nomark _)))))
  (qpss_one (qps_ret qpe_bl))
  qpss_nil)
 (qpss_one (qps_ret (qpe_callB (call_all rfl) g26_all z_all bo_all (qpa_cons (qpe_comp rfl cok26_1 (qpi_zip .list .list g26_zip z_zip (qpa_cons (qpe_var (i := 0) rfl v26_0 d26_0 c26_0) (qpa_cons (qpe_var (i := 1) rfl v26_1 d26_1 c26_1) qpa_nil se_Name) se_Name)) (fun _ _ _ _ _ => (qpg_tupK K 2 rfl rfl (qpgs_cons (qpg_name (i := 0) cok26_1.nd rfl (Or.inl kq26_1_0) (Or.inr kq26_1_0)) (qpgs_cons (qpg_name (i := 1) cok26_1.nd rfl (Or.inl kq26_1_1) (Or.inr kq26_1_1)) qpgs_nil)))) (fun _ _ _ _ _ => qpif_nil) (fun _ _ _ _ _ => (qpe_callD D_law_same hr gq26_1__law_same pass0 (qpa_cons (qpe_var (i := 0) rfl vq26_1_0 dq26_1_0 cq26_1_0) (qpa_cons (qpe_var (i := 1) rfl vq26_1_1 dq26_1_1 cq26_1_1) qpa_nil se_Name) se_Name) gd__law_same))) qpa_nil se_ListComp) nn_all gd_all)))))
  qpss_nil)
 (qpss_cons (qps_if (qpt_val (qpe_callB call_isT g26_isinstance z_isinstance bo_isinstance (qpa_cons (qpe_var (i := 1) rfl v26_1 d26_1 c26_1) (qpa_cons (qpe_bltn (v := .ty "str") g26_str z_str bo_str rfl nn_str gd_str) qpa_nil)) nn_isinstance gd_isinstance))
  (qpss_one (qps_ret (qpe_and (qpe_callB call_isT g26_isinstance z_isinstance bo_isinstance (qpa_cons (qpe_var (i := 0) rfl v26_0 d26_0 c26_0) (qpa_cons (qpe_bltn (v := .ty "str") g26_str z_str bo_str rfl nn_str gd_str) qpa_nil)) nn_isinstance gd_isinstance) (qpe_one (qpe_cmpR op_eq (qpe_var (i := 0) rfl v26_0 d26_0 c26_0) (qpe_var (i := 1) rfl v26_1 d26_1 c26_1) (nomark _))))))
  qpss_nil)
 (qpss_one (qps_ret (qpe_and (qpe_callB call_isT g26_isinstance z_isinstance bo_isinstance (qpa_cons (qpe_var (i := 0) rfl v26_0 d26_0 c26_0) (qpa_cons (qpe_bltn (v := .ty "int") g26_int z_int bo_int rfl nn_int gd_int) qpa_nil)) nn_isinstance gd_isinstance) (qpe_and (qpe_not (qpe_callB call_isT g26_isinstance z_isinstance bo_isinstance (qpa_cons (qpe_var (i := 0) rfl v26_0 d26_0 c26_0) (qpa_cons (qpe_bltn (v := .ty "bool") g26_bool z_bool bo_bool rfl nn_bool gd_bool) qpa_nil)) nn_isinstance gd_isinstance)) (qpe_one (qpe_cmpR op_eq (qpe_var (i := 0) rfl v26_0 d26_0 c26_0) (qpe_var (i := 1) rfl v26_1 d26_1 c26_1) (nomark _)))))))))))), ?_⟩
    (try dsimp only [cxOf])
    cases kk with
    | inl b =>
      dsimp only [kV]
      walk_at "rd"
      rw [decide_eq_true rfl]
      exact q _ (Ch.refl _ _)
    | inr b =>
      dsimp only [kV]
      walk_at "rd"
      rw [decide_eq_true rfl]
      exact q _ (Ch.refl _ _)
  · have el := Paired.length pr
    refine ⟨_, (Pr.h (qpss_cons (qps_if (qpt_cmpR op_isN (qpe_var (i := 1) rfl v26_1 d26_1 c26_1) qpe_non (nomark _))
  (qpss_one (qps_ret (qpe_cmpR op_isN (qpe_var (i := 0) rfl v26_0 d26_0 c26_0) qpe_non (nomark _))))
  qpss_nil)
 (qpss_cons (qps_if (qpt_val (qpe_callB call_isT g26_isinstance z_isinstance bo_isinstance (qpa_cons (qpe_var (i := 1) rfl v26_1 d26_1 c26_1) (qpa_cons (qpe_bltn (v := .ty "dict") g26_dict z_dict bo_dict rfl nn_dict gd_dict) qpa_nil)) nn_isinstance gd_isinstance))
  (qpss_cons (qps_if (qPW_pt (qpw_or (qpt_not (qpt_val (qpe_callB call_isT g26_isinstance z_isinstance bo_isinstance (qpa_cons (qpe_var (i := 0) rfl v26_0 d26_0 c26_0) (qpa_cons (qpe_bltn (v := .ty "dict") g26_dict z_dict bo_dict rfl nn_dict gd_dict) qpa_nil)) nn_isinstance gd_isinstance))) (qpw_or1 (qpt_cmpR op_ne (qpe_callB call_len_seq g26_len z_len PySem.boot_len (qpa_cons (qpe_var (i := 0) rfl v26_0 d26_0 c26_0) qpa_nil se_Name) nn_len gd_len) (qpe_callB call_len_seq g26_len z_len PySem.boot_len (qpa_cons (qpe_var (i := 1) rfl v26_1 d26_1 c26_1) qpa_nil se_Name) nn_len gd_len) (nomark _)))))
  (qpss_one (qps_ret qpe_bl))
  qpss_nil)
 (qpss_one (qps_ret (qpe_callB (call_all rfl) g26_all z_all bo_all (qpa_cons (qpe_comp rfl cok26_0 (qpi_tup (qpe_var (i := 1) rfl v26_1 d26_1 c26_1)) (fun _ _ _ _ _ => (qpg_name (i := 0) cok26_0.nd rfl (Or.inl kq26_0_0) (Or.inr kq26_0_0))) (fun _ _ _ _ _ => qpif_nil) (fun _ _ _ _ _ => (qpe_and (qpe_cmpR (opK_in_seq K rfl) (qpe_var (i := 0) rfl vq26_0_0 dq26_0_0 cq26_0_0) (qpe_var (i := 1) rfl vq26_0_1 dq26_0_1 cq26_0_1) rfl) (qpe_one (qpe_callD D_law_same hr gq26_0__law_same pass0 (qpa_cons (qpe_ix (ixaK_tup K rfl) (qpe_var (i := 1) rfl vq26_0_1 dq26_0_1 cq26_0_1) (qpe_var (i := 0) rfl vq26_0_0 dq26_0_0 cq26_0_0) (fun _ _ => rfl)) (qpa_cons (qpe_ix (ixaK_tup K rfl) (qpe_var (i := 2) rfl vq26_0_2 dq26_0_2 cq26_0_2) (qpe_var (i := 0) rfl vq26_0_0 dq26_0_0 cq26_0_0) (fun _ _ => rfl)) qpa_nil se_Subscript) se_Subscript) gd__law_same))))) qpa_nil se_ListComp) nn_all gd_all))))
  qpss_nil)
 (qpss_cons (qps_if (qPW_pt (qpw_or (qpt_val (qpe_callB call_isT g26_isinstance z_isinstance bo_isinstance (qpa_cons (qpe_var (i := 1) rfl v26_1 d26_1 c26_1) (qpa_cons (qpe_bltn (v := .ty "list") g26_list z_list bo_list rfl nn_list gd_list) qpa_nil)) nn_isinstance gd_isinstance)) (qpw_or1 (qpt_val (qpe_callB call_isT g26_isinstance z_isinstance bo_isinstance (qpa_cons (qpe_var (i := 1) rfl v26_1 d26_1 c26_1) (qpa_cons (qpe_bltn (v := .ty "tuple") g26_tuple z_tuple bo_tuple rfl nn_tuple gd_tuple) qpa_nil)) nn_isinstance gd_isinstance)))))
  (qpss_cons (qps_if (qpt_cmpR op_ne (qpe_callB call_isT g26_isinstance z_isinstance bo_isinstance (qpa_cons (qpe_var (i := 0) rfl v26_0 d26_0 c26_0) (qpa_cons (qpe_bltn (v := .ty "list") g26_list z_list bo_list rfl nn_list gd_list) qpa_nil)) nn_isinstance gd_isinstance) (qpe_callB call_isT g26_isinstance z_isinstance bo_isinstance (qpa_cons (qpe_var (i := 1) rfl v26_1 d26_1 c26_1) (qpa_cons (qpe_bltn (v := .ty "list") g26_list z_list bo_list rfl nn_list gd_list) qpa_nil)) nn_isinstance gd_isinstance) (nomark _))
  (qpss_one (qps_ret qpe_bl))
  qpss_nil)
 (qpss_cons (qps_if (qPW_pt (qpw_or (qpt_cmpR op_ne (qpe_callB call_isT g26_isinstance z_isinstance bo_isinstance (qpa_cons (qpe_var (i := 0) rfl v26_0 d26_0 c26_0) (qpa_cons (qpe_bltn (v := .ty "tuple") g26_tuple z_tuple bo_tuple rfl nn_tuple gd_tuple) qpa_nil)) nn_isinstance gd_isinstance) (qpe_callB call_isT g26_isinstance z_isinstance bo_isinstance (qpa_cons (qpe_var (i := 1) rfl v26_1 d26_1 c26_1) (qpa_cons (qpe_bltn (v := .ty "tuple") g26_tuple z_tuple bo_tuple rfl nn_tuple gd_tuple) qpa_nil)) nn_isinstance gd_isinstance) (nomark _)) (qpw_or1 (qpt_cmpR op_ne (qpe_callB call_len_seq g26_len z_len PySem.boot_len (qpa_cons (qpe_var (i := 0) rfl v26_0 d26_0 c26_0) qpa_nil se_Name) nn_len gd_len) (qpe_callB call_len_seq g26_len z_len PySem.boot_len (qpa_cons (qpe_var (i := 1) rfl v26_1 d26_1 c26_1) qpa_nil se_Name) nn_len gd_len) (nomark _)))))
  (qpss_one (qps_ret qpe_bl))
  qpss_nil)
 (qpss_one (qps_ret (qpe_callB (call_all rfl) g26_all z_all bo_all (qpa_cons (qpe_comp rfl cok26_1 (qpi_zip .tuple .tuple g26_zip z_zip (qpa_cons (qpe_var (i := 0) rfl v26_0 d26_0 c26_0) (qpa_cons (qpe_var (i := 1) rfl v26_1 d26_1 c26_1) qpa_nil se_Name) se_Name)) (fun _ _ _ _ _ => (qpg_tupK K 2 rfl rfl (qpgs_cons (qpg_name (i := 0) cok26_1.nd rfl (Or.inl kq26_1_0) (Or.inr kq26_1_0)) (qpgs_cons (qpg_name (i := 1) cok26_1.nd rfl (Or.inl kq26_1_1) (Or.inr kq26_1_1)) qpgs_nil)))) (fun _ _ _ _ _ => qpif_nil) (fun _ _ _ _ _ => (qpe_callD D_law_same hr gq26_1__law_same pass0 (qpa_cons (qpe_var (i := 0) rfl vq26_1_0 dq26_1_0 cq26_1_0) (qpa_cons (qpe_var (i := 1) rfl vq26_1_1 dq26_1_1 cq26_1_1) qpa_nil se_Name) se_Name) gd__law_same))) qpa_nil se_ListComp) nn_all gd_all)))))
  qpss_nil)
 (qpss_cons (qps_if (qpt_val (qpe_callB call_isT g26_isinstance z_isinstance bo_isinstance (qpa_cons (qpe_var (i := 1) rfl v26_1 d26_1 c26_1) (qpa_cons (qpe_bltn (v := .ty "str") g26_str z_str bo_str rfl nn_str gd_str) qpa_nil)) nn_isinstance gd_isinstance))
  (qpss_one (qps_ret (qpe_and (qpe_callB call_isT g26_isinstance z_isinstance bo_isinstance (qpa_cons (qpe_var (i := 0) rfl v26_0 d26_0 c26_0) (qpa_cons (qpe_bltn (v := .ty "str") g26_str z_str bo_str rfl nn_str gd_str) qpa_nil)) nn_isinstance gd_isinstance) (qpe_one (qpe_cmpR (op_eqT hr.units) (qpe_var (i := 0) rfl v26_0 d26_0 c26_0) (qpe_var (i := 1) rfl v26_1 d26_1 c26_1) (nomark _))))))
  qpss_nil)
 (qpss_one (qps_ret (qpe_and (qpe_callB call_isT g26_isinstance z_isinstance bo_isinstance (qpa_cons (qpe_var (i := 0) rfl v26_0 d26_0 c26_0) (qpa_cons (qpe_bltn (v := .ty "int") g26_int z_int bo_int rfl nn_int gd_int) qpa_nil)) nn_isinstance gd_isinstance) (qpe_and (qpe_not (qpe_callB call_isT g26_isinstance z_isinstance bo_isinstance (qpa_cons (qpe_var (i := 0) rfl v26_0 d26_0 c26_0) (qpa_cons (qpe_bltn (v := .ty "bool") g26_bool z_bool bo_bool rfl nn_bool gd_bool) qpa_nil)) nn_isinstance gd_isinstance)) (qpe_one (qpe_cmpR (op_eqT hr.units) (qpe_var (i := 0) rfl v26_0 d26_0 c26_0) (qpe_var (i := 1) rfl v26_1 d26_1 c26_1) (nomark _)))))))))))), ?_⟩
    (try dsimp only [cxOf])
    walk_at "rd"
    refine iteNn (by rw [el]) ?_
    walk_at "rd"
    refine comp_zip xs ys (fun j zs σ H' => Ch [] H H' ∧ zs = List.replicate j (V.bl true) ∧ ∃ u v, σ = [u, v]) (by rw [sizeLine_eq]; omega) el ⟨Ch.refl _ _, rfl, _, _, rfl⟩ ?_ ?_ ?_
    · rintro j zs σ H' hj ⟨c, rfl, _⟩
      exact ⟨by simp, SqT.of (c.get g1 (by simp)), SqT.of (c.get g2 (by simp))⟩
    · rintro j zs σ H' x z T hx hz ⟨c, rfl, u, v, rfl⟩ hT
      obtain ⟨j1, rfl⟩ := List.getElem?_eq_some_iff.mp hx
      obtain ⟨j2, rfl⟩ := List.getElem?_eq_some_iff.mp hz
      have ee : EqvS n (upd H' T (.tup [xs[j], ys[j]])) xs[j] ys[j] := ⟨Eqv.ch (c.trans (Ch.new hT _)) (paired_at pr j j1 j2)⟩
      walk_at "rd"
      exact ⟨by rw [← List.replicate_succ'], _, _, rfl⟩
    · rintro zs σ H' ⟨c, rfl, _⟩
      intro D hD
      refine ⟨D, List.replicate xs.length true, rfl, by rw [upd_same, List.map_replicate], ?_⟩
      rw [show (List.replicate xs.length true).all id = true from by simp [List.all_replicate]]
      exact q _ (c.trans (Ch.new hD _))
theorem g29_tuple : Gi (defScope (top 29)) "tuple" := by decide +kernel
theorem g29_list : Gi (defScope (top 29)) "list" := by decide +kernel
theorem g29_isinstance : Gi (defScope (top 29)) "isinstance" := by decide +kernel
theorem v29_0 : Vs (defScope (top 29)) "_law_thing" := by decide +kernel
theorem d29_0 : Nd "_law_thing" := by decide +kernel
theorem c29_0 : Nc "_law_thing" := by decide +kernel
def csc29_0 : Scope := { kind := PySem.ScopeKind.function, names := [ (PySem.Str.ofString ".0", PySem.NameKind.local), (PySem.Str.ofString "_law_part", PySem.NameKind.local), (PySem.Str.ofString "_law_tupled", PySem.NameKind.globalImplicit)], isGenerator := false, isCoroutine := false, more := [] : PySem.Scope }
theorem cok29_0 : CompOk csc29_0 (defScope (top 29)) (["_law_part"] : List Str) (["_law_thing"] : List Str) [] (["_law_part"] : List Str) := compOk rfl (by decide +kernel) (by decide +kernel) (by decide +kernel) (by decide +kernel) rfl (by decide +kernel)
theorem kq29_0_0 : (relab csc29_0 (defScope (top 29))).names.lookup (Str.ofString "_law_part") = some NameKind.local := by decide +kernel
theorem gq29_0__law_tupled : Gi (relab csc29_0 (defScope (top 29))) "_law_tupled" := by decide +kernel
theorem vq29_0_0 : Vs (relab csc29_0 (defScope (top 29))) "_law_part" := by decide +kernel
theorem dq29_0_0 : Nd "_law_part" := by decide +kernel
theorem cq29_0_0 : Nc "_law_part" := by decide +kernel
structure DatS (n : Nat) (H : Hp) (d : Dt) (v : V) : Prop where
  h : DAt false n H d v
def spTup (n : Nat) : Sp := fun vs H Q _ => ∃ (d : Dt) (v : V), vs = [v] ∧ DatS n H d v ∧ ∀ v' H', Ch [] H H' → DAt true n H' d v' → Q v' H'
theorem scTup : FnScope ["_law_thing"] ["_law_thing"] (defScope (top 29)) := ⟨rfl, rfl, rfl, by decide +kernel, rfl, by decide +kernel, by decide +kernel⟩
theorem ok_tupF (F : Fun K "_law_tupled" "_law_tupled" (top 29) f fd) : FnOk P w K mg base CX0 (k + 1) f fd ["_law_thing"] (spTup 0) :=
  F.ok scTup (fun vs H Q E h => by obtain ⟨x, y, rfl, _⟩ := h; rfl) (fun cdv A outer s H vs Q E hr h => by obtain ⟨_, _, _, e, _⟩ := h; exact e.h.elim)
theorem ok_tup (n : Nat) (F : Fun K "_law_tupled" "_law_tupled" (top 29) f fd) (D_law_tupled : DefOk P w K mg base CX0 k "_law_tupled" ["_law_thing"] (spTup n)) (z_isinstance : mg "isinstance" = none) (z_list : mg "list" = none) (z_tuple : mg "tuple" = none) :
    FnOk P w K mg base CX0 (k + 1) f fd ["_law_thing"] (spTup (n + 1)) := by
  have nd := scTup.nd
  refine F.ok scTup (fun vs H Q E h => by obtain ⟨x, y, rfl, _⟩ := h; rfl) (fun cdv A outer s H vs Q E hr h => ?_)
  obtain ⟨d, v, rfl, ⟨e⟩, q⟩ := h
  rcases e with ⟨kk, rfl, rfl⟩ | ⟨ds, p, xs, kd, rfl, rfl, _, hs, pr, l⟩
  · refine ⟨_, (Pr.h (qpss_cons (qps_if (qpt_val (qpe_callB call_isT2 g29_isinstance z_isinstance bo_isinstance (qpa_cons (qpe_var (i := 0) rfl v29_0 d29_0 c29_0) (qpa_cons (qpe_tup (qpa_cons (qpe_bltn (v := .ty "list") g29_list z_list bo_list rfl nn_list gd_list) (qpa_cons (qpe_bltn (v := .ty "tuple") g29_tuple z_tuple bo_tuple rfl nn_tuple gd_tuple) qpa_nil se_Name) se_Name)) qpa_nil)) nn_isinstance gd_isinstance))
  (qpss_one (qps_ret (qpe_callTy call_tuple_of g29_tuple z_tuple bo_tuple (qpa_cons (qpe_comp rfl cok29_0 (qpi_list (qpe_var (i := 0) rfl v29_0 d29_0 c29_0)) (fun _ _ _ _ _ => (qpg_name (i := 0) cok29_0.nd rfl (Or.inl kq29_0_0) (Or.inr kq29_0_0))) (fun _ _ _ _ _ => qpif_nil) (fun _ _ _ _ _ => (qpe_callD D_law_tupled hr gq29_0__law_tupled pass0 (qpa_cons (qpe_var (i := 0) rfl vq29_0_0 dq29_0_0 cq29_0_0) qpa_nil se_Name) gd__law_tupled))) qpa_nil se_ListComp) nn_tuple gd_tuple)))
  qpss_nil)
 (qpss_one (qps_ret (qpe_var (i := 0) rfl v29_0 d29_0 c29_0))))), ?_⟩
    (try dsimp only [cxOf])
    cases kk with
    | inl b =>
      dsimp only [kV]
      walk_at "rd"
      exact q _ _ (Ch.new (by assumption) _) (.inl ⟨.inl b, rfl, rfl⟩)
    | inr b =>
      dsimp only [kV]
      walk_at "rd"
      exact q _ _ (Ch.new (by assumption) _) (.inl ⟨.inr b, rfl, rfl⟩)
  · have el := Paired.length pr
    cases kd with
    | list =>
      refine ⟨_, (Pr.h (qpss_cons (qps_if (qpt_val (qpe_callB call_isT2 g29_isinstance z_isinstance bo_isinstance (qpa_cons (qpe_var (i := 0) rfl v29_0 d29_0 c29_0) (qpa_cons (qpe_tup (qpa_cons (qpe_bltn (v := .ty "list") g29_list z_list bo_list rfl nn_list gd_list) (qpa_cons (qpe_bltn (v := .ty "tuple") g29_tuple z_tuple bo_tuple rfl nn_tuple gd_tuple) qpa_nil se_Name) se_Name)) qpa_nil)) nn_isinstance gd_isinstance))
  (qpss_one (qps_ret (qpe_callTy call_tuple_of g29_tuple z_tuple bo_tuple (qpa_cons (qpe_comp rfl cok29_0 (qpi_list (qpe_var (i := 0) rfl v29_0 d29_0 c29_0)) (fun _ _ _ _ _ => (qpg_name (i := 0) cok29_0.nd rfl (Or.inl kq29_0_0) (Or.inr kq29_0_0))) (fun _ _ _ _ _ => qpif_nil) (fun _ _ _ _ _ => (qpe_callD D_law_tupled hr gq29_0__law_tupled pass0 (qpa_cons (qpe_var (i := 0) rfl vq29_0_0 dq29_0_0 cq29_0_0) qpa_nil se_Name) gd__law_tupled))) qpa_nil se_ListComp) nn_tuple gd_tuple)))
  qpss_nil)
 (qpss_one (qps_ret (qpe_var (i := 0) rfl v29_0 d29_0 c29_0))))), ?_⟩
      (try dsimp only [cxOf])
      have hs : H p = some (.lst xs) := hs
      walk_at "rd"
      rename_i p1 h1
      have c1 : Ch [] H (upd H p1 (.tup [V.ty "list", V.ty "tuple"])) := Ch.new h1 _
      generalize upd H p1 (.tup [V.ty "list", V.ty "tuple"]) = H1 at c1 ⊢
      refine comp_list xs (fun i ys σ H' => Ch [] H1 H' ∧ Paired (DAt true n H') (ds.take i) ys ∧ ∃ u, σ = [u]) (by rw [sizeLine_eq]; omega) ⟨Ch.refl _ _, .nil, _, rfl⟩ ?_ ?_ ?_
      · rintro i ys σ H' hi ⟨c, pp, _⟩
        refine ⟨?_, SqL.of ((c1.trans c).get hs (by simp))⟩
        rw [← Paired.length pp, List.length_take]; omega
      · rintro i ys σ H' z hz ⟨c, pp, u, rfl⟩
        obtain ⟨j2, rfl⟩ := List.getElem?_eq_some_iff.mp hz
        have j1 : i < ds.length := by omega
        have dd : DatS n H' ds[i] xs[i] := ⟨(paired_at pr i j1 j2).ch (c1.trans c)⟩
        walk_at "rd"
        rename_i v' H5 c5 d5
        refine ⟨?_, _, rfl⟩
        rw [List.take_add_one, List.getElem?_eq_getElem j1]
        exact paired_snoc d5 (paired_imp (fun _ _ => DAt.ch c5) pp)
      · rintro ys σ H' ⟨c, pp, _⟩
        rw [← el, List.take_length] at pp
        intro D hD
        walk_at "rd"
        rename_i T hT
        have c2 : Ch [] H' (upd (upd H' D (.lst ys)) T (.tup ys)) := (Ch.new hD _).trans (Ch.new hT _)
        exact q _ _ ((c1.trans c).trans c2) (.inr ⟨ds, T, ys, .tuple, rfl, rfl, fun _ => rfl, upd_same, paired_imp (fun _ _ => DAt.ch c2) pp, by rw [← Paired.length pp, el]; exact l⟩)
    | tuple =>
      refine ⟨_, (Pr.h (qpss_cons (qps_if (qpt_val (qpe_callB call_isT2 g29_isinstance z_isinstance bo_isinstance (qpa_cons (qpe_var (i := 0) rfl v29_0 d29_0 c29_0) (qpa_cons (qpe_tup (qpa_cons (qpe_bltn (v := .ty "list") g29_list z_list bo_list rfl nn_list gd_list) (qpa_cons (qpe_bltn (v := .ty "tuple") g29_tuple z_tuple bo_tuple rfl nn_tuple gd_tuple) qpa_nil se_Name) se_Name)) qpa_nil)) nn_isinstance gd_isinstance))
  (qpss_one (qps_ret (qpe_callTy call_tuple_of g29_tuple z_tuple bo_tuple (qpa_cons (qpe_comp rfl cok29_0 (qpi_tup (qpe_var (i := 0) rfl v29_0 d29_0 c29_0)) (fun _ _ _ _ _ => (qpg_name (i := 0) cok29_0.nd rfl (Or.inl kq29_0_0) (Or.inr kq29_0_0))) (fun _ _ _ _ _ => qpif_nil) (fun _ _ _ _ _ => (qpe_callD D_law_tupled hr gq29_0__law_tupled pass0 (qpa_cons (qpe_var (i := 0) rfl vq29_0_0 dq29_0_0 cq29_0_0) qpa_nil se_Name) gd__law_tupled))) qpa_nil se_ListComp) nn_tuple gd_tuple)))
  qpss_nil)
 (qpss_one (qps_ret (qpe_var (i := 0) rfl v29_0 d29_0 c29_0))))), ?_⟩
      (try dsimp only [cxOf])
      have hs : H p = some (.tup xs) := hs
      walk_at "rd"
      rename_i p1 h1
      have c1 : Ch [] H (upd H p1 (.tup [V.ty "list", V.ty "tuple"])) := Ch.new h1 _
      generalize upd H p1 (.tup [V.ty "list", V.ty "tuple"]) = H1 at c1 ⊢
      refine comp_tup xs (fun i ys σ H' => Ch [] H1 H' ∧ Paired (DAt true n H') (ds.take i) ys ∧ ∃ u, σ = [u]) (by rw [sizeLine_eq]; omega) ⟨Ch.refl _ _, .nil, _, rfl⟩ ?_ ?_ ?_
      · rintro i ys σ H' hi ⟨c, pp, _⟩
        refine ⟨?_, SqT.of ((c1.trans c).get hs (by simp))⟩
        rw [← Paired.length pp, List.length_take]; omega
      · rintro i ys σ H' z hz ⟨c, pp, u, rfl⟩
        obtain ⟨j2, rfl⟩ := List.getElem?_eq_some_iff.mp hz
        have j1 : i < ds.length := by omega
        have dd : DatS n H' ds[i] xs[i] := ⟨(paired_at pr i j1 j2).ch (c1.trans c)⟩
        walk_at "rd"
        rename_i v' H5 c5 d5
        refine ⟨?_, _, rfl⟩
        rw [List.take_add_one, List.getElem?_eq_getElem j1]
        exact paired_snoc d5 (paired_imp (fun _ _ => DAt.ch c5) pp)
      · rintro ys σ H' ⟨c, pp, _⟩
        rw [← el, List.take_length] at pp
        intro D hD
        walk_at "rd"
        rename_i T hT
        have c2 : Ch [] H' (upd (upd H' D (.lst ys)) T (.tup ys)) := (Ch.new hD _).trans (Ch.new hT _)
        exact q _ _ ((c1.trans c).trans c2) (.inr ⟨ds, T, ys, .tuple, rfl, rfl, fun _ => rfl, upd_same, paired_imp (fun _ _ => DAt.ch c2) pp, by rw [← Paired.length pp, el]; exact l⟩)
end
end

section
section
variable {P : Program} {w : World} {K : PySem.W.Frag} {mg : Str → Option Value} {base : Heap} {f : Addr} {fd : FuncData} {k : Nat}
theorem DK.hp {H : Hp} {a : Addr} {kvs : List (Key × V)} (h : H a = some (.dK kvs)) : DK P w K H a kvs := Or.inl (Or.inl h)
theorem words (a b c : Nat) : ∃ ws : List Wd, List.replicate (if decide (0 < (a : Int)) = true then (1 : Int) else 0).toNat (V.str (Str.ofString "in")) ++ List.replicate (if decide (0 < (b : Int)) = true then (1 : Int) else 0).toNat (V.str (Str.ofString "keep")) ++
    List.replicate (2 * (if decide (0 < (c : Int)) = true then (1 : Int) else 0)).toNat (V.str (Str.ofString "table")) = ws.map (fun x => V.str x.s) ∧ (∀ x ∈ ws, 0 < lim a b c x) ∧ (ws = [] → a = 0 ∧ b = 0 ∧ c = 0) ∧ ws.length ≤ 4 := by
  refine ⟨List.replicate (if decide (0 < (a : Int)) = true then (1 : Int) else 0).toNat .i ++ List.replicate (if decide (0 < (b : Int)) = true then (1 : Int) else 0).toNat .k ++ List.replicate (2 * (if decide (0 < (c : Int)) = true then (1 : Int) else 0)).toNat .t, ?_, ?_, ?_, ?_⟩
  · rw [List.map_append, List.map_append, List.map_replicate, List.map_replicate, List.map_replicate]; rfl
  · intro x hx
    simp only [List.mem_append, List.mem_replicate] at hx
    rcases hx with (⟨n, rfl⟩ | ⟨n, rfl⟩) | ⟨n, rfl⟩
    · show 0 < a; simp only [decide_eq_true_eq] at n; omega
    · show 0 < b; simp only [decide_eq_true_eq] at n; omega
    · show 0 < c; simp only [decide_eq_true_eq] at n; omega
  · intro h
    have := congrArg List.length h
    simp only [List.length_append, List.length_replicate, List.length_nil, decide_eq_true_eq] at this
    omega
  · simp only [List.length_append, List.length_replicate, decide_eq_true_eq]
    omega
theorem l27_4 : Lc (defScope (top 27)) "_law_words" := by decide +kernel
theorem g27_int : Gi (defScope (top 27)) "int" := by decide +kernel
theorem v27_1 : Vs (defScope (top 27)) "_law_ins" := by decide +kernel
theorem d27_1 : Nd "_law_ins" := by decide +kernel
theorem c27_1 : Nc "_law_ins" := by decide +kernel
theorem v27_2 : Vs (defScope (top 27)) "_law_keeps" := by decide +kernel
theorem d27_2 : Nd "_law_keeps" := by decide +kernel
theorem c27_2 : Nc "_law_keeps" := by decide +kernel
theorem v27_3 : Vs (defScope (top 27)) "_law_tables" := by decide +kernel
theorem d27_3 : Nd "_law_tables" := by decide +kernel
theorem c27_3 : Nc "_law_tables" := by decide +kernel
theorem g27_len : Gi (defScope (top 27)) "len" := by decide +kernel
theorem v27_4 : Vs (defScope (top 27)) "_law_words" := by decide +kernel
theorem d27_4 : Nd "_law_words" := by decide +kernel
theorem c27_4 : Nc "_law_words" := by decide +kernel
theorem l27_5 : Lc (defScope (top 27)) "_law_word" := by decide +kernel
theorem v27_0 : Vs (defScope (top 27)) "_law_m" := by decide +kernel
theorem d27_0 : Nd "_law_m" := by decide +kernel
theorem c27_0 : Nc "_law_m" := by decide +kernel
theorem v27_5 : Vs (defScope (top 27)) "_law_word" := by decide +kernel
theorem d27_5 : Nd "_law_word" := by decide +kernel
theorem c27_5 : Nc "_law_word" := by decide +kernel
structure LP (m : Int) (a b c : Nat) : Prop where
  m0 : 0 ≤ m
  a20 : a ≤ 20
  b20 : b ≤ 20
  c20 : c ≤ 20
def spPlc : Sp := fun vs H Q _ => ∃ (m : Int) (a b c : Nat), vs = [.int m, .int (a : Int), .int (b : Int), .int (c : Int)] ∧ LP m a b c ∧ ((a = 0 ∧ b = 0 ∧ c = 0) → ∀ H', Ch [] H H' → Q .non H') ∧ ∀ (p : Addr) (x : Plc) (H' : Hp), Ch [] H H' → x.2 < lim a b c x.1 → H' p = some (.tup [.str x.1.s, .int (x.2 : Int)]) → Q (.ref p) H'
theorem scPlc : FnScope ["_law_m", "_law_ins", "_law_keeps", "_law_tables", "_law_words", "_law_word"] ["_law_m", "_law_ins", "_law_keeps", "_law_tables"] (defScope (top 27)) := ⟨rfl, rfl, rfl, by decide +kernel, rfl, by decide +kernel, by decide +kernel⟩
theorem ok_plc (F : Fun K "_law_place" "_law_place" (top 27) f fd) (z_int : mg "int" = none) (z_len : mg "len" = none) : FnOk P w K mg base CX0 (k + 1) f fd ["_law_m", "_law_ins", "_law_keeps", "_law_tables"] spPlc := by
  have nd := scPlc.nd
  refine F.ok scPlc (fun vs H Q E h => by obtain ⟨m, a, b, c, rfl, _⟩ := h; rfl) (fun cdv A outer s H vs Q E hr h => ?_)
  obtain ⟨m, a, b, c, rfl, ⟨m0, a20, b20, c20⟩, q1, q2⟩ := h
  refine ⟨_, (Pr.h (qpss_cons (qps_set (i := 4) nd rfl l27_4 (qpe_op op_cat (qpe_op op_cat (qpe_op op_rep (qpe_lst (qpa_cons qpe_str qpa_nil se_Constant)) (qpe_callTy call_int1 g27_int z_int bo_int (qpa_cons (qpe_cmpR op_gt (qpe_var (i := 1) rfl v27_1 d27_1 c27_1) qpe_int (nomark _)) qpa_nil se_Compare) nn_int gd_int)) (qpe_op op_rep (qpe_lst (qpa_cons qpe_str qpa_nil se_Constant)) (qpe_callTy call_int1 g27_int z_int bo_int (qpa_cons (qpe_cmpR op_gt (qpe_var (i := 2) rfl v27_2 d27_2 c27_2) qpe_int (nomark _)) qpa_nil se_Compare) nn_int gd_int))) (qpe_op op_rep (qpe_lst (qpa_cons qpe_str qpa_nil se_Constant)) (qpe_op op_mul qpe_int (qpe_callTy call_int1 g27_int z_int bo_int (qpa_cons (qpe_cmpR op_gt (qpe_var (i := 3) rfl v27_3 d27_3 c27_3) qpe_int (nomark _)) qpa_nil se_Compare) nn_int gd_int)))))
 (qpss_cons (qps_if (qpt_cmpR op_eq (qpe_callB call_len_seq g27_len z_len PySem.boot_len (qpa_cons (qpe_var (i := 4) rfl v27_4 d27_4 c27_4) qpa_nil se_Name) nn_len gd_len) qpe_int (nomark _))
  (qpss_one (qps_ret qpe_non))
  qpss_nil)
 (qpss_cons (qps_set (i := 5) nd rfl l27_5 (qpe_ix ixa_list (qpe_var (i := 4) rfl v27_4 d27_4 c27_4) (qpe_op op_mod (qpe_var (i := 0) rfl v27_0 d27_0 c27_0) (qpe_callB call_len_seq g27_len z_len PySem.boot_len (qpa_cons (qpe_var (i := 4) rfl v27_4 d27_4 c27_4) qpa_nil se_Name) nn_len gd_len)) (fun _ _ => rfl)))
 (qpss_one (qps_ret (qpe_tup (qpa_cons (qpe_var (i := 5) rfl v27_5 d27_5 c27_5) (qpa_cons (qpe_op op_mod (qpe_op op_fdivW (qpe_var (i := 0) rfl v27_0 d27_0 c27_0) qpe_int) (qpe_ixD (qpe_disp (qpps_cons qpe_str (qpe_var (i := 1) rfl v27_1 d27_1 c27_1) (qpps_cons qpe_str (qpe_var (i := 2) rfl v27_2 d27_2 c27_2) (qpps_cons qpe_str (qpe_var (i := 3) rfl v27_3 d27_3 c27_3) qpps_nil))) rfl rfl (by intro z; cases z) (by decide)) (qpe_var (i := 5) rfl v27_5 d27_5 c27_5) (fun _ _ => rfl))) qpa_nil se_BinOp) se_Name)))))))), ?_⟩
  (try dsimp only [cxOf])
  walk_at "rd"
  simp only [rep_flat] at *
  walk_at "rd"
  simp only [rep_flat] at *
  obtain ⟨ws, ew, wp, w0, w4⟩ := words a b c
  walk_at "rd"
  rename_i p9 h9
  rw [ew]
  generalize hH9 : upd _ p9 _ = H9
  have c9 : Ch [] H H9 := by rw [← hH9]; walk_at "ch"
  have g9 : H9 p9 = some (.lst (ws.map fun x => V.str x.s)) := by rw [← hH9]; exact upd_same
  clear hH9 h9 ew
  refine ite2 (fun hc => ?_) (fun hc => ?_)
  · have hl : ws.length = 0 := by simpa using hc
    walk_at "rd"
    exact q1 (w0 (List.eq_nil_of_length_eq_zero hl)) _ c9
  · have hl : ws.length ≠ 0 := fun z => hc (by simp [z])
    have wl : (ws.map (fun x => V.str x.s)).length = ws.length := List.length_map ..
    have hp : (0 : Int) < ((ws.map (fun x => V.str x.s)).length : Int) := by omega
    have e1 : 0 ≤ m % ((ws.map (fun x => V.str x.s)).length : Int) := Int.emod_nonneg _ (by omega)
    have e2 := Int.emod_lt_of_pos m hp
    obtain ⟨hh, e3⟩ := atI_get0 e1 e2
    obtain ⟨x, hx, ex⟩ : ∃ x ∈ ws, (ws.map (fun x => V.str x.s))[(m % ((ws.map (fun x => V.str x.s)).length : Int)).toNat] = .str x.s := by
      rw [List.getElem_map]
      exact ⟨_, List.getElem_mem _, rfl⟩
    rw [ex] at e3
    have lx := wp x hx
    have cv := cnt_val a b c x
    have lx' : (0 : Int) < (lim a b c x : Int) := by omega
    walk_at "rd"
    rename_i cd hcd
    refine ⟨(show _ = List.map (fun kv => (kV kv.1, kv.2)) (cntK a b c) from rfl), (by show (3 : Nat) ≤ 15; decide), ?_⟩
    rw [show mergeK [] (cntK a b c) = cntK a b c from rfl]
    have c10 : Ch [] H9 (upd (upd H9 cd (.dK [])) cd (.dK (cntK a b c))) := Ch.own hcd (Ch.new hcd _)
    have g10 : (upd (upd H9 cd (.dK [])) cd (.dK (cntK a b c))) cd = some (.dK (cntK a b c)) := upd_same
    generalize upd (upd H9 cd (.dK [])) cd (.dK (cntK a b c)) = H10 at c10 g10 ⊢
    walk_at "rd"
    refine ⟨DK.hp g10, cv, ?_⟩
    walk_at "rd"
    rename_i T hT
    have v0 : 0 ≤ m / 7 % (lim a b c x : Int) := Int.emod_nonneg _ (by omega)
    have v1 := Int.emod_lt_of_pos (m / 7) lx'
    refine q2 T (x, (m / 7 % (lim a b c x : Int)).toNat) _ ((c9.trans c10).trans (Ch.new hT _)) (by show (m / 7 % (lim a b c x : Int)).toNat < lim a b c x; omega) ?_
    rw [upd_same]
    show some (HO.tup [.str x.s, .int (m / 7 % (lim a b c x : Int))]) = some (HO.tup [.str x.s, .int ((m / 7 % (lim a b c x : Int)).toNat : Int)])
    rw [Int.toNat_of_nonneg v0]
end
end

section
theorem tb_bi (z : Int) : V.int (z % 2) = bV (decide (z % 2 = 1)) := by
  have : z % 2 = 0 ∨ z % 2 = 1 := by omega
  rcases this with h | h <;> rw [h] <;> rfl
theorem free_b {H H2 : Hp} {b p : Addr} {o : HO} (c : Ch [b] H H2) (hb : H2 b = some o) (h : H2 p = none) : H p = none := by
  cases e : H p with
  | none => rfl
  | some o' =>
    by_cases z : p = b
    · rw [z, hb] at h; cases h
    · rw [c.get e (by simpa using z)] at h; cases h
structure Okd (ins : Nat) (ts : List Tb) (ks : List Kp) (os : List Plc) : Prop where
  t : ∀ (i : Nat) (t : Tb), ts[i]? = some t → t.ok ins ks.length i
  k : ∀ x ∈ ks, x.pl.2 < lim ins ks.length ts.length x.pl.1
  o : ∀ x ∈ os, x.2 < lim ins ks.length ts.length x.1
  li : ins ≤ 12
  lt : ts.length ≤ 12
  lk : ks.length ≤ 12
  lo : os.length ≤ 12
structure DrAt (ex : List Addr) (H : Hp) (tl kl ol : Addr) (ts : List Tb) (ks : List Kp) (os : List Plc) : Prop where
  t : tl ∉ ex ∧ ∃ ps, H tl = some (.lst (ps.map V.ref)) ∧ Paired (TbL ex H) ts ps
  k : kl ∉ ex ∧ ∃ ps, H kl = some (.lst (ps.map V.ref)) ∧ Paired (KpAt H) ks ps
  o : ol ∉ ex ∧ ∃ ps, H ol = some (.lst (ps.map V.ref)) ∧ WsAt H (os.map plK) ps
theorem DrAt.kl {ex : List Addr} {H H' : Hp} {tl kl ol : Addr} {ts : List Tb} {ks : List Kp} {os : List Plc} (s : DrAt ex H tl kl ol ts ks os) (k : Kl ex H H') : DrAt ex H' tl kl ol ts ks os :=
  ⟨⟨s.t.1, let ⟨ps, a, b⟩ := s.t.2; ⟨ps, k.l _ _ s.t.1 a, paired_imp (fun _ _ => TbL.kl k) b⟩⟩, ⟨s.k.1, let ⟨ps, a, b⟩ := s.k.2; ⟨ps, k.l _ _ s.k.1 a, paired_imp (fun _ _ => KpAt.tu k.t) b⟩⟩, ⟨s.o.1, let ⟨ps, a, b⟩ := s.o.2; ⟨ps, k.l _ _ s.o.1 a, WsAt.tu k.t b⟩⟩⟩
theorem DrAt.ch {ex : List Addr} {H H' : Hp} {tl kl ol : Addr} {ts : List Tb} {ks : List Kp} {os : List Plc} (s : DrAt ex H tl kl ol ts ks os) (c : Ch [] H H') : DrAt ex H' tl kl ol ts ks os := s.kl (Kl.new c)
structure DQ (K : PySem.W.Frag) (H H' : Hp) (a b : Addr) (ns : List Int) (c : Int) : Prop where
  ch : Ch [b] H H'
  hS : Scr K H' a ns
  hb : H' b = some (.lst [.int c])
section
variable {K : PySem.W.Frag} {H H' H'' : Hp} {a b q : Addr} {ns : List Int} {c c' : Int}
theorem DQ.next (d : DQ K H H' a b ns c) (e : Ch [b] H' H'') (h : H'' b = some (.lst [.int c'])) : DQ K H H'' a b ns c' := ⟨d.ch.trans e, d.hS.ch d.hb e, h⟩
theorem DQ.new (d : DQ K H H' a b ns c) (e : Ch [] H' H'') : DQ K H H'' a b ns c := ⟨d.ch.trans e.wk, d.hS.same e, e.get d.hb (by simp)⟩
theorem DQ.own {xs zs : List V} (d : DQ K H H' a b ns c) (h0 : H q = none) (hq : H' q = some (.lst xs)) (nb : b ≠ q) : DQ K H (upd H' q (.lst zs)) a b ns c := ⟨Ch.own h0 d.ch, d.hS.ch hq Ch.put, g_put nb d.hb⟩
theorem DQ.free (d : DQ K H H' a b ns c) (h : H' q = none) : H q = none := free_b d.ch d.hb h
theorem DQ.nb (d : DQ K H H' a b ns c) (h : H' q = none) : b ≠ q := ne_of_none d.hb h
theorem DQ.trans (d : DQ K H H' a b ns c) (e : DQ K H' H'' a b ns c') : DQ K H H'' a b ns c' := ⟨d.ch.trans e.ch, e.hS, e.hb⟩
theorem DQ.kl {ex : List Addr} (d : DQ K H H' a b ns c) (h : H b = some (.lst [.int c'])) (m : b ∈ ex) : Kl ex H H' := Kl.one d.ch h m
end
structure TL (K : PySem.W.Frag) (H H' : Hp) (a b : Addr) (ns : List Int) (tl : Addr) (ins keeps : Nat) (ts : List Tb) (c : Int) : Prop where
  d : DQ K H H' a b ns c
  tb : ∃ ps, H' tl = some (.lst (ps.map V.ref)) ∧ Paired (TbL [b, tl] H') ts ps
  ok : ∀ (i : Nat) (t : Tb), ts[i]? = some t → t.ok ins keeps i
structure LL (K : PySem.W.Frag) (H H' : Hp) (a b : Addr) (ns : List Int) (lp : Addr) (ins keeps n : Nat) (ls : List Plc) (c : Int) : Prop where
  d : DQ K H H' a b ns c
  ex : ∃ qs, H' lp = some (.lst (qs.map V.ref)) ∧ WsAt H' (ls.map plK) qs
  lo : ∀ p ∈ ls, p.2 < lim ins keeps n p.1
structure KI (K : PySem.W.Frag) (H H' : Hp) (a b : Addr) (ns : List Int) (kl : Addr) (ins keeps n : Nat) (ks : List Kp) (c : Int) : Prop where
  d : DQ K H H' a b ns c
  ex : ∃ qs, H' kl = some (.lst (qs.map V.ref)) ∧ Paired (KpAt H') ks qs
  lo : ∀ x ∈ ks, x.pl.2 < lim ins keeps n x.pl.1
structure CI (c c' : Int) (j : Int) : Prop where
  lo : c' ≤ c
  hi : c ≤ c' + j
def OpAt (H : Hp) (o : Option Plc) (v : V) : Prop := match o with
  | none => v = .non
  | some x => ∃ p, v = .ref p ∧ H p = some (.tup [.str x.1.s, .int (x.2 : Int)])
theorem OpAt.tu {H H' : Hp} (t : Tu H H') {o : Option Plc} {v : V} (s : OpAt H o v) : OpAt H' o v := by
  cases o with
  | none => exact s
  | some x => obtain ⟨p, e, h⟩ := s; exact ⟨p, e, t _ _ h⟩
structure OL (K : PySem.W.Frag) (H H' : Hp) (a b : Addr) (ns : List Int) (ins keeps n : Nat) (os : List (Option Plc)) (ys : List V) (c : Int) : Prop where
  d : DQ K H H' a b ns c
  ex : Paired (OpAt H') os ys
  lo : ∀ x, some x ∈ os → x.2 < lim ins keeps n x.1
theorem opget {H : Hp} : ∀ {os : List (Option Plc)} {ys : List V}, Paired (OpAt H) os ys → ∀ (i : Nat) (v : V), ys[i]? = some v → ∃ o, os[i]? = some o ∧ OpAt H o v
  | _, _, .nil, i, x, h => by simp at h
  | k :: ws, p :: ps, .cons a t, 0, x, h => ⟨k, rfl, by cases h; exact a⟩
  | k :: ws, p :: ps, .cons a t, i + 1, x, h => by
    obtain ⟨o, e1, e2⟩ := opget t i x (by simpa using h)
    exact ⟨o, by simpa using e1, e2⟩
theorem TbL.weak {b t : Addr} {H : Hp} {x : Tb} {p : Addr} (s : TbL [b, t] H x p) : TbL [b] H x p := let ⟨lp, ps, n, a, b, w⟩ := s; ⟨lp, ps, by simp only [List.mem_cons, List.not_mem_nil, or_false, not_or] at n ⊢; exact n.1, a, b, w⟩
theorem WsAt.snoc {H : Hp} {x : Plc} {p : Addr} (hp : H p = some (.tup [.str x.1.s, .int (x.2 : Int)])) {ls : List Plc} {ps : List Addr} (s : WsAt H (ls.map plK) ps) : WsAt H ((ls ++ [x]).map plK) (ps ++ [p]) := by
  rw [List.map_append]
  exact paired_snoc (R := fun (k : Wr) (p : Addr) => H p = some (.tup (k.map kV))) hp s
theorem room_at {n : Nat} (h : n ≤ 4) : atI [V.int 2, V.int 4, V.int 16, V.int 256, V.int 65536] (n : Int) = some (.int (room n)) := by
  have e5 : n = 0 ∨ n = 1 ∨ n = 2 ∨ n = 3 ∨ n = 4 := by omega
  rcases e5 with rfl | rfl | rfl | rfl | rfl <;> rfl
theorem room_pos {n : Nat} (h : n ≤ 4) : 0 < room n ∧ room n ≤ 65536 := by
  have e5 : n = 0 ∨ n = 1 ∨ n = 2 ∨ n = 3 ∨ n = 4 := by omega
  rcases e5 with rfl | rfl | rfl | rfl | rfl <;> decide
theorem four {x0 x1 x2 x3 : Int} (m : Int) : ∃ v : Int, atI [V.int x0, V.int x1, V.int x2, V.int x3] (m % 4) = some (.int v) := by
  have : m % 4 = 0 ∨ m % 4 = 1 ∨ m % 4 = 2 ∨ m % 4 = 3 := by omega
  rcases this with h | h | h | h <;> rw [h] <;> exact ⟨_, rfl⟩
section
variable {P : Program} {w : World} {K : PySem.W.Frag} {mg : Str → Option Value} {base : Heap} {f : Addr} {fd : FuncData} {k : Nat}
theorem gd__law_next : Nd "_law_next" := by decide +kernel
theorem gd__law_place : Nd "_law_place" := by decide +kernel
theorem l28_2 : Lc (defScope (top 28)) "_law_m" := by decide +kernel
theorem g28__law_next : Gi (defScope (top 28)) "_law_next" := by decide +kernel
theorem v28_1 : Vs (defScope (top 28)) "_law_at" := by decide +kernel
theorem d28_1 : Nd "_law_at" := by decide +kernel
theorem c28_1 : Nc "_law_at" := by decide +kernel
theorem v28_0 : Vs (defScope (top 28)) "_law_script" := by decide +kernel
theorem d28_0 : Nd "_law_script" := by decide +kernel
theorem c28_0 : Nc "_law_script" := by decide +kernel
theorem v28_2 : Vs (defScope (top 28)) "_law_m" := by decide +kernel
theorem d28_2 : Nd "_law_m" := by decide +kernel
theorem c28_2 : Nc "_law_m" := by decide +kernel
theorem l28_5 : Lc (defScope (top 28)) "_law_many" := by decide +kernel
theorem l28_4 : Lc (defScope (top 28)) "_law_keeps" := by decide +kernel
theorem l28_3 : Lc (defScope (top 28)) "_law_ins" := by decide +kernel
theorem l28_6 : Lc (defScope (top 28)) "_law_tables" := by decide +kernel
theorem g28_range : Gi (defScope (top 28)) "range" := by decide +kernel
theorem v28_5 : Vs (defScope (top 28)) "_law_many" := by decide +kernel
theorem d28_5 : Nd "_law_many" := by decide +kernel
theorem c28_5 : Nc "_law_many" := by decide +kernel
theorem l28_7 : Lc (defScope (top 28)) "_law_number" := by decide +kernel
theorem l28_8 : Lc (defScope (top 28)) "_law_leaves" := by decide +kernel
theorem l28_9 : Lc (defScope (top 28)) "_law_k" := by decide +kernel
theorem l28_10 : Lc (defScope (top 28)) "_law_place_here" := by decide +kernel
theorem g28__law_place : Gi (defScope (top 28)) "_law_place" := by decide +kernel
theorem v28_7 : Vs (defScope (top 28)) "_law_number" := by decide +kernel
theorem d28_7 : Nd "_law_number" := by decide +kernel
theorem c28_7 : Nc "_law_number" := by decide +kernel
theorem v28_4 : Vs (defScope (top 28)) "_law_keeps" := by decide +kernel
theorem d28_4 : Nd "_law_keeps" := by decide +kernel
theorem c28_4 : Nc "_law_keeps" := by decide +kernel
theorem v28_3 : Vs (defScope (top 28)) "_law_ins" := by decide +kernel
theorem d28_3 : Nd "_law_ins" := by decide +kernel
theorem c28_3 : Nc "_law_ins" := by decide +kernel
theorem v28_10 : Vs (defScope (top 28)) "_law_place_here" := by decide +kernel
theorem d28_10 : Nd "_law_place_here" := by decide +kernel
theorem c28_10 : Nc "_law_place_here" := by decide +kernel
theorem v28_8 : Vs (defScope (top 28)) "_law_leaves" := by decide +kernel
theorem d28_8 : Nd "_law_leaves" := by decide +kernel
theorem c28_8 : Nc "_law_leaves" := by decide +kernel
theorem l28_11 : Lc (defScope (top 28)) "_law_rows" := by decide +kernel
theorem g28_len : Gi (defScope (top 28)) "len" := by decide +kernel
theorem v28_6 : Vs (defScope (top 28)) "_law_tables" := by decide +kernel
theorem d28_6 : Nd "_law_tables" := by decide +kernel
theorem c28_6 : Nc "_law_tables" := by decide +kernel
theorem v28_11 : Vs (defScope (top 28)) "_law_rows" := by decide +kernel
theorem d28_11 : Nd "_law_rows" := by decide +kernel
theorem c28_11 : Nc "_law_rows" := by decide +kernel
theorem l28_12 : Lc (defScope (top 28)) "_law_kept" := by decide +kernel
theorem v28_12 : Vs (defScope (top 28)) "_law_kept" := by decide +kernel
theorem d28_12 : Nd "_law_kept" := by decide +kernel
theorem c28_12 : Nc "_law_kept" := by decide +kernel
theorem l28_13 : Lc (defScope (top 28)) "_law_outs" := by decide +kernel
def csc28_0 : Scope := { kind := PySem.ScopeKind.function, names := [ (PySem.Str.ofString ".0", PySem.NameKind.local), (PySem.Str.ofString "_law_k", PySem.NameKind.local), (PySem.Str.ofString "_law_place", PySem.NameKind.globalImplicit), (PySem.Str.ofString "_law_next", PySem.NameKind.globalImplicit), (PySem.Str.ofString "_law_at", PySem.NameKind.free), (PySem.Str.ofString "_law_ins", PySem.NameKind.free), (PySem.Str.ofString "_law_keeps", PySem.NameKind.free), (PySem.Str.ofString "_law_many", PySem.NameKind.free), (PySem.Str.ofString "_law_script", PySem.NameKind.free)], isGenerator := false, isCoroutine := false, more := [] : PySem.Scope }
theorem cok28_0 : CompOk csc28_0 (defScope (top 28)) (["_law_k"] : List Str) (["_law_script", "_law_at", "_law_m", "_law_ins", "_law_keeps", "_law_many", "_law_tables", "_law_number", "_law_leaves", "_law_k", "_law_place_here", "_law_rows", "_law_kept", "_law_outs"] : List Str) [0, 1, 3, 4, 5] (["_law_k", "_law_script", "_law_at", "_law_ins", "_law_keeps", "_law_many"] : List Str) := compOk rfl (by decide +kernel) (by decide +kernel) (by decide +kernel) (by decide +kernel) rfl (by decide +kernel)
theorem kq28_0_0 : (relab csc28_0 (defScope (top 28))).names.lookup (Str.ofString "_law_k") = some NameKind.local := by decide +kernel
theorem gq28_0__law_place : Gi (relab csc28_0 (defScope (top 28))) "_law_place" := by decide +kernel
theorem vq28_0_5 : Vs (relab csc28_0 (defScope (top 28))) "_law_many" := by decide +kernel
theorem dq28_0_5 : Nd "_law_many" := by decide +kernel
theorem cq28_0_5 : Nc "_law_many" := by decide +kernel
theorem vq28_0_4 : Vs (relab csc28_0 (defScope (top 28))) "_law_keeps" := by decide +kernel
theorem dq28_0_4 : Nd "_law_keeps" := by decide +kernel
theorem cq28_0_4 : Nc "_law_keeps" := by decide +kernel
theorem vq28_0_3 : Vs (relab csc28_0 (defScope (top 28))) "_law_ins" := by decide +kernel
theorem dq28_0_3 : Nd "_law_ins" := by decide +kernel
theorem cq28_0_3 : Nc "_law_ins" := by decide +kernel
theorem gq28_0__law_next : Gi (relab csc28_0 (defScope (top 28))) "_law_next" := by decide +kernel
theorem vq28_0_2 : Vs (relab csc28_0 (defScope (top 28))) "_law_at" := by decide +kernel
theorem dq28_0_2 : Nd "_law_at" := by decide +kernel
theorem cq28_0_2 : Nc "_law_at" := by decide +kernel
theorem vq28_0_1 : Vs (relab csc28_0 (defScope (top 28))) "_law_script" := by decide +kernel
theorem dq28_0_1 : Nd "_law_script" := by decide +kernel
theorem cq28_0_1 : Nc "_law_script" := by decide +kernel
theorem v28_13 : Vs (defScope (top 28)) "_law_outs" := by decide +kernel
theorem d28_13 : Nd "_law_outs" := by decide +kernel
theorem c28_13 : Nc "_law_outs" := by decide +kernel
def csc28_1 : Scope := { kind := PySem.ScopeKind.function, names := [ (PySem.Str.ofString ".0", PySem.NameKind.local), (PySem.Str.ofString "_law_place_here", PySem.NameKind.local)], isGenerator := false, isCoroutine := false, more := [] : PySem.Scope }
theorem cok28_1 : CompOk csc28_1 (defScope (top 28)) (["_law_place_here"] : List Str) (["_law_script", "_law_at", "_law_m", "_law_ins", "_law_keeps", "_law_many", "_law_tables", "_law_number", "_law_leaves", "_law_k", "_law_place_here", "_law_rows", "_law_kept", "_law_outs"] : List Str) [] (["_law_place_here"] : List Str) := compOk rfl (by decide +kernel) (by decide +kernel) (by decide +kernel) (by decide +kernel) rfl (by decide +kernel)
theorem kq28_1_0 : (relab csc28_1 (defScope (top 28))).names.lookup (Str.ofString "_law_place_here") = some NameKind.local := by decide +kernel
theorem vq28_1_0 : Vs (relab csc28_1 (defScope (top 28))) "_law_place_here" := by decide +kernel
theorem dq28_1_0 : Nd "_law_place_here" := by decide +kernel
theorem cq28_1_0 : Nc "_law_place_here" := by decide +kernel
structure DT (K : PySem.W.Frag) (H H' : Hp) (a b : Addr) (ns : List Int) (c : Int) (tl kl ol : Addr) (ins : Nat) (ts : List Tb) (ks : List Kp) (os : List Plc) : Prop where
  d : ∃ c', DQ K H H' a b ns c' ∧ c ≤ c' ∧ c' ≤ c + 300
  dr : DrAt [b] H' tl kl ol ts ks os
  ok : Okd ins ts ks os
def spDT (K : PySem.W.Frag) : Sp := fun vs H Q _ => ∃ (a b : Addr) (ns : List Int) (c : Int), vs = [.ref a, .ref b] ∧ Scr K H a ns ∧ H b = some (.lst [.int c]) ∧ 0 ≤ c ∧ c < 2 ^ 50 ∧
  ∀ (R tl kl ol : Addr) (ins : Nat) (ts : List Tb) (ks : List Kp) (os : List Plc) (H' : Hp), DT K H H' a b ns c tl kl ol ins ts ks os → H' R = some (.tup [.int (ins : Int), .ref tl, .ref kl, .ref ol]) → Q (.ref R) H'
theorem scDT : FnScope ["_law_script", "_law_at", "_law_m", "_law_ins", "_law_keeps", "_law_many", "_law_tables", "_law_number", "_law_leaves", "_law_k", "_law_place_here", "_law_rows", "_law_kept", "_law_outs"] ["_law_script", "_law_at"] (defScope (top 28)) := ⟨rfl, rfl, rfl, by decide +kernel, rfl, by decide +kernel, by decide +kernel⟩
theorem ok_dt (F : Fun K "_law_drawn_tables" "_law_drawn_tables" (top 28) f fd) (D_law_next : DefOk P w K mg base CX0 k "_law_next" ["_law_script", "_law_at"] (spNext K)) (D_law_place : DefOk P w K mg base CX0 k "_law_place" ["_law_m", "_law_ins", "_law_keeps", "_law_tables"] spPlc) (z_range : mg "range" = none) (z_len : mg "len" = none) : FnOk P w K mg base CX0 (k + 1) f fd ["_law_script", "_law_at"] (spDT K) := by
  have nd := scDT.nd
  refine F.ok scDT (fun vs H Q E h => by obtain ⟨a, b, ns, c, rfl, _⟩ := h; rfl) (fun cdv A outer s H vs Q E hr h => ?_)
  obtain ⟨a, b, ns, c, rfl, hS, hb, h0, h1, q⟩ := h
  refine ⟨_, (Pr.h (qpss_cons (qps_set (i := 2) nd rfl l28_2 (qpe_callD D_law_next hr g28__law_next pass0 (qpa_cons (qpe_var (i := 0) rfl v28_0 d28_0 c28_0) (qpa_cons (qpe_var (i := 1) rfl v28_1 d28_1 c28_1) qpa_nil se_Name) se_Name) gd__law_next))
 (qpss_cons (qps_asg (qpe_tup (qpa_cons (qpe_op op_mod (qpe_var (i := 2) rfl v28_2 d28_2 c28_2) qpe_int) (qpa_cons (qpe_op op_mod (qpe_op op_fdivW (qpe_var (i := 2) rfl v28_2 d28_2 c28_2) qpe_int) qpe_int) (qpa_cons (qpe_op op_mod (qpe_op op_fdivW (qpe_var (i := 2) rfl v28_2 d28_2 c28_2) qpe_int) qpe_int) qpa_nil se_BinOp) se_BinOp) se_BinOp)) (qpg_tup rfl (qpgs_cons (qpg_name (i := 3) nd rfl l28_3) (qpgs_cons (qpg_name (i := 4) nd rfl l28_4) (qpgs_cons (qpg_name (i := 5) nd rfl l28_5) qpgs_nil)))))
 (qpss_cons (qps_set (i := 6) nd rfl l28_6 (qpe_lst qpa_nil))
 (qpss_cons (qps_loop PassesOwn.never rfl (qpi_range1 g28_range z_range (qpa_cons (qpe_var (i := 5) rfl v28_5 d28_5 c28_5) qpa_nil se_Name)) (qpg_name (i := 7) nd rfl l28_7)
  (qpss_cons (qps_set (i := 8) nd rfl l28_8 (qpe_lst qpa_nil))
 (qpss_cons (qps_loop PassesOwn.never rfl (qpi_range1 g28_range z_range (qpa_cons (qpe_op op_mod (qpe_callD D_law_next hr g28__law_next pass0 (qpa_cons (qpe_var (i := 0) rfl v28_0 d28_0 c28_0) (qpa_cons (qpe_var (i := 1) rfl v28_1 d28_1 c28_1) qpa_nil se_Name) se_Name) gd__law_next) qpe_int) qpa_nil se_BinOp)) (qpg_name (i := 9) nd rfl l28_9)
  (qpss_cons (qps_set (i := 10) nd rfl l28_10 (qpe_callD D_law_place hr g28__law_place pass0 (qpa_cons (qpe_callD D_law_next hr g28__law_next pass0 (qpa_cons (qpe_var (i := 0) rfl v28_0 d28_0 c28_0) (qpa_cons (qpe_var (i := 1) rfl v28_1 d28_1 c28_1) qpa_nil se_Name) se_Name) gd__law_next) (qpa_cons (qpe_var (i := 3) rfl v28_3 d28_3 c28_3) (qpa_cons (qpe_var (i := 4) rfl v28_4 d28_4 c28_4) (qpa_cons (qpe_var (i := 7) rfl v28_7 d28_7 c28_7) qpa_nil se_Name) se_Name) se_Name) se_Call) gd__law_place))
 (qpss_one (qps_if (qpt_cmpR op_notN (qpe_var (i := 10) rfl v28_10 d28_10 c28_10) qpe_non (nomark _))
  (qpss_one (qps_expr (qpe_bm PySem.F.plainAttrs_list PySem.F.slot_list_append PySem.F.type_list_append mt_append (qpe_var (i := 8) rfl v28_8 d28_8 c28_8) (qpa_cons (qpe_var (i := 10) rfl v28_10 d28_10 c28_10) qpa_nil se_Name))))
  qpss_nil))))
 (qpss_cons (qps_set (i := 11) nd rfl l28_11 (qpe_ix ixa_list (qpe_lst (qpa_cons qpe_int (qpa_cons qpe_int (qpa_cons qpe_int (qpa_cons qpe_int (qpa_cons qpe_int qpa_nil se_Constant) se_Constant) se_Constant) se_Constant) se_Constant)) (qpe_callB call_len_seq g28_len z_len PySem.boot_len (qpa_cons (qpe_var (i := 8) rfl v28_8 d28_8 c28_8) qpa_nil se_Name) nn_len gd_len) (fun _ _ => rfl)))
 (qpss_cons (qps_expr (qpe_bm PySem.F.plainAttrs_list PySem.F.slot_list_append PySem.F.type_list_append mt_append (qpe_var (i := 6) rfl v28_6 d28_6 c28_6) (qpa_cons (qpe_tup (qpa_cons (qpe_var (i := 8) rfl v28_8 d28_8 c28_8) (qpa_cons (qpe_op op_mod (qpe_ix ixa_list (qpe_lst (qpa_cons (qpe_op op_sub (qpe_var (i := 11) rfl v28_11 d28_11 c28_11) qpe_int) (qpa_cons qpe_int (qpa_cons (qpe_callD D_law_next hr g28__law_next pass0 (qpa_cons (qpe_var (i := 0) rfl v28_0 d28_0 c28_0) (qpa_cons (qpe_var (i := 1) rfl v28_1 d28_1 c28_1) qpa_nil se_Name) se_Name) gd__law_next) (qpa_cons (qpe_callD D_law_next hr g28__law_next pass0 (qpa_cons (qpe_var (i := 0) rfl v28_0 d28_0 c28_0) (qpa_cons (qpe_var (i := 1) rfl v28_1 d28_1 c28_1) qpa_nil se_Name) se_Name) gd__law_next) qpa_nil se_Call) se_Call) se_Constant) se_BinOp)) (qpe_op op_mod (qpe_var (i := 2) rfl v28_2 d28_2 c28_2) qpe_int) (fun _ _ => rfl)) (qpe_var (i := 11) rfl v28_11 d28_11 c28_11)) qpa_nil se_BinOp) se_Name)) qpa_nil se_Tuple)))
 (qpss_one (qps_set (i := 2) nd rfl l28_2 (qpe_callD D_law_next hr g28__law_next pass0 (qpa_cons (qpe_var (i := 0) rfl v28_0 d28_0 c28_0) (qpa_cons (qpe_var (i := 1) rfl v28_1 d28_1 c28_1) qpa_nil se_Name) se_Name) gd__law_next))))))))
 (qpss_cons (qps_set (i := 12) nd rfl l28_12 (qpe_lst qpa_nil))
 (qpss_cut (qps_if (qPW_pt (qpw_or (qpt_cmpR op_gt (qpe_op op_add (qpe_var (i := 5) rfl v28_5 d28_5 c28_5) (qpe_var (i := 3) rfl v28_3 d28_3 c28_3)) qpe_int (nomark _)) (qpw_or1 (qpt_cmpR op_gt (qpe_var (i := 4) rfl v28_4 d28_4 c28_4) qpe_int (nomark _)))))
  (qpss_one (qps_loop PassesOwn.never rfl (qpi_range1 g28_range z_range (qpa_cons (qpe_var (i := 4) rfl v28_4 d28_4 c28_4) qpa_nil se_Name)) (qpg_name (i := 9) nd rfl l28_9)
  (qpss_one (qps_expr (qpe_bm PySem.F.plainAttrs_list PySem.F.slot_list_append PySem.F.type_list_append mt_append (qpe_var (i := 12) rfl v28_12 d28_12 c28_12) (qpa_cons (qpe_tup (qpa_cons (qpe_op op_mod (qpe_callD D_law_next hr g28__law_next pass0 (qpa_cons (qpe_var (i := 0) rfl v28_0 d28_0 c28_0) (qpa_cons (qpe_var (i := 1) rfl v28_1 d28_1 c28_1) qpa_nil se_Name) se_Name) gd__law_next) qpe_int) (qpa_cons (qpe_callD D_law_place hr g28__law_place pass0 (qpa_cons (qpe_callD D_law_next hr g28__law_next pass0 (qpa_cons (qpe_var (i := 0) rfl v28_0 d28_0 c28_0) (qpa_cons (qpe_var (i := 1) rfl v28_1 d28_1 c28_1) qpa_nil se_Name) se_Name) gd__law_next) (qpa_cons (qpe_var (i := 3) rfl v28_3 d28_3 c28_3) (qpa_cons (qpe_var (i := 4) rfl v28_4 d28_4 c28_4) (qpa_cons (qpe_var (i := 5) rfl v28_5 d28_5 c28_5) qpa_nil se_Name) se_Name) se_Name) se_Call) gd__law_place) qpa_nil se_Call) se_BinOp)) qpa_nil se_Tuple))))))
  qpss_nil)
 (qpss_cons (qps_setC (i := 13) nd rfl l28_13 rfl cok28_0 (qpi_range1 g28_range z_range (qpa_cons (qpe_op op_mod (qpe_callD D_law_next hr g28__law_next pass0 (qpa_cons (qpe_var (i := 0) rfl v28_0 d28_0 c28_0) (qpa_cons (qpe_var (i := 1) rfl v28_1 d28_1 c28_1) qpa_nil se_Name) se_Name) gd__law_next) qpe_int) qpa_nil se_BinOp)) (fun _ _ _ _ _ => (qpg_name (i := 0) cok28_0.nd rfl (Or.inl kq28_0_0) (Or.inr kq28_0_0))) (fun _ _ _ _ _ => qpif_nil) (fun _ _ _ _ _ => (qpe_callD D_law_place hr gq28_0__law_place pass0 (qpa_cons (qpe_callD D_law_next hr gq28_0__law_next pass0 (qpa_cons (qpe_var (i := 1) rfl vq28_0_1 dq28_0_1 cq28_0_1) (qpa_cons (qpe_var (i := 2) rfl vq28_0_2 dq28_0_2 cq28_0_2) qpa_nil se_Name) se_Name) gd__law_next) (qpa_cons (qpe_var (i := 3) rfl vq28_0_3 dq28_0_3 cq28_0_3) (qpa_cons (qpe_var (i := 4) rfl vq28_0_4 dq28_0_4 cq28_0_4) (qpa_cons (qpe_var (i := 5) rfl vq28_0_5 dq28_0_5 cq28_0_5) qpa_nil se_Name) se_Name) se_Name) se_Call) gd__law_place)) rfl)
 (qpss_one (qps_ret (qpe_tup (qpa_cons (qpe_var (i := 3) rfl v28_3 d28_3 c28_3) (qpa_cons (qpe_var (i := 6) rfl v28_6 d28_6 c28_6) (qpa_cons (qpe_var (i := 12) rfl v28_12 d28_12 c28_12) (qpa_cons (qpe_comp rfl cok28_1 (qpi_list (qpe_var (i := 13) rfl v28_13 d28_13 c28_13)) (fun _ _ _ _ _ => (qpg_name (i := 0) cok28_1.nd rfl (Or.inl kq28_1_0) (Or.inr kq28_1_0))) (fun _ _ _ _ _ => (qpif_one (qpt_cmpR op_notN (qpe_var (i := 0) rfl vq28_1_0 dq28_1_0 cq28_1_0) qpe_non (nomark _)))) (fun _ _ _ _ _ => (qpe_var (i := 0) rfl vq28_1_0 dq28_1_0 cq28_1_0))) qpa_nil se_ListComp) se_Name) se_Name) se_Name)))))))))))), ?_⟩
  (try dsimp only [cxOf])
  walk_at "rd"
  rename_i m H1 m0 m1 c1 b1 p2 hp2 tl htl
  have d4 : DQ K H (upd H1 p2 (HO.tup [V.int (m % 5), V.int (m / 5 % 4), V.int (m / 20 % 10)])) a b ns (c + 1) := ((⟨c1, hS.ch hb c1, b1⟩ : DQ K H H1 a b ns (c + 1)).new (Ch.new hp2 _))
  generalize upd H1 p2 (HO.tup [V.int (m % 5), V.int (m / 5 % 4), V.int (m / 20 % 10)]) = H4 at d4 htl ⊢
  obtain ⟨ins, ei, i1⟩ : ∃ n : Nat, m % 5 = (n : Int) ∧ n ≤ 12 := ⟨(m % 5).toNat, by omega, by omega⟩
  obtain ⟨keeps, ek, k1⟩ : ∃ n : Nat, m / 5 % 4 = (n : Int) ∧ n ≤ 12 := ⟨(m / 5 % 4).toNat, by omega, by omega⟩
  obtain ⟨many, el, l1⟩ : ∃ n : Nat, m / 20 % 10 = (n : Int) ∧ n ≤ 12 := ⟨(m / 20 % 10).toNat, by omega, by omega⟩
  (try dsimp only)
  rw [ei, ek, el]
  clear ei ek el c1 b1 hp2
  have ftl : H tl = none := d4.free htl
  have nbt : b ≠ tl := d4.nb htl
  have e0 : TL K H (upd H4 tl (.lst [])) a b ns tl ins keeps [] (c + 1) := ⟨d4.new (Ch.new htl _), ⟨[], upd_same, .nil⟩, fun i t h => by simp at h⟩
  clear d4
  refine loop_range (fun i σ H' => ∃ m' ts c' u8 u9 u10 u11 u12, σ = [some (.ref a), some (.ref b), some (.int m'), some (.int (ins : Int)), some (.int (keeps : Int)), some (.int (many : Int)), some (.ref tl), u8, u9, u10, u11, u12, none, none] ∧ TL K H H' a b ns tl ins keeps ts c' ∧ ts.length = i ∧ CI c' (c + 1) (10 * i)) ⟨m, [], c + 1, _, _, _, _, _, rfl, e0, rfl, by omega, by omega⟩ ?_ ?_
  · clear e0
    rintro i σ H' hi ⟨m', ts, c', u8, u9, u10, u11, u12, rfl, tL, hl, ci⟩
    have hi : i < many := by simpa using hi
    rw [Int.zero_add]
    have ci1 := ci.lo
    have ci2 := ci.hi
    have hS' := tL.d.hS
    have hb' := tL.d.hb
    walk_at "rd"
    rename_i lp hlp n5 H5 n50 n51 c5 b5
    have nbl : b ≠ lp := tL.d.nb hlp
    have dz : DQ K H' H5 a b ns (c' + 1) := (⟨(Ch.new hlp _), hS'.same (Ch.new hlp _), g_new hlp hb'⟩ : DQ K H' (upd H' lp (.lst [])) a b ns c').next c5 b5
    have g5 : H5 lp = some (.lst []) := c5.get upd_same (by simpa using nbl.symm)
    refine loop_range (fun j σ H'' => ∃ ls c'' u10 u11 u12, σ = [some (.ref a), some (.ref b), some (.int m'), some (.int (ins : Int)), some (.int (keeps : Int)), some (.int (many : Int)), some (.ref tl), some (.int (i : Int)), some (.ref lp), u10, u11, u12, none, none] ∧ LL K H' H'' a b ns lp ins keeps i ls c'' ∧ ls.length ≤ j ∧ CI c'' (c' + 1) j) ⟨[], c' + 1, _, _, _, rfl, ⟨dz, ⟨[], g5, .nil⟩, by simp⟩, Nat.le_refl _, by omega, by omega⟩ ?_ ?_
    · clear dz g5 c5 b5
      rintro j σ H'' hj ⟨ls, c'', v10, v11, v12, rfl, lL, lj, cj⟩
      have hj : j < 5 := by have : j < (n5 % 5).toNat := hj; omega
      have cj1 := cj.lo
      have cj2 := cj.hi
      have hS2 := lL.d.hS
      have hb2 := lL.d.hb
      walk_at "rd"
      rename_i n6 H6 n60 n61 c6 b6
      have d6 := lL.d.next c6 b6
      obtain ⟨qs, gq, ws⟩ := lL.ex
      have g6 : H6 lp = some (.lst (qs.map V.ref)) := c6.get gq (by simpa using nbl.symm)
      have ws6 := ws.tu (Tu.lst c6 hb2)
      refine ⟨⟨n60, by omega, by omega, by omega⟩, fun _ H7 c7 => ?_, fun p x H7 c7 lx hx => ?_⟩
      · walk_at "rd"
        exact ⟨⟨d6.new c7, ⟨qs, c7.get g6 (by simp), ws6.tu (Tu.same c7)⟩, lL.lo⟩, by omega, by omega, by omega⟩
      · have g7 := c7.get g6 (by simp)
        have lw := Paired.length ws
        rw [List.length_map] at lw
        have lq : (qs.map V.ref).length ≤ 5 := by rw [List.length_map]; omega
        walk_at "rd"
        have tu8 : Tu H7 (upd H7 lp (.lst (qs.map V.ref ++ [.ref p]))) := Tu.lst Ch.put g7
        refine ⟨⟨(d6.new c7).own hlp g7 nbl, ⟨qs ++ [p], by rw [upd_same, List.map_append]; rfl, ?_⟩, fun y hy => ?_⟩, (by simp; omega : (ls ++ [x]).length ≤ j + 1), by omega, by omega⟩
        · exact WsAt.snoc (tu8 _ _ hx) ((ws6.tu (Tu.same c7)).tu tu8)
        · rcases List.mem_append.mp hy with z | z
          · exact lL.lo y z
          · rw [List.mem_singleton.mp z]; exact lx
    · clear dz g5 c5 b5
      rintro σ H'' ⟨ls, c'', v10, v11, v12, rfl, lL, lj, cj⟩
      have lj : ls.length ≤ 4 := by have : ls.length ≤ (n5 % 5).toNat := lj; omega
      have cj1 := cj.lo
      have cj2 : c'' ≤ c' + 1 + 4 := by have := cj.hi; omega
      have hS2 := lL.d.hS
      have hb2 := lL.d.hb
      obtain ⟨qs, gq, ws⟩ := lL.ex
      have lw := Paired.length ws
      rw [List.length_map] at lw
      have ra : atI [V.int 2, V.int 4, V.int 16, V.int 256, V.int 65536] ((qs.map V.ref).length : Int) = some (.int (room ls.length)) := by rw [List.length_map, ← lw]; exact room_at lj
      obtain ⟨rp, rp2⟩ := room_pos lj
      obtain ⟨tps, gt, tt⟩ := tL.tb
      have lt := Paired.length tt
      have gt2 : H'' tl = some (.lst (tps.map V.ref)) := lL.d.ch.get gt (by simpa using nbt.symm)
      have tt2 := paired_imp (fun _ _ => TbL.kl (lL.d.kl hb' (by simp))) tt
      have lpt : lp ≠ tl := (ne_of_none gt hlp).symm
      have t12 : (tps.map V.ref).length ≤ 12 := by rw [List.length_map]; omega
      have hb3 := lL.d.hb
      walk_at "rd"
      rename_i p8 hp8 n8 H8 n80 n81 c8 b8 n9 H9 n90 n91 c9 b9 p9 hp9
      obtain ⟨v, hv⟩ := four (x0 := room ls.length - 1) (x1 := 0) (x2 := n8) (x3 := n9) m'
      refine Atx.of hv ?_
      walk_at "rd"
      rename_i T hT
      have d9 : DQ K H H9 a b ns (c'' + 1 + 1) := (((tL.d.trans lL.d).new (Ch.new hp8 _)).next c8 b8).next c9 b9
      have k9 : Kl [b, tl] H'' H9 := ((Kl.new (Ch.new hp8 _)).trans (Kl.one c8 (g_new hp8 hb3) (by simp))).trans (Kl.one c9 b8 (by simp))
      have dT := (d9.new (Ch.new hp9 (HO.lst [V.int (room ls.length - 1), V.int 0, V.int n8, V.int n9]))).new (Ch.new hT (HO.tup [.ref lp, .int (v % room ls.length)]))
      have kT : Kl [b, tl] H'' _ := (k9.trans (Kl.new (Ch.new hp9 (HO.lst [V.int (room ls.length - 1), V.int 0, V.int n8, V.int n9])))).trans (Kl.new (Ch.new hT (HO.tup [.ref lp, .int (v % room ls.length)])))
      have gT : (upd (upd H9 p9 (HO.lst [V.int (room ls.length - 1), V.int 0, V.int n8, V.int n9])) T (HO.tup [.ref lp, .int (v % room ls.length)])) tl = some (.lst (tps.map V.ref)) := g_new hT (g_new hp9 (c9.get (c8.get (g_new hp8 gt2) (by simpa using nbt.symm)) (by simpa using nbt.symm)))
      have dJ := dT.own (zs := tps.map V.ref ++ [.ref T]) ftl gT nbt
      refine ⟨dJ.hS, dJ.hb, by omega, by omega, fun n10 H10 n100 n101 c10 b10 => ?_⟩
      have kJ := (Kl.one (ex := [b, tl]) (Ch.put (o := .lst (tps.map V.ref ++ [.ref T]))) gT (by simp)).trans (Kl.one c10 dJ.hb (by simp))
      have nex : lp ∉ [b, tl] := by simp [nbl.symm, lpt]
      have okn : Tb.ok ins keeps i ⟨ls, v % room ls.length⟩ := ⟨lj, lL.lo, Int.emod_nonneg _ (by omega), Int.emod_lt_of_pos _ rp⟩
      walk_at "rd"
      refine ⟨⟨dJ.next c10 b10, ⟨tps ++ [T], by rw [List.map_append]; exact c10.get upd_same (by simpa using nbt.symm), paired_snoc (x := ⟨ls, v % room ls.length⟩) ⟨lp, qs, nex, kJ.t _ _ upd_same, kJ.l _ _ nex (kT.l _ _ nex gq), (ws.tu kT.t).tu kJ.t⟩ (paired_imp (fun _ _ z => TbL.kl kJ (TbL.kl kT z)) tt2)⟩, fun j t h => ?_⟩, by simp [hl], by omega, by omega⟩
      by_cases hj : j < ts.length
      · rw [List.getElem?_append_left hj] at h
        exact tL.ok j t h
      · have h2 := (List.getElem?_eq_some_iff.mp h).1
        rw [List.length_append, List.length_singleton] at h2
        have en : j = ts.length := by omega
        subst en
        rw [List.getElem?_append_right (Nat.le_refl _), Nat.sub_self] at h
        cases h
        rw [hl]
        exact okn
  · clear e0
    rintro σ H5 ⟨m', ts, c', u8, u9, u10, u11, u12, rfl, tL, hl, ci⟩
    have hl : ts.length = many := by simpa using hl
    have ci1 := ci.lo
    have ci2 : c' ≤ c + 1 + 120 := by have := ci.hi; omega
    walk_at "rd"
    rename_i kl hkl
    have fkl := hkl
    have nbk : b ≠ kl := tL.d.nb hkl
    obtain ⟨tps, gt, tt⟩ := tL.tb
    have nkt : kl ≠ tl := (ne_of_none gt hkl).symm
    have hS5 := tL.d.hS
    have hb5 := tL.d.hb
    have k0 : KI K H5 (upd H5 kl (.lst [])) a b ns kl ins keeps many [] c' := ⟨⟨Ch.new hkl _, hS5.same (Ch.new hkl _), g_new hkl hb5⟩, ⟨[], upd_same, .nil⟩, by simp⟩
    refine cut_by (fun σ H' => ∃ ks c'' v10, σ = [some (.ref a), some (.ref b), some (.int m'), some (.int (ins : Int)), some (.int (keeps : Int)), some (.int (many : Int)), some (.ref tl), u8, u9, v10, u11, u12, some (.ref kl), none] ∧ KI K H5 H' a b ns kl ins keeps many ks c'' ∧ ks.length = keeps ∧ CI c'' c' 24) ?_ ?_
    · walk_at "rd"
      refine (fun g => ite2 (fun _ => iteT g) (fun _ => ?_)) ?_
      · walk_at "rd"
        refine ite2 (fun _ => g) (fun h2 => ?_)
        have kz : keeps = 0 := by have : ¬ (0 : Int) < (keeps : Int) := by simpa using h2
                                  omega
        walk_at "rd"
        exact ⟨by omega, by omega⟩
      · walk_at "rd"
        refine loop_range (fun j σ H' => ∃ ks c'' v10, σ = [some (.ref a), some (.ref b), some (.int m'), some (.int (ins : Int)), some (.int (keeps : Int)), some (.int (many : Int)), some (.ref tl), u8, u9, v10, u11, u12, some (.ref kl), none] ∧ KI K H5 H' a b ns kl ins keeps many ks c'' ∧ ks.length = j ∧ CI c'' c' (2 * j)) ⟨[], c', _, rfl, k0, rfl, by omega, by omega⟩ ?_ ?_
        · clear k0
          rintro j σ H' hj ⟨ks, c'', v10, rfl, kI, lj, cj⟩
          have hj : j < keeps := by simpa using hj
          have cj1 := cj.lo
          have cj2 := cj.hi
          obtain ⟨qs, gq, kk⟩ := kI.ex
          have lk := Paired.length kk
          have lq : (qs.map V.ref).length ≤ 12 := by rw [List.length_map]; omega
          have hS6 := kI.d.hS
          have hb6 := kI.d.hb
          walk_at "rd"
          rename_i n6 H6 n60 n61 c6 b6 n7 H7 n70 n71 c7 b7
          refine ⟨⟨n70, by omega, by omega, by omega⟩, fun z => absurd z.2.1 (by omega), fun p x H8 c8 lx hx => ?_⟩
          have d8 := ((kI.d.next c6 b6).next c7 b7).new c8
          have tu8 : Tu H' H8 := ((Tu.lst c6 hb6).trans (Tu.lst c7 b6)).trans (Tu.same c8)
          have g8 : H8 kl = some (.lst (qs.map V.ref)) := c8.get (c7.get (c6.get gq (by simpa using nbk.symm)) (by simpa using nbk.symm)) (by simp)
          walk_at "rd"
          rename_i T hT
          have dT := d8.new (Ch.new hT (HO.tup [.int (n6 % 2), .ref p]))
          have gT : (upd H8 T (HO.tup [.int (n6 % 2), .ref p])) kl = some (.lst (qs.map V.ref)) := g_new hT g8
          have tuT : Tu H8 (upd (upd H8 T (HO.tup [.int (n6 % 2), .ref p])) kl (.lst (qs.map V.ref ++ [.ref T]))) := (Tu.new _ hT).trans (Tu.lst Ch.put gT)
          have hKp : KpAt (upd (upd H8 T (HO.tup [.int (n6 % 2), .ref p])) kl (.lst (qs.map V.ref ++ [.ref T]))) ⟨decide (n6 % 2 = 1), x⟩ T := by
            refine ⟨p, ?_, tuT _ _ hx⟩
            rw [← tb_bi n6]
            exact Tu.lst Ch.put gT _ _ upd_same
          have hlo : ∀ y ∈ ks ++ [⟨decide (n6 % 2 = 1), x⟩], y.pl.2 < lim ins keeps many y.pl.1 := fun y hy => by
            rcases List.mem_append.mp hy with z | z
            · exact kI.lo y z
            · rw [List.mem_singleton.mp z]; exact lx
          exact ⟨⟨dT.own fkl gT nbk, ⟨qs ++ [T], by rw [upd_same, List.map_append]; rfl, paired_snoc hKp (paired_imp (fun _ _ z => KpAt.tu (tu8.trans tuT) z) kk)⟩, hlo⟩, by simp [lj], by omega, by omega⟩
        · rintro σ H' ⟨ks, c'', v10, rfl, kI, lj, cj⟩
          have lj : ks.length = keeps := by simpa using lj
          have cj1 := cj.lo
          have cj2 := cj.hi
          exact ⟨ks, c'', _, rfl, kI, lj, by omega, by omega⟩
    clear k0
    rintro σ H6 ⟨ks, c'', v10, rfl, kI, lk, cj⟩
    have cj1 := cj.lo
    have cj2 := cj.hi
    have kl6 : Kl [b, tl] H5 H6 := kI.d.kl hb5 (by simp)
    have gt6 : H6 tl = some (.lst (tps.map V.ref)) := kI.d.ch.get gt (by simpa using nbt.symm)
    have tt6 := paired_imp (fun _ _ => TbL.kl kl6) tt
    obtain ⟨kps, gk6, kk⟩ := kI.ex
    have d06 := tL.d.trans kI.d
    have dz : DQ K H6 H6 a b ns c'' := ⟨Ch.refl _ _, kI.d.hS, kI.d.hb⟩
    have hb6 := kI.d.hb
    have hS6 := kI.d.hS
    have klo := kI.lo
    clear kI kl6
    walk_at "rd"
    rename_i nt H66 nt0 nt1 c66 b66
    have dz := dz.next c66 b66
    refine comp_range (fun j ys σ H' => ∃ os c3, OL K H6 H' a b ns ins keeps many os ys c3 ∧ os.length = j ∧ CI c3 (c'' + 1) j ∧ ∃ u, σ = [u, some (.ref a), some (.ref b), some (.int (ins : Int)), some (.int (keeps : Int)), some (.int (many : Int))]) (by rw [sizeLine_eq]; omega) ⟨[], c'' + 1, ⟨dz, .nil, by simp⟩, rfl, ⟨by omega, by omega⟩, _, rfl⟩ ?_ ?_ ?_
    · rintro j ys σ H' hj ⟨os, c3, oL, lj, _⟩
      rw [← Paired.length oL.ex]
      omega
    · clear dz
      rintro j ys σ H' hj ⟨os, c3, oL, lj, cj, u, rfl⟩
      have hj : j < 4 := by have : j < (nt % 4).toNat := hj; omega
      have cj1 := cj.lo
      have cj2 := cj.hi
      have hS7 := oL.d.hS
      have hb7 := oL.d.hb
      walk_at "rd"
      rename_i n7 H7 n70 n71 c7 b7
      have d7 := oL.d.next c7 b7
      have tu7 := Tu.lst c7 hb7
      refine ⟨⟨n70, by omega, by omega, by omega⟩, fun z H8 c8 => ?_, fun p x H8 c8 lx hx => ?_⟩
      · refine ⟨os ++ [none], c3 + 1, ⟨d7.new c8, paired_snoc (R := OpAt H8) (x := none) (y := V.non) rfl (paired_imp (fun _ _ => OpAt.tu (tu7.trans (Tu.same c8))) oL.ex), fun y hy => oL.lo y (by simpa using hy)⟩, by simp [lj], ⟨by omega, by omega⟩, _, rfl⟩
      · refine ⟨os ++ [some x], c3 + 1, ⟨d7.new c8, paired_snoc (R := OpAt H8) (x := some x) (y := V.ref p) ⟨p, rfl, hx⟩ (paired_imp (fun _ _ => OpAt.tu (tu7.trans (Tu.same c8))) oL.ex), fun y hy => ?_⟩, by simp [lj], ⟨by omega, by omega⟩, _, rfl⟩
        rcases List.mem_append.mp hy with z | z
        · exact oL.lo y z
        · cases List.mem_singleton.mp z; exact lx
    · clear dz
      rintro ys σ H7 ⟨os, c3, oL, lj, cj, _⟩
      have lj : os.length ≤ 4 := by have : os.length = (nt % 4).toNat := lj; omega
      have cj1 := cj.lo
      have cj2 := cj.hi
      have lo := Paired.length oL.ex
      intro ol' hol'
      have d07 := d06.trans oL.d
      have tk7 : Kl [b, tl] H6 (upd H7 ol' (.lst ys)) := (oL.d.kl hb6 (by simp)).trans (Kl.new (Ch.new hol' _))
      have g8 : (upd H7 ol' (.lst ys)) ol' = some (.lst ys) := upd_same
      have d8 := d07.new (Ch.new hol' (HO.lst ys))
      have oo8 := paired_imp (fun _ _ => OpAt.tu (Tu.new (HO.lst ys) hol')) oL.ex
      have gt8 : (upd H7 ol' (.lst ys)) tl = some (.lst (tps.map V.ref)) := g_new hol' (oL.d.ch.get gt6 (by simpa using nbt.symm))
      have gk8 : (upd H7 ol' (.lst ys)) kl = some (.lst (kps.map V.ref)) := g_new hol' (oL.d.ch.get gk6 (by simpa using nbk.symm))
      generalize upd H7 ol' (.lst ys) = H8 at tk7 g8 d8 oo8 gt8 gk8 ⊢
      clear hol' d07
      walk_at "rd"
      refine comp_list ys (fun j zs σ H' => H' = H8 ∧ (∃ ps, zs = ps.map V.ref ∧ WsAt H8 (((os.take j).filterMap id).map plK) ps) ∧ ∃ u, σ = [u]) (by rw [sizeLine_eq]; omega) ⟨rfl, ⟨[], rfl, .nil⟩, _, rfl⟩ ?_ ?_ ?_
      · rintro j zs σ H' hj ⟨rfl, ⟨ps, rfl, ws⟩, _⟩
        refine ⟨?_, SqL.of g8⟩
        have e := Paired.length ws
        rw [List.length_map] at e
        rw [List.length_map, ← e]
        exact Nat.le_trans (List.length_filterMap_le _ _) (by rw [List.length_take]; omega)
      · rintro j zs σ H' z hz ⟨rfl, ⟨ps, rfl, ws⟩, u, rfl⟩
        obtain ⟨o, eo, hz2⟩ := opget oo8 j z hz
        have tk : (os.take (j + 1)).filterMap id = (os.take j).filterMap id ++ [o].filterMap id := by rw [List.take_add_one, eo, List.filterMap_append]; rfl
        rw [tk]
        cases o with
        | none =>
          obtain rfl : z = .non := hz2
          walk_at "rd"
          exact ⟨⟨ps, rfl, by simpa using ws⟩, _, rfl⟩
        | some x =>
          obtain ⟨p, rfl, hp⟩ := hz2
          walk_at "rd"
          exact ⟨⟨ps ++ [p], by simp, WsAt.snoc hp ws⟩, _, rfl⟩
      · rintro zs σ H' ⟨rfl, ⟨ps, rfl, ws⟩, _⟩
        intro ol hol
        rw [← lo, List.take_length] at ws
        walk_at "rd"
        rename_i R hR
        have cR : Ch [] H' (upd (upd H' ol (.lst (ps.map V.ref))) R (.tup [.int (ins : Int), .ref tl, .ref kl, .ref ol])) := (Ch.new hol _).trans (Ch.new hR _)
        have kF := tk7.trans (Kl.new cR)
        have nbo : b ≠ ol := d8.nb hol
        have tok := tL.ok
        have olo := oL.lo
        have lf : (os.filterMap id).length ≤ 12 := Nat.le_trans (List.length_filterMap_le _ _) (by omega)
        have dR := d8.new cR
        clear tL oL d8
        subst lk
        subst hl
        exact q R tl kl ol ins ts ks (os.filterMap id) _ ⟨⟨c3, dR, by omega, by omega⟩, ⟨⟨by simpa using nbt.symm, tps, cR.get gt8 (by simp), paired_imp (fun _ _ z => (TbL.kl kF z).weak) tt6⟩, ⟨by simpa using nbk.symm, kps, cR.get gk8 (by simp), paired_imp (fun _ _ => KpAt.tu kF.t) kk⟩, ⟨by simpa using nbo.symm, ps, g_new hR upd_same, ws.tu (Tu.same cR)⟩⟩, ⟨tok, klo, fun x hx => olo x (by simpa using hx), by omega, by omega, by omega, lf⟩⟩ upd_same
end
end

section
def Plc.g (x : Plc) : List V := [.str x.1.s, .int (x.2 : Int)]
def Tb.g (t : Tb) : TG := .tb (t.ls.map Plc.g) t.bits
def Kp.g (k : Kp) : KG := .kp (bi k.f) k.pl.g
def Wd.isT : Wd → Bool
  | .t => true
  | _ => false
theorem gr_nn : ∀ ns : List Int, 0 ≤ gr ns
  | [] => Int.le_refl _
  | x :: xs => by have := gr_nn xs; show 0 ≤ max x (gr xs); omega
def tl (ds : List Int) (ls : List Plc) : List Int := (ls.filter fun x => x.1.isT).map fun x => ds.getD x.2 0
def dpn (ts : List Tb) : Nat → List Int
  | 0 => []
  | n + 1 => match ts[n]? with
    | some t => dpn ts n ++ [1 + gr (tl (dpn ts n) t.ls)]
    | none => dpn ts n
theorem dpn_succ {ts : List Tb} {n : Nat} {t : Tb} (h : ts[n]? = some t) : dpn ts (n + 1) = dpn ts n ++ [1 + gr (tl (dpn ts n) t.ls)] := by simp only [dpn, h]
theorem dpn_len {ts : List Tb} : ∀ {n : Nat}, n ≤ ts.length → (dpn ts n).length = n
  | 0, _ => rfl
  | n + 1, h => by
    have e : ts[n]? = some ts[n] := List.getElem?_eq_getElem (by omega)
    rw [dpn_succ e, List.length_append, dpn_len (n := n) (by omega), List.length_singleton]
theorem dpn_nn {ts : List Tb} : ∀ {n : Nat}, ∀ a ∈ dpn ts n, 0 ≤ a
  | 0, a, h => by cases h
  | n + 1, a, h => by
    unfold dpn at h
    split at h
    · rcases List.mem_append.mp h with z | z
      · exact dpn_nn a z
      · rw [List.mem_singleton.mp z]; have := gr_nn (tl (dpn ts n) (by assumption : Tb).ls); omega
    · exact dpn_nn a h
theorem tl_nn {ds : List Int} (h : ∀ a ∈ ds, 0 ≤ a) {ls : List Plc} : ∀ a ∈ tl ds ls, 0 ≤ a := by
  intro a ha
  obtain ⟨x, _, rfl⟩ := List.mem_map.mp ha
  by_cases z : x.2 < ds.length
  · rw [List.getD_eq_getElem?_getD, List.getElem?_eq_getElem z]; exact h _ (List.getElem_mem _)
  · rw [List.getD_eq_getElem?_getD, List.getElem?_eq_none (by omega)]; exact Int.le_refl _
theorem paired_app {α β : Type} {R : α → β → Prop} : ∀ {xs : List α} {ys : List β} {xs' : List α} {ys' : List β}, Paired R xs ys → Paired R xs' ys' → Paired R (xs ++ xs') (ys ++ ys')
  | _, _, _, _, .nil, h => h
  | _, _, _, _, .cons a t, h => .cons a (paired_app t h)
section
variable {P : Program} {w : World} {K : PySem.W.Frag} {mg : Str → Option Value} {base : Heap} {f : Addr} {fd : FuncData} {k : Nat}
theorem bo_max : bootBuiltins "max" = some (.builtin "max") := by decide +kernel
theorem l23_1 : Lc (defScope (top 23)) "depths" := by decide +kernel
theorem v23_0 : Vs (defScope (top 23)) "tables" := by decide +kernel
theorem d23_0 : Nd "tables" := by decide +kernel
theorem c23_0 : Nc "tables" := by decide +kernel
theorem l23_3 : Lc (defScope (top 23)) "bits" := by decide +kernel
theorem l23_2 : Lc (defScope (top 23)) "leaves" := by decide +kernel
theorem v23_1 : Vs (defScope (top 23)) "depths" := by decide +kernel
theorem d23_1 : Nd "depths" := by decide +kernel
theorem c23_1 : Nc "depths" := by decide +kernel
theorem g23_max : Gi (defScope (top 23)) "max" := by decide +kernel
theorem v23_2 : Vs (defScope (top 23)) "leaves" := by decide +kernel
theorem d23_2 : Nd "leaves" := by decide +kernel
theorem c23_2 : Nc "leaves" := by decide +kernel
def csc23_0 : Scope := { kind := PySem.ScopeKind.function, names := [ (PySem.Str.ofString ".0", PySem.NameKind.local), (PySem.Str.ofString "word", PySem.NameKind.local), (PySem.Str.ofString "number", PySem.NameKind.local), (PySem.Str.ofString "depths", PySem.NameKind.free)], isGenerator := false, isCoroutine := false, more := [] : PySem.Scope }
theorem cok23_0 : CompOk csc23_0 (defScope (top 23)) (["word", "number"] : List Str) (["tables", "depths", "leaves", "bits", "ends"] : List Str) [1] (["word", "number", "depths"] : List Str) := compOk rfl (by decide +kernel) (by decide +kernel) (by decide +kernel) (by decide +kernel) rfl (by decide +kernel)
theorem kq23_0_1 : (relab csc23_0 (defScope (top 23))).names.lookup (Str.ofString "number") = some NameKind.local := by decide +kernel
theorem kq23_0_0 : (relab csc23_0 (defScope (top 23))).names.lookup (Str.ofString "word") = some NameKind.local := by decide +kernel
theorem vq23_0_0 : Vs (relab csc23_0 (defScope (top 23))) "word" := by decide +kernel
theorem dq23_0_0 : Nd "word" := by decide +kernel
theorem cq23_0_0 : Nc "word" := by decide +kernel
theorem vq23_0_2 : Vs (relab csc23_0 (defScope (top 23))) "depths" := by decide +kernel
theorem dq23_0_2 : Nd "depths" := by decide +kernel
theorem cq23_0_2 : Nc "depths" := by decide +kernel
theorem vq23_0_1 : Vs (relab csc23_0 (defScope (top 23))) "number" := by decide +kernel
theorem dq23_0_1 : Nd "number" := by decide +kernel
theorem cq23_0_1 : Nc "number" := by decide +kernel
theorem l23_4 : Lc (defScope (top 23)) "ends" := by decide +kernel
theorem g23_list : Gi (defScope (top 23)) "list" := by decide +kernel
def csc23_1 : Scope := { kind := PySem.ScopeKind.function, names := [ (PySem.Str.ofString ".0", PySem.NameKind.local), (PySem.Str.ofString "first", PySem.NameKind.local), (PySem.Str.ofString "place", PySem.NameKind.local)], isGenerator := false, isCoroutine := false, more := [] : PySem.Scope }
theorem cok23_1 : CompOk csc23_1 (defScope (top 23)) (["first", "place"] : List Str) (["tables", "depths", "leaves", "bits", "ends"] : List Str) [] (["first", "place"] : List Str) := compOk rfl (by decide +kernel) (by decide +kernel) (by decide +kernel) (by decide +kernel) rfl (by decide +kernel)
theorem kq23_1_1 : (relab csc23_1 (defScope (top 23))).names.lookup (Str.ofString "place") = some NameKind.local := by decide +kernel
theorem kq23_1_0 : (relab csc23_1 (defScope (top 23))).names.lookup (Str.ofString "first") = some NameKind.local := by decide +kernel
theorem vq23_1_1 : Vs (relab csc23_1 (defScope (top 23))) "place" := by decide +kernel
theorem dq23_1_1 : Nd "place" := by decide +kernel
theorem cq23_1_1 : Nc "place" := by decide +kernel
theorem v23_4 : Vs (defScope (top 23)) "ends" := by decide +kernel
theorem d23_4 : Nd "ends" := by decide +kernel
theorem c23_4 : Nc "ends" := by decide +kernel
def csc23_2 : Scope := { kind := PySem.ScopeKind.function, names := [ (PySem.Str.ofString ".0", PySem.NameKind.local), (PySem.Str.ofString "word", PySem.NameKind.local), (PySem.Str.ofString "number", PySem.NameKind.local), (PySem.Str.ofString "depths", PySem.NameKind.free)], isGenerator := false, isCoroutine := false, more := [] : PySem.Scope }
theorem cok23_2 : CompOk csc23_2 (defScope (top 23)) (["word", "number"] : List Str) (["tables", "depths", "leaves", "bits", "ends"] : List Str) [1] (["word", "number", "depths"] : List Str) := compOk rfl (by decide +kernel) (by decide +kernel) (by decide +kernel) (by decide +kernel) rfl (by decide +kernel)
theorem kq23_2_1 : (relab csc23_2 (defScope (top 23))).names.lookup (Str.ofString "number") = some NameKind.local := by decide +kernel
theorem kq23_2_0 : (relab csc23_2 (defScope (top 23))).names.lookup (Str.ofString "word") = some NameKind.local := by decide +kernel
theorem vq23_2_0 : Vs (relab csc23_2 (defScope (top 23))) "word" := by decide +kernel
theorem dq23_2_0 : Nd "word" := by decide +kernel
theorem cq23_2_0 : Nc "word" := by decide +kernel
theorem vq23_2_2 : Vs (relab csc23_2 (defScope (top 23))) "depths" := by decide +kernel
theorem dq23_2_2 : Nd "depths" := by decide +kernel
theorem cq23_2_2 : Nc "depths" := by decide +kernel
theorem vq23_2_1 : Vs (relab csc23_2 (defScope (top 23))) "number" := by decide +kernel
theorem dq23_2_1 : Nd "number" := by decide +kernel
theorem cq23_2_1 : Nc "number" := by decide +kernel
theorem scDep : FnScope ["tables", "depths", "leaves", "bits", "ends"] ["tables"] (defScope (top 23)) := ⟨rfl, rfl, rfl, by decide +kernel, rfl, by decide +kernel, by decide +kernel⟩
def spDep (C : Addr) : Sp := fun vs H Q _ => ∃ (x dx tt kt ot : Addr) (ins : Nat) (ts : List Tb) (ks : List Kp) (os : List Plc), vs = [.ref x] ∧ H x = some (.ins C dx (fldsT ins tt kt ot)) ∧ TgT H tt kt ot (ts.map Tb.g) (ks.map Kp.g) (os.map Plc.g) ∧ Okd ins ts ks os ∧ ∀ H', Ch [] H H' → Q (.int (gr (tl (dpn ts ts.length) (os ++ ks.map Kp.pl)))) H'
theorem ok_dep {C : Addr} (F : Fun K "depth_of" "depth_of" (top 23) f fd) (cl : Cls K C) (nT : NoAttr K C "tables") (nK : NoAttr K C "keeps") (nO : NoAttr K C "outs") (z_max : mg "max" = none) (z_list : mg "list" = none) : FnOk P w K mg base CX0 (k + 1) f fd ["tables"] (spDep C) := by
  have nd := scDep.nd
  refine F.ok scDep (fun vs H Q E h => by obtain ⟨x, dx, tt, kt, ot, ins, ts, ks, os, rfl, _⟩ := h; rfl) (fun cdv A outer s H vs Q E hr h => ?_)
  obtain ⟨x, dx, tt, kt, ot, ins, ts, ks, os, rfl, hx, tg, ok, q⟩ := h
  refine ⟨_, (Pr.h (qpss_cons (qps_set (i := 1) nd rfl l23_1 (qpe_lst qpa_nil))
 (qpss_cons (qps_loop PassesOwn.never rfl (qpi_tup (qpe_fld (qpe_var (i := 0) rfl v23_0 d23_0 c23_0) rfl)) (qpg_tup rfl (qpgs_cons (qpg_name (i := 2) nd rfl l23_2) (qpgs_cons (qpg_name (i := 3) nd rfl l23_3) qpgs_nil)))
  (qpss_one (qps_expr (qpe_bm PySem.F.plainAttrs_list PySem.F.slot_list_append PySem.F.type_list_append mt_append (qpe_var (i := 1) rfl v23_1 d23_1 c23_1) (qpa_cons (qpe_op op_add qpe_int (qpe_callBK (call_maxD rfl) g23_max z_max bo_max (qpa_cons (qpe_comp rfl cok23_0 (qpi_tup (qpe_var (i := 2) rfl v23_2 d23_2 c23_2)) (fun _ _ _ _ _ => (qpg_tupK K 2 rfl rfl (qpgs_cons (qpg_name (i := 0) cok23_0.nd rfl (Or.inl kq23_0_0) (Or.inr kq23_0_0)) (qpgs_cons (qpg_name (i := 1) cok23_0.nd rfl (Or.inl kq23_0_1) (Or.inr kq23_0_1)) qpgs_nil)))) (fun _ _ _ _ _ => (qpif_one (qpt_cmpR op_eq (qpe_var (i := 0) rfl vq23_0_0 dq23_0_0 cq23_0_0) qpe_str (nomark _)))) (fun _ _ _ _ _ => (qpe_ix (ixaK_list K rfl) (qpe_var (i := 2) rfl vq23_0_2 dq23_0_2 cq23_0_2) (qpe_var (i := 1) rfl vq23_0_1 dq23_0_1 cq23_0_1) (fun _ _ => rfl)))) qpa_nil se_ListComp) (pk_cons qpe_int.h pk_nil))) qpa_nil se_BinOp)))))
 (qpss_cons (qps_set (i := 4) nd rfl l23_4 (qpe_op op_cat (qpe_callTy call_list_of g23_list z_list bo_list (qpa_cons (qpe_fld (qpe_var (i := 0) rfl v23_0 d23_0 c23_0) rfl) qpa_nil se_Attribute) nn_list gd_list) (qpe_comp rfl cok23_1 (qpi_tup (qpe_fld (qpe_var (i := 0) rfl v23_0 d23_0 c23_0) rfl)) (fun _ _ _ _ _ => (qpg_tupK K 2 rfl rfl (qpgs_cons (qpg_name (i := 0) cok23_1.nd rfl (Or.inl kq23_1_0) (Or.inr kq23_1_0)) (qpgs_cons (qpg_name (i := 1) cok23_1.nd rfl (Or.inl kq23_1_1) (Or.inr kq23_1_1)) qpgs_nil)))) (fun _ _ _ _ _ => qpif_nil) (fun _ _ _ _ _ => (qpe_var (i := 1) rfl vq23_1_1 dq23_1_1 cq23_1_1)))))
 (qpss_one (qps_ret (qpe_callBK (call_maxD rfl) g23_max z_max bo_max (qpa_cons (qpe_comp rfl cok23_2 (qpi_list (qpe_var (i := 4) rfl v23_4 d23_4 c23_4)) (fun _ _ _ _ _ => (qpg_tupK K 2 rfl rfl (qpgs_cons (qpg_name (i := 0) cok23_2.nd rfl (Or.inl kq23_2_0) (Or.inr kq23_2_0)) (qpgs_cons (qpg_name (i := 1) cok23_2.nd rfl (Or.inl kq23_2_1) (Or.inr kq23_2_1)) qpgs_nil)))) (fun _ _ _ _ _ => (qpif_one (qpt_cmpR op_eq (qpe_var (i := 0) rfl vq23_2_0 dq23_2_0 cq23_2_0) qpe_str (nomark _)))) (fun _ _ _ _ _ => (qpe_ix (ixaK_list K rfl) (qpe_var (i := 2) rfl vq23_2_2 dq23_2_2 cq23_2_2) (qpe_var (i := 1) rfl vq23_2_1 dq23_2_1 cq23_2_1) (fun _ _ => rfl)))) qpa_nil se_ListComp) (pk_cons qpe_int.h pk_nil)))))))), ?_⟩
  (try dsimp only [cxOf])
  obtain ⟨tps, ht, tt1⟩ := tg.t
  have lt := Paired.length tt1
  rw [List.length_map] at lt
  have t12 := ok.lt
  walk_at "rd"
  rename_i D hD
  have hD0 : (upd H D (.lst [])) D = some (.lst ((dpn ts 0).map V.int)) := upd_same
  have cD : Ch [] H (upd H D (.lst [])) := Ch.new hD _
  refine loop_tup (xs := tps.map V.ref) (fun i σ H' => Ch [] H H' ∧ H' D = some (.lst ((dpn ts i).map V.int)) ∧ ∃ u v, σ = [some (.ref x), some (.ref D), u, v, none]) ⟨cD, hD0, _, _, rfl⟩ ?_ ?_ ?_
  · rintro i σ H' hi ⟨c, _⟩
    exact SqT.of (c.get ht (by simp))
  · clear cD hD0
    rintro i z σ H' hz ⟨c, hd, u, v, rfl⟩
    obtain ⟨p, tg1, rfl, et, tp⟩ := paired_get tt1 i z hz
    rw [List.getElem?_map] at et
    obtain ⟨t, et', rfl⟩ := Option.map_eq_some_iff.mp et
    have et := et'
    obtain ⟨lp, sps, hp, hs, ws⟩ := tp.tu (Tu.same c)
    have hs : H' lp = some (.tup (sps.map V.ref)) := hs
    have lw := Paired.length ws
    rw [List.length_map] at lw
    have okt := ok.t i t et
    have l4 := okt.l4
    have il : i < ts.length := (List.getElem?_eq_some_iff.mp et).1
    have dl : (dpn ts i).length = i := dpn_len (by omega)
    walk_at "rd"
    refine comp_tup (sps.map V.ref) (fun j ys σ H2 => H2 = H' ∧ ys = (tl (dpn ts i) (t.ls.take j)).map V.int ∧ ∃ u v, σ = [u, v, some (.ref D)]) (by rw [sizeLine_eq, List.length_map]; omega) ⟨rfl, rfl, _, _, rfl⟩ ?_ ?_ ?_
    · rintro j ys σ H2 hj ⟨rfl, rfl, _⟩
      refine ⟨?_, SqT.of hs⟩
      rw [List.length_map, tl, List.length_map]
      exact Nat.le_trans (List.length_filter_le _ _) (by rw [List.length_take]; omega)
    · rintro j ys σ H2 z hz ⟨rfl, rfl, u2, v2, rfl⟩
      obtain ⟨pp, xs, rfl, ex, ⟨hpp, _⟩⟩ := paired_get ws j z hz
      rw [List.getElem?_map] at ex
      obtain ⟨pl, ex', rfl⟩ := Option.map_eq_some_iff.mp ex
      have ex := ex'
      have hpp : H2 pp = some (.tup [.str pl.1.s, .int (pl.2 : Int)]) := hpp
      have lo := okt.lo pl (List.mem_of_getElem? ex)
      have tk : tl (dpn ts i) (t.ls.take (j + 1)) = tl (dpn ts i) (t.ls.take j) ++ tl (dpn ts i) [pl] := by
        unfold tl
        rw [List.take_add_one, ex, List.filter_append, List.map_append]; rfl
      rw [tk]
      obtain ⟨wd, nn⟩ := pl
      cases wd with
      | t =>
        have lo : nn < i := lo
        have at1 : atI ((dpn ts i).map V.int) (nn : Int) = some (.int ((dpn ts i).getD nn 0)) :=
          atI_nat (by rw [List.getElem?_map, List.getD_eq_getElem?_getD, List.getElem?_eq_getElem (by omega)]; rfl)
        walk_at "rd"
        exact ⟨by simp [tl, Wd.isT], _, _, rfl⟩
      | i =>
        walk_at "rd"
        exact ⟨by simp [tl, Wd.isT], _, _, rfl⟩
      | k =>
        walk_at "rd"
        exact ⟨by simp [tl, Wd.isT], _, _, rfl⟩
    · rintro ys σ H2 ⟨rfl, rfl, _⟩
      rw [List.length_map, ← lw, List.take_length]
      intro D2 hD2
      have nn := tl_nn (ls := t.ls) (dpn_nn (ts := ts) (n := i))
      have gD2 : (upd H2 D2 (.lst ((tl (dpn ts i) t.ls).map V.int))) D2 = some (.lst ((tl (dpn ts i) t.ls).map V.int)) := upd_same
      have hd2 := g_new (u := .lst ((tl (dpn ts i) t.ls).map V.int)) hD2 hd
      have cT : Ch [] H (upd H2 D2 (.lst ((tl (dpn ts i) t.ls).map V.int))) := c.trans (Ch.new hD2 _)
      generalize upd H2 D2 (.lst ((tl (dpn ts i) t.ls).map V.int)) = H3 at gD2 hd2 cT ⊢
      have dl2 : ((dpn ts i).map V.int).length ≤ 12 := by rw [List.length_map]; omega
      walk_at "rd"
      exact ⟨by rw [upd_same, dpn_succ et, List.map_append]; rfl, _, _, rfl⟩
  · clear cD hD0
    rintro σ H' ⟨c, hd, u, v, rfl⟩
    rw [List.length_map, ← lt] at hd
    have hx1 : H' x = some (.ins C dx (fldsT ins tt kt ot)) := c.get hx (by simp)
    obtain ⟨kps, hk, kk⟩ := (tg.tu (Tu.same c)).k
    obtain ⟨ops, ho, oo⟩ := (tg.tu (Tu.same c)).o
    have lk := Paired.length kk
    have lo := Paired.length oo
    rw [List.length_map] at lk lo
    have k12 := ok.lk
    have o12 := ok.lo
    walk_at "rd"
    rename_i l1 hl1
    have c1 : Ch [] H' (upd H' l1 (.lst (ops.map V.ref))) := Ch.new hl1 _
    have g1 : (upd H' l1 (.lst (ops.map V.ref))) l1 = some (.lst (ops.map V.ref)) := upd_same
    generalize upd H' l1 (.lst (ops.map V.ref)) = H2 at c1 g1 ⊢
    have hk2 := c1.get hk (by simp)
    have hd2 := c1.get hd (by simp)
    have kk2 := paired_imp (fun _ _ e => KgAt.tu (Tu.same c1) e) kk
    have oo2 := paired_imp (fun _ _ e => PgAt.tu (Tu.same c1) e) oo
    refine comp_tup (kps.map V.ref) (fun j ys σ H3 => H3 = H2 ∧ (∃ qs, ys = qs.map V.ref ∧ Paired (PgAt H2) ((ks.take j).map fun k => k.pl.g) qs) ∧ ∃ u v, σ = [u, v]) (by rw [sizeLine_eq, List.length_map]; omega) ⟨rfl, ⟨[], rfl, .nil⟩, _, _, rfl⟩ ?_ ?_ ?_
    · rintro j ys σ H3 hj ⟨rfl, ⟨qs, rfl, pq⟩, _⟩
      refine ⟨?_, SqT.of hk2⟩
      have := Paired.length pq
      rw [List.length_map, List.length_take] at this
      rw [List.length_map]; omega
    · rintro j ys σ H3 z hz ⟨rfl, ⟨qs, rfl, pq⟩, u2, v2, rfl⟩
      obtain ⟨p, kg, rfl, ek, kp⟩ := paired_get kk2 j z hz
      rw [List.getElem?_map] at ek
      obtain ⟨ke, ek', rfl⟩ := Option.map_eq_some_iff.mp ek
      obtain ⟨pp, hp, hpp⟩ := kp
      walk_at "rd"
      refine ⟨⟨qs ++ [pp], by simp, ?_⟩, _, _, rfl⟩
      rw [List.take_add_one, ek', List.map_append]
      exact paired_snoc hpp pq
    · rintro ys σ H3 ⟨rfl, ⟨qs, rfl, pq⟩, _⟩
      rw [List.length_map, ← lk, List.take_length] at pq
      have lq := Paired.length pq
      rw [List.length_map] at lq
      intro D3 hD3
      have g13 := g_new (u := .lst (qs.map V.ref)) hD3 g1
      have l24 : (ops.map V.ref).length + (qs.map V.ref).length ≤ 24 := by rw [List.length_map, List.length_map]; omega
      walk_at "rd"
      rename_i E1 hE1
      have c4 : Ch [] H3 (upd (upd H3 D3 (.lst (qs.map V.ref))) E1 (.lst (ops.map V.ref ++ qs.map V.ref))) := (Ch.new hD3 _).trans (Ch.new hE1 _)
      have g4 : (upd (upd H3 D3 (.lst (qs.map V.ref))) E1 (.lst (ops.map V.ref ++ qs.map V.ref))) E1 = some (.lst ((ops ++ qs).map V.ref)) := by rw [upd_same, List.map_append]
      generalize upd (upd H3 D3 (.lst (qs.map V.ref))) E1 (.lst (ops.map V.ref ++ qs.map V.ref)) = H4 at c4 g4 ⊢
      have hd4 := c4.get hd2 (by simp)
      have ws : Paired (PgAt H4) ((os ++ ks.map Kp.pl).map Plc.g) (ops ++ qs) := by
        rw [List.map_append, List.map_map]
        exact paired_app (paired_imp (fun _ _ e => PgAt.tu (Tu.same c4) e) oo2) (paired_imp (fun _ _ e => PgAt.tu (Tu.same c4) e) pq)
      have dl : (dpn ts ts.length).length = ts.length := dpn_len (Nat.le_refl _)
      have okp : ∀ y ∈ os ++ ks.map Kp.pl, y.2 < lim ins ks.length ts.length y.1 := fun y hy => by
        rcases List.mem_append.mp hy with z | z
        · exact ok.o y z
        · obtain ⟨ke, hke, rfl⟩ := List.mem_map.mp z
          exact ok.k ke hke
      have lw := Paired.length ws
      rw [List.length_map] at lw
      have l24' : (ops ++ qs).length ≤ 24 := by rw [List.length_append]; rw [List.length_map, List.length_map] at l24; exact l24
      have nn := tl_nn (ls := os ++ ks.map Kp.pl) (dpn_nn (ts := ts) (n := ts.length))
      generalize os ++ ks.map Kp.pl = ends at *
      have cc := (c.trans c1).trans c4
      clear pq hD3 g13 kk2 oo2 hk2 hd2 g1 c1 c4 hl1 kk oo hk ho hd hx1 c tt1 tg
      refine comp_list ((ops ++ qs).map V.ref) (fun j ys σ H2 => H2 = H4 ∧ ys = (tl (dpn ts ts.length) (ends.take j)).map V.int ∧ ∃ u v, σ = [u, v, some (.ref D)]) (by rw [sizeLine_eq, List.length_map]; omega) ⟨rfl, rfl, _, _, rfl⟩ ?_ ?_ ?_
      · rintro j ys σ H2 hj ⟨rfl, rfl, _⟩
        refine ⟨?_, SqL.of g4⟩
        rw [List.length_map, tl, List.length_map]
        exact Nat.le_trans (List.length_filter_le _ _) (by rw [List.length_take]; omega)
      · rintro j ys σ H2 z hz ⟨rfl, rfl, u2, v2, rfl⟩
        obtain ⟨pp, xs, rfl, ex, ⟨hpp, _⟩⟩ := paired_get ws j z hz
        rw [List.getElem?_map] at ex
        obtain ⟨pl, ex', rfl⟩ := Option.map_eq_some_iff.mp ex
        have hpp : H2 pp = some (.tup [.str pl.1.s, .int (pl.2 : Int)]) := hpp
        have lo := okp pl (List.mem_of_getElem? ex')
        have tk : tl (dpn ts ts.length) (ends.take (j + 1)) = tl (dpn ts ts.length) (ends.take j) ++ tl (dpn ts ts.length) [pl] := by
          unfold tl
          rw [List.take_add_one, ex', List.filter_append, List.map_append]; rfl
        rw [tk]
        obtain ⟨wd, nn⟩ := pl
        cases wd with
        | t =>
          have lo : nn < ts.length := lo
          have at1 : atI ((dpn ts ts.length).map V.int) (nn : Int) = some (.int ((dpn ts ts.length).getD nn 0)) :=
            atI_nat (by rw [List.getElem?_map, List.getD_eq_getElem?_getD, List.getElem?_eq_getElem (by omega)]; rfl)
          walk_at "rd"
          exact ⟨by simp [tl, Wd.isT], _, _, rfl⟩
        | i =>
          walk_at "rd"
          exact ⟨by simp [tl, Wd.isT], _, _, rfl⟩
        | k =>
          walk_at "rd"
          exact ⟨by simp [tl, Wd.isT], _, _, rfl⟩
      · rintro ys σ H2 ⟨rfl, rfl, _⟩
        rw [List.length_map, ← lw, List.take_length]
        intro D5 hD5
        exact ⟨D5, _, rfl, rfl, upd_same, nn, q _ (cc.trans (Ch.new hD5 _))⟩
end
end

section
theorem gr_cons0 (ns : List Int) : gr (0 :: ns) = gr ns := by
  have := gr_nn ns
  show max 0 (gr ns) = gr ns
  omega
section
variable {P : Program} {w : World} {K : PySem.W.Frag} {mg : Str → Option Value} {base : Heap} {f : Addr} {fd : FuncData} {k : Nat}
theorem nn_max : ("max" : Str) ≠ "__name__" := by decide +kernel
theorem gd_max : Nd "max" := by decide +kernel
theorem l30_1 : Lc (defScope (top 30)) "_law_found" := by decide +kernel
theorem v30_0 : Vs (defScope (top 30)) "_law_drawn" := by decide +kernel
theorem d30_0 : Nd "_law_drawn" := by decide +kernel
theorem c30_0 : Nc "_law_drawn" := by decide +kernel
theorem l30_3 : Lc (defScope (top 30)) "_law_bits" := by decide +kernel
theorem l30_2 : Lc (defScope (top 30)) "_law_leaves" := by decide +kernel
theorem v30_1 : Vs (defScope (top 30)) "_law_found" := by decide +kernel
theorem d30_1 : Nd "_law_found" := by decide +kernel
theorem c30_1 : Nc "_law_found" := by decide +kernel
theorem g30_max : Gi (defScope (top 30)) "max" := by decide +kernel
theorem v30_2 : Vs (defScope (top 30)) "_law_leaves" := by decide +kernel
theorem d30_2 : Nd "_law_leaves" := by decide +kernel
theorem c30_2 : Nc "_law_leaves" := by decide +kernel
def csc30_0 : Scope := { kind := PySem.ScopeKind.function, names := [ (PySem.Str.ofString ".0", PySem.NameKind.local), (PySem.Str.ofString "_law_leaf", PySem.NameKind.local), (PySem.Str.ofString "_law_found", PySem.NameKind.free)], isGenerator := false, isCoroutine := false, more := [] : PySem.Scope }
theorem cok30_0 : CompOk csc30_0 (defScope (top 30)) (["_law_leaf"] : List Str) (["_law_drawn", "_law_found", "_law_leaves", "_law_bits", "_law_ends"] : List Str) [1] (["_law_leaf", "_law_found"] : List Str) := compOk rfl (by decide +kernel) (by decide +kernel) (by decide +kernel) (by decide +kernel) rfl (by decide +kernel)
theorem kq30_0_0 : (relab csc30_0 (defScope (top 30))).names.lookup (Str.ofString "_law_leaf") = some NameKind.local := by decide +kernel
theorem vq30_0_0 : Vs (relab csc30_0 (defScope (top 30))) "_law_leaf" := by decide +kernel
theorem dq30_0_0 : Nd "_law_leaf" := by decide +kernel
theorem cq30_0_0 : Nc "_law_leaf" := by decide +kernel
theorem vq30_0_1 : Vs (relab csc30_0 (defScope (top 30))) "_law_found" := by decide +kernel
theorem dq30_0_1 : Nd "_law_found" := by decide +kernel
theorem cq30_0_1 : Nc "_law_found" := by decide +kernel
theorem l30_4 : Lc (defScope (top 30)) "_law_ends" := by decide +kernel
theorem g30_list : Gi (defScope (top 30)) "list" := by decide +kernel
def csc30_1 : Scope := { kind := PySem.ScopeKind.function, names := [ (PySem.Str.ofString ".0", PySem.NameKind.local), (PySem.Str.ofString "_law_first", PySem.NameKind.local), (PySem.Str.ofString "_law_place_here", PySem.NameKind.local)], isGenerator := false, isCoroutine := false, more := [] : PySem.Scope }
theorem cok30_1 : CompOk csc30_1 (defScope (top 30)) (["_law_first", "_law_place_here"] : List Str) (["_law_drawn", "_law_found", "_law_leaves", "_law_bits", "_law_ends"] : List Str) [] (["_law_first", "_law_place_here"] : List Str) := compOk rfl (by decide +kernel) (by decide +kernel) (by decide +kernel) (by decide +kernel) rfl (by decide +kernel)
theorem kq30_1_1 : (relab csc30_1 (defScope (top 30))).names.lookup (Str.ofString "_law_place_here") = some NameKind.local := by decide +kernel
theorem kq30_1_0 : (relab csc30_1 (defScope (top 30))).names.lookup (Str.ofString "_law_first") = some NameKind.local := by decide +kernel
theorem vq30_1_1 : Vs (relab csc30_1 (defScope (top 30))) "_law_place_here" := by decide +kernel
theorem dq30_1_1 : Nd "_law_place_here" := by decide +kernel
theorem cq30_1_1 : Nc "_law_place_here" := by decide +kernel
theorem v30_4 : Vs (defScope (top 30)) "_law_ends" := by decide +kernel
theorem d30_4 : Nd "_law_ends" := by decide +kernel
theorem c30_4 : Nc "_law_ends" := by decide +kernel
def csc30_2 : Scope := { kind := PySem.ScopeKind.function, names := [ (PySem.Str.ofString ".0", PySem.NameKind.local), (PySem.Str.ofString "_law_place_here", PySem.NameKind.local), (PySem.Str.ofString "_law_found", PySem.NameKind.free)], isGenerator := false, isCoroutine := false, more := [] : PySem.Scope }
theorem cok30_2 : CompOk csc30_2 (defScope (top 30)) (["_law_place_here"] : List Str) (["_law_drawn", "_law_found", "_law_leaves", "_law_bits", "_law_ends"] : List Str) [1] (["_law_place_here", "_law_found"] : List Str) := compOk rfl (by decide +kernel) (by decide +kernel) (by decide +kernel) (by decide +kernel) rfl (by decide +kernel)
theorem kq30_2_0 : (relab csc30_2 (defScope (top 30))).names.lookup (Str.ofString "_law_place_here") = some NameKind.local := by decide +kernel
theorem vq30_2_0 : Vs (relab csc30_2 (defScope (top 30))) "_law_place_here" := by decide +kernel
theorem dq30_2_0 : Nd "_law_place_here" := by decide +kernel
theorem cq30_2_0 : Nc "_law_place_here" := by decide +kernel
theorem vq30_2_1 : Vs (relab csc30_2 (defScope (top 30))) "_law_found" := by decide +kernel
theorem dq30_2_1 : Nd "_law_found" := by decide +kernel
theorem cq30_2_1 : Nc "_law_found" := by decide +kernel
theorem scLev : FnScope ["_law_drawn", "_law_found", "_law_leaves", "_law_bits", "_law_ends"] ["_law_drawn"] (defScope (top 30)) := ⟨rfl, rfl, rfl, by decide +kernel, rfl, by decide +kernel, by decide +kernel⟩
def spLev : Sp := fun vs H Q _ => ∃ (ex : List Addr) (R ta ka oa : Addr) (ins : Nat) (ts : List Tb) (ks : List Kp) (os : List Plc), vs = [.ref R] ∧ H R = some (.tup [.int (ins : Int), .ref ta, .ref ka, .ref oa]) ∧ DrAt ex H ta ka oa ts ks os ∧ Okd ins ts ks os ∧ ∀ H', Ch [] H H' → Q (.int (gr (tl (dpn ts ts.length) (os ++ ks.map Kp.pl)))) H'
theorem ok_lev (F : Fun K "_law_levels" "_law_levels" (top 30) f fd) (z_max : mg "max" = none) (z_list : mg "list" = none) : FnOk P w K mg base CX0 (k + 1) f fd ["_law_drawn"] spLev := by
  have nd := scLev.nd
  refine F.ok scLev (fun vs H Q E h => by obtain ⟨ex, R, ta, ka, oa, ins, ts, ks, os, rfl, _⟩ := h; rfl) (fun cdv A outer s H vs Q E hr h => ?_)
  obtain ⟨ex, R, ta, ka, oa, ins, ts, ks, os, rfl, hR, dr, ok, q⟩ := h
  refine ⟨_, (Pr.h (qpss_cons (qps_set (i := 1) nd rfl l30_1 (qpe_lst qpa_nil))
 (qpss_cons (qps_loop PassesOwn.never rfl (qpi_list (qpe_ix ixa_tup (qpe_var (i := 0) rfl v30_0 d30_0 c30_0) qpe_int (fun _ _ => rfl))) (qpg_tup rfl (qpgs_cons (qpg_name (i := 2) nd rfl l30_2) (qpgs_cons (qpg_name (i := 3) nd rfl l30_3) qpgs_nil)))
  (qpss_one (qps_expr (qpe_bm PySem.F.plainAttrs_list PySem.F.slot_list_append PySem.F.type_list_append mt_append (qpe_var (i := 1) rfl v30_1 d30_1 c30_1) (qpa_cons (qpe_op op_add qpe_int (qpe_callB (call_max1 rfl) g30_max z_max bo_max (qpa_cons (qpe_op op_cat (qpe_lst (qpa_cons qpe_int qpa_nil se_Constant)) (qpe_comp rfl cok30_0 (qpi_list (qpe_var (i := 2) rfl v30_2 d30_2 c30_2)) (fun _ _ _ _ _ => (qpg_name (i := 0) cok30_0.nd rfl (Or.inl kq30_0_0) (Or.inr kq30_0_0))) (fun _ _ _ _ _ => (qpif_one (qpt_cmpR op_eq (qpe_ix (ixaK_tup K rfl) (qpe_var (i := 0) rfl vq30_0_0 dq30_0_0 cq30_0_0) qpe_int (fun _ _ => rfl)) qpe_str (nomark _)))) (fun _ _ _ _ _ => (qpe_ix (ixaK_list K rfl) (qpe_var (i := 1) rfl vq30_0_1 dq30_0_1 cq30_0_1) (qpe_ix (ixaK_tup K rfl) (qpe_var (i := 0) rfl vq30_0_0 dq30_0_0 cq30_0_0) qpe_int (fun _ _ => rfl)) (fun _ _ => rfl))))) qpa_nil se_BinOp) nn_max gd_max)) qpa_nil se_BinOp)))))
 (qpss_cons (qps_set (i := 4) nd rfl l30_4 (qpe_op op_cat (qpe_callTy call_list_of g30_list z_list bo_list (qpa_cons (qpe_ix ixa_tup (qpe_var (i := 0) rfl v30_0 d30_0 c30_0) qpe_int (fun _ _ => rfl)) qpa_nil se_Subscript) nn_list gd_list) (qpe_comp rfl cok30_1 (qpi_list (qpe_ix ixa_tup (qpe_var (i := 0) rfl v30_0 d30_0 c30_0) qpe_int (fun _ _ => rfl))) (fun _ _ _ _ _ => (qpg_tupK K 2 rfl rfl (qpgs_cons (qpg_name (i := 0) cok30_1.nd rfl (Or.inl kq30_1_0) (Or.inr kq30_1_0)) (qpgs_cons (qpg_name (i := 1) cok30_1.nd rfl (Or.inl kq30_1_1) (Or.inr kq30_1_1)) qpgs_nil)))) (fun _ _ _ _ _ => qpif_nil) (fun _ _ _ _ _ => (qpe_var (i := 1) rfl vq30_1_1 dq30_1_1 cq30_1_1)))))
 (qpss_one (qps_ret (qpe_callB (call_max1 rfl) g30_max z_max bo_max (qpa_cons (qpe_op op_cat (qpe_lst (qpa_cons qpe_int qpa_nil se_Constant)) (qpe_comp rfl cok30_2 (qpi_list (qpe_var (i := 4) rfl v30_4 d30_4 c30_4)) (fun _ _ _ _ _ => (qpg_name (i := 0) cok30_2.nd rfl (Or.inl kq30_2_0) (Or.inr kq30_2_0))) (fun _ _ _ _ _ => (qpif_one (qpt_cmpR op_eq (qpe_ix (ixaK_tup K rfl) (qpe_var (i := 0) rfl vq30_2_0 dq30_2_0 cq30_2_0) qpe_int (fun _ _ => rfl)) qpe_str (nomark _)))) (fun _ _ _ _ _ => (qpe_ix (ixaK_list K rfl) (qpe_var (i := 1) rfl vq30_2_1 dq30_2_1 cq30_2_1) (qpe_ix (ixaK_tup K rfl) (qpe_var (i := 0) rfl vq30_2_0 dq30_2_0 cq30_2_0) qpe_int (fun _ _ => rfl)) (fun _ _ => rfl))))) qpa_nil se_BinOp) nn_max gd_max))))))), ?_⟩
  (try dsimp only [cxOf])
  obtain ⟨_, tps, ht, tt1⟩ := dr.t
  have lt := Paired.length tt1
  have t12 := ok.lt
  walk_at "rd"
  rename_i D hD
  have hD0 : (upd H D (.lst [])) D = some (.lst ((dpn ts 0).map V.int)) := upd_same
  have cD : Ch [] H (upd H D (.lst [])) := Ch.new hD _
  refine loop_list (xs := tps.map V.ref) (fun i σ H' => Ch [] H H' ∧ H' D = some (.lst ((dpn ts i).map V.int)) ∧ ∃ u v, σ = [some (.ref R), some (.ref D), u, v, none]) ⟨cD, hD0, _, _, rfl⟩ ?_ ?_ ?_
  · rintro i σ H' hi ⟨c, _⟩
    exact SqL.of (c.get ht (by simp))
  · clear cD hD0
    rintro i z σ H' hz ⟨c, hd, u, v, rfl⟩
    obtain ⟨p, t, rfl, et, tp⟩ := paired_get tt1 i z hz
    obtain ⟨lp, sps, _, hp, hs, ws⟩ := tp.kl (Kl.new c)
    have lw := Paired.length ws
    rw [List.length_map] at lw
    have okt := ok.t i t et
    have l4 := okt.l4
    have il : i < ts.length := (List.getElem?_eq_some_iff.mp et).1
    have dl : (dpn ts i).length = i := dpn_len (by omega)
    walk_at "rd"
    rename_i l0 hl0
    have c1 : Ch [] H' (upd H' l0 (.lst [.int 0])) := Ch.new hl0 _
    have g1 : (upd H' l0 (.lst [.int 0])) l0 = some (.lst [.int 0]) := upd_same
    generalize upd H' l0 (.lst [.int 0]) = H1 at c1 g1 ⊢
    have hd1 := c1.get hd (by simp)
    have hs1 := c1.get hs (by simp)
    have ws1 := ws.tu (Tu.same c1)
    refine comp_list (sps.map V.ref) (fun j ys σ H2 => H2 = H1 ∧ ys = (tl (dpn ts i) (t.ls.take j)).map V.int ∧ ∃ u, σ = [u, some (.ref D)]) (by rw [sizeLine_eq, List.length_map]; omega) ⟨rfl, rfl, _, rfl⟩ ?_ ?_ ?_
    · rintro j ys σ H2 hj ⟨rfl, rfl, _⟩
      refine ⟨?_, SqL.of hs1⟩
      rw [List.length_map, tl, List.length_map]
      exact Nat.le_trans (List.length_filter_le _ _) (by rw [List.length_take]; omega)
    · rintro j ys σ H2 z hz ⟨rfl, rfl, u2, rfl⟩
      obtain ⟨pp, pl, rfl, ex, hpp⟩ := pl_get ws1 j z hz
      have lo := okt.lo pl (List.mem_of_getElem? ex)
      have tk : tl (dpn ts i) (t.ls.take (j + 1)) = tl (dpn ts i) (t.ls.take j) ++ tl (dpn ts i) [pl] := by
        unfold tl
        rw [List.take_add_one, ex, List.filter_append, List.map_append]; rfl
      rw [tk]
      obtain ⟨wd, nn⟩ := pl
      cases wd with
      | t =>
        have lo : nn < i := lo
        have at1 : atI ((dpn ts i).map V.int) (nn : Int) = some (.int ((dpn ts i).getD nn 0)) :=
          atI_nat (by rw [List.getElem?_map, List.getD_eq_getElem?_getD, List.getElem?_eq_getElem (by omega)]; rfl)
        walk_at "rd"
        exact ⟨by simp [tl, Wd.isT], _, rfl⟩
      | i =>
        walk_at "rd"
        exact ⟨by simp [tl, Wd.isT], _, rfl⟩
      | k =>
        walk_at "rd"
        exact ⟨by simp [tl, Wd.isT], _, rfl⟩
    · rintro ys σ H2 ⟨rfl, rfl, _⟩
      rw [List.length_map, ← lw, List.take_length]
      intro D2 hD2
      have nn := tl_nn (ls := t.ls) (dpn_nn (ts := ts) (n := i))
      have tll : (tl (dpn ts i) t.ls).length ≤ 4 := by rw [tl, List.length_map]; exact Nat.le_trans (List.length_filter_le _ _) l4
      have g12 := g_new (u := .lst ((tl (dpn ts i) t.ls).map V.int)) hD2 g1
      have tl2 : ([V.int 0] : List V).length + ((tl (dpn ts i) t.ls).map V.int).length ≤ 5 := by rw [List.length_map]; simp; omega
      have dl2 : ((dpn ts i).map V.int).length ≤ 12 := by rw [List.length_map]; omega
      walk_at "rd"
      rename_i p1 hp1
      refine ⟨(show _ = some (HO.lst ((0 :: tl (dpn ts i) t.ls).map V.int)) from upd_same), by simp, fun a ha => ?_, ?_⟩
      · rcases List.mem_cons.mp ha with rfl | z
        · exact Int.le_refl _
        · exact nn a z
      rw [gr_cons0]
      have hd3 := g_new (u := .lst ([V.int 0] ++ (tl (dpn ts i) t.ls).map V.int)) hp1 (g_new (u := .lst ((tl (dpn ts i) t.ls).map V.int)) hD2 hd1)
      have cT : Ch [] H (upd (upd H2 D2 (.lst ((tl (dpn ts i) t.ls).map V.int))) p1 (.lst ([V.int 0] ++ (tl (dpn ts i) t.ls).map V.int))) := ((c.trans c1).trans (Ch.new hD2 _)).trans (Ch.new hp1 _)
      generalize upd (upd H2 D2 (.lst ((tl (dpn ts i) t.ls).map V.int))) p1 (.lst ([V.int 0] ++ (tl (dpn ts i) t.ls).map V.int)) = H3 at hd3 cT ⊢
      walk_at "rd"
      exact ⟨by rw [upd_same, dpn_succ et, List.map_append]; rfl, _, _, rfl⟩
  · clear cD hD0
    rintro σ H' ⟨c, hd, u, v, rfl⟩
    rw [List.length_map, ← lt] at hd
    have dr1 := dr.ch c
    obtain ⟨_, kps, hk, kk⟩ := dr1.k
    obtain ⟨_, ops, ho, oo⟩ := dr1.o
    have lk := Paired.length kk
    have lo := Paired.length oo
    rw [List.length_map] at lo
    have k12 := ok.lk
    have o12 := ok.lo
    have hR1 := c.get hR (by simp)
    walk_at "rd"
    rename_i l1 hl1
    have c1 : Ch [] H' (upd H' l1 (.lst (ops.map V.ref))) := Ch.new hl1 _
    have g1 : (upd H' l1 (.lst (ops.map V.ref))) l1 = some (.lst (ops.map V.ref)) := upd_same
    generalize upd H' l1 (.lst (ops.map V.ref)) = H2 at c1 g1 ⊢
    have hk2 := c1.get hk (by simp)
    have hd2 := c1.get hd (by simp)
    have kk2 := paired_imp (fun _ _ e => KpAt.tu (Tu.same c1) e) kk
    have oo2 := oo.tu (Tu.same c1)
    refine comp_list (kps.map V.ref) (fun j ys σ H3 => H3 = H2 ∧ (∃ qs, ys = qs.map V.ref ∧ WsAt H2 (((ks.take j).map Kp.pl).map plK) qs) ∧ ∃ u v, σ = [u, v]) (by rw [sizeLine_eq, List.length_map]; omega) ⟨rfl, ⟨[], rfl, .nil⟩, _, _, rfl⟩ ?_ ?_ ?_
    · rintro j ys σ H3 hj ⟨rfl, ⟨qs, rfl, pq⟩, _⟩
      refine ⟨?_, SqL.of hk2⟩
      have := Paired.length pq
      rw [List.length_map, List.length_map, List.length_take] at this
      rw [List.length_map]; omega
    · rintro j ys σ H3 z hz ⟨rfl, ⟨qs, rfl, pq⟩, u2, v2, rfl⟩
      obtain ⟨p, ke, rfl, ek, ⟨pp, hp, hpp⟩⟩ := paired_get kk2 j z hz
      walk_at "rd"
      refine ⟨⟨qs ++ [pp], by simp, ?_⟩, _, _, rfl⟩
      rw [List.take_add_one, ek, List.map_append]
      exact WsAt.snoc hpp pq
    · rintro ys σ H3 ⟨rfl, ⟨qs, rfl, pq⟩, _⟩
      rw [List.length_map, ← lk, List.take_length] at pq
      have lq := Paired.length pq
      rw [List.length_map, List.length_map] at lq
      intro D3 hD3
      have g13 := g_new (u := .lst (qs.map V.ref)) hD3 g1
      have l24 : (ops.map V.ref).length + (qs.map V.ref).length ≤ 24 := by rw [List.length_map, List.length_map]; omega
      walk_at "rd"
      rename_i E1 hE1 Z hZ
      have c4 : Ch [] H3 (upd (upd (upd H3 D3 (.lst (qs.map V.ref))) E1 (.lst (ops.map V.ref ++ qs.map V.ref))) Z (.lst [V.int 0])) := ((Ch.new hD3 _).trans (Ch.new hE1 _)).trans (Ch.new hZ _)
      have g4 : (upd (upd (upd H3 D3 (.lst (qs.map V.ref))) E1 (.lst (ops.map V.ref ++ qs.map V.ref))) Z (.lst [V.int 0])) E1 = some (.lst ((ops ++ qs).map V.ref)) := by rw [List.map_append]; exact g_new hZ upd_same
      have gz : (upd (upd (upd H3 D3 (.lst (qs.map V.ref))) E1 (.lst (ops.map V.ref ++ qs.map V.ref))) Z (.lst [V.int 0])) Z = some (.lst [V.int 0]) := upd_same
      generalize upd (upd (upd H3 D3 (.lst (qs.map V.ref))) E1 (.lst (ops.map V.ref ++ qs.map V.ref))) Z (.lst [V.int 0]) = H4 at c4 g4 gz ⊢
      have hd4 := c4.get hd2 (by simp)
      have ws : WsAt H4 ((os ++ ks.map Kp.pl).map plK) (ops ++ qs) := by
        rw [List.map_append]
        exact paired_app (oo2.tu (Tu.same c4)) (WsAt.tu (Tu.same c4) pq)
      have dl : (dpn ts ts.length).length = ts.length := dpn_len (Nat.le_refl _)
      have okp : ∀ y ∈ os ++ ks.map Kp.pl, y.2 < lim ins ks.length ts.length y.1 := fun y hy => by
        rcases List.mem_append.mp hy with z | z
        · exact ok.o y z
        · obtain ⟨ke, hke, rfl⟩ := List.mem_map.mp z
          exact ok.k ke hke
      have lw := Paired.length ws
      rw [List.length_map] at lw
      have l24' : (ops ++ qs).length ≤ 24 := by rw [List.length_append]; rw [List.length_map, List.length_map] at l24; exact l24
      have nn := tl_nn (ls := os ++ ks.map Kp.pl) (dpn_nn (ts := ts) (n := ts.length))
      generalize os ++ ks.map Kp.pl = ends at *
      have cc := (c.trans c1).trans c4
      clear pq hD3 g13 kk2 oo2 hk2 hd2 g1 c1 c4 hl1 kk oo hk ho hd c tt1 dr dr1 hR1
      refine comp_list ((ops ++ qs).map V.ref) (fun j ys σ H2 => H2 = H4 ∧ ys = (tl (dpn ts ts.length) (ends.take j)).map V.int ∧ ∃ u, σ = [u, some (.ref D)]) (by rw [sizeLine_eq, List.length_map]; omega) ⟨rfl, rfl, _, rfl⟩ ?_ ?_ ?_
      · rintro j ys σ H2 hj ⟨rfl, rfl, _⟩
        refine ⟨?_, SqL.of g4⟩
        rw [List.length_map, tl, List.length_map]
        exact Nat.le_trans (List.length_filter_le _ _) (by rw [List.length_take]; omega)
      · rintro j ys σ H2 z hz ⟨rfl, rfl, u2, rfl⟩
        obtain ⟨pp, pl, rfl, ex', hpp⟩ := pl_get ws j z hz
        have lo := okp pl (List.mem_of_getElem? ex')
        have tk : tl (dpn ts ts.length) (ends.take (j + 1)) = tl (dpn ts ts.length) (ends.take j) ++ tl (dpn ts ts.length) [pl] := by
          unfold tl
          rw [List.take_add_one, ex', List.filter_append, List.map_append]; rfl
        rw [tk]
        obtain ⟨wd, nn⟩ := pl
        cases wd with
        | t =>
          have lo : nn < ts.length := lo
          have at1 : atI ((dpn ts ts.length).map V.int) (nn : Int) = some (.int ((dpn ts ts.length).getD nn 0)) :=
            atI_nat (by rw [List.getElem?_map, List.getD_eq_getElem?_getD, List.getElem?_eq_getElem (by omega)]; rfl)
          walk_at "rd"
          exact ⟨by simp [tl, Wd.isT], _, rfl⟩
        | i =>
          walk_at "rd"
          exact ⟨by simp [tl, Wd.isT], _, rfl⟩
        | k =>
          walk_at "rd"
          exact ⟨by simp [tl, Wd.isT], _, rfl⟩
      · rintro ys σ H2 ⟨rfl, rfl, _⟩
        rw [List.length_map, ← lw, List.take_length]
        intro D5 hD5
        have tll : (tl (dpn ts ts.length) ends).length ≤ 24 := by rw [tl, List.length_map]; exact Nat.le_trans (List.length_filter_le _ _) (by omega)
        have gz5 := g_new (u := .lst ((tl (dpn ts ts.length) ends).map V.int)) hD5 gz
        have tl2 : ([V.int 0] : List V).length + ((tl (dpn ts ts.length) ends).map V.int).length ≤ 25 := by rw [List.length_map]; simp; omega
        walk_at "rd"
        rename_i p1 hp1
        refine ⟨(show _ = some (HO.lst ((0 :: tl (dpn ts ts.length) ends).map V.int)) from upd_same), by simp, fun a ha => ?_, ?_⟩
        · rcases List.mem_cons.mp ha with rfl | z
          · exact Int.le_refl _
          · exact nn a z
        rw [gr_cons0]
        exact q _ ((cc.trans (Ch.new hD5 _)).trans (Ch.new hp1 _))
end
end

section
local macro_rules | `(tactic| walk_at "user") => `(tactic| first | (refine Or.inl (Exists.intro _ (And.intro rfl ?_)); with_reducible assumption) | (refine Or.inr (Exists.intro _ (And.intro rfl ?_)); with_reducible assumption))
theorem Ch.inst {H : Hp} {x dx C : Addr} (hx : H x = none) (hd : H dx = none) (n : dx ≠ x) : Ch [] H (upd (upd H dx (.own x)) x (.ins C dx [])) := (Ch.new hd _).trans (Ch.new (by rw [upd_ne n.symm]; exact hx) _)
theorem Ch.forget {W : List Addr} {H H' : Hp} (c : Ch W H H') (h : ∀ w ∈ W, H w = none) : Ch [] H H' := fun a o e _ => c a o e fun z => by rw [h a z] at e; cases e
theorem Ch.made {H H' : Hp} {x dx C : Addr} (hx : H x = none) (hd : H dx = none) (n : dx ≠ x) (c : Ch [x] (upd (upd H dx (.own x)) x (.ins C dx [])) H') : Ch [] H H' :=
  Ch.forget ((Ch.inst (C := C) hx hd n).wk.trans c) (fun w hw => by rw [List.mem_singleton.mp hw]; exact hx)
section
variable {P : Program} {w : World} {K : PySem.W.Frag} {mg : Str → Option Value} {base : Heap} {f : Addr} {fd : FuncData} {k : Nat}
theorem gd_Tables : Nd "Tables" := by decide +kernel
theorem gd_FloorError : Nd "FloorError" := by decide +kernel
theorem bo_ValueError : bootBuiltins "ValueError" = some (.type "ValueError") := by decide +kernel
theorem nn_ValueError : ("ValueError" : Str) ≠ "__name__" := by decide +kernel
theorem gd_ValueError : Nd "ValueError" := by decide +kernel
theorem gd_NoWays : Nd "NoWays" := by decide +kernel
theorem gd_NoText : Nd "NoText" := by decide +kernel
theorem gd_NoSense : Nd "NoSense" := by decide +kernel
theorem gd_NoRow : Nd "NoRow" := by decide +kernel
theorem gd_NoRoom : Nd "NoRoom" := by decide +kernel
theorem gd_NoPack : Nd "NoPack" := by decide +kernel
theorem gd_NoNet : Nd "NoNet" := by decide +kernel
theorem gd_NoFloor : Nd "NoFloor" := by decide +kernel
theorem gd_NoBits : Nd "NoBits" := by decide +kernel
theorem gd_OutOfFloor : Nd "OutOfFloor" := by decide +kernel
theorem l31_1 : Lc (defScope (top 31)) "_law_caught" := by decide +kernel
theorem g31_Tables : Gi (defScope (top 31)) "Tables" := by decide +kernel
theorem v31_0 : Vs (defScope (top 31)) "_law_drawn" := by decide +kernel
theorem d31_0 : Nd "_law_drawn" := by decide +kernel
theorem c31_0 : Nc "_law_drawn" := by decide +kernel
theorem v31_2 : Vs (defScope (top 31)) "e" := by decide +kernel
theorem d31_2 : Nd "e" := by decide +kernel
theorem c31_2 : Nc "e" := by decide +kernel
theorem k31_2 : (defScope (top 31)).names.lookup (Str.ofString "e") = some NameKind.local := by decide +kernel
theorem g31_FloorError : Gi (defScope (top 31)) "FloorError" := by decide +kernel
theorem g31_isinstance : Gi (defScope (top 31)) "isinstance" := by decide +kernel
theorem v31_1 : Vs (defScope (top 31)) "_law_caught" := by decide +kernel
theorem d31_1 : Nd "_law_caught" := by decide +kernel
theorem c31_1 : Nc "_law_caught" := by decide +kernel
theorem g31_ValueError : Gi (defScope (top 31)) "ValueError" := by decide +kernel
theorem g31_NoTables : Gi (defScope (top 31)) "NoTables" := by decide +kernel
theorem l31_3 : Lc (defScope (top 31)) "_law_others" := by decide +kernel
theorem g31_NoWays : Gi (defScope (top 31)) "NoWays" := by decide +kernel
theorem g31_NoText : Gi (defScope (top 31)) "NoText" := by decide +kernel
theorem g31_NoSense : Gi (defScope (top 31)) "NoSense" := by decide +kernel
theorem g31_NoRow : Gi (defScope (top 31)) "NoRow" := by decide +kernel
theorem g31_NoRoom : Gi (defScope (top 31)) "NoRoom" := by decide +kernel
theorem g31_NoPack : Gi (defScope (top 31)) "NoPack" := by decide +kernel
theorem g31_NoNet : Gi (defScope (top 31)) "NoNet" := by decide +kernel
theorem g31_NoFloor : Gi (defScope (top 31)) "NoFloor" := by decide +kernel
theorem g31_NoBits : Gi (defScope (top 31)) "NoBits" := by decide +kernel
theorem g31_OutOfFloor : Gi (defScope (top 31)) "OutOfFloor" := by decide +kernel
theorem v31_3 : Vs (defScope (top 31)) "_law_others" := by decide +kernel
theorem d31_3 : Nd "_law_others" := by decide +kernel
theorem c31_3 : Nc "_law_others" := by decide +kernel
def spRef : Sp := fun vs H Q _ => ∃ (kd : SK) (d tl kl ol : Addr) (ins : Int) (tgs : List TG) (kgs : List KG) (ogs : List (List V)), vs = [.ref d] ∧ H d = some (.tup [.int ins, .ref tl, .ref kl, .ref ol]) ∧ AskAt kd H tl kl ol tgs kgs ogs ∧ (∀ n : Nat, ins = (n : Int) → ¬ AOk n tgs kgs ogs) ∧ ∀ H', Ch [] H H' → Q (.bl true) H'
theorem scRef : FnScope ["_law_drawn", "_law_caught", "e", "_law_others"] ["_law_drawn"] (defScope (top 31)) := ⟨rfl, rfl, rfl, by decide +kernel, rfl, by decide +kernel, by decide +kernel⟩
theorem ok_ref {C CE CF c0 c1 c2 c3 c4 c5 c6 c7 c8 co : Addr} (F : Fun K "_law_refused" "_law_refused" (top 31) f fd) (MkXTables : MakeOk P w K mg base (CXE P w) k C "Tables" ["self", "ins", "tables", "keeps", "outs"] (spTabsX C CE)) (wk : WK K CE [c0, c1, c2, c3, c4, c5, c6, c7, c8] co)
    (m_FloorError : mg "FloorError" = some (.ref CF)) (X_FloorError : XC K CF) (X_NoTables : XC K CE) (sub : XSub K CE CF) (m_NoTables : mg "NoTables" = some (.ref CE)) (m_NoBits : mg "NoBits" = some (.ref c0)) (m_NoFloor : mg "NoFloor" = some (.ref c1)) (m_NoNet : mg "NoNet" = some (.ref c2)) (m_NoPack : mg "NoPack" = some (.ref c3)) (m_NoRoom : mg "NoRoom" = some (.ref c4)) (m_NoRow : mg "NoRow" = some (.ref c5)) (m_NoSense : mg "NoSense" = some (.ref c6)) (m_NoText : mg "NoText" = some (.ref c7)) (m_NoWays : mg "NoWays" = some (.ref c8)) (m_OutOfFloor : mg "OutOfFloor" = some (.ref co)) (z_isinstance : mg "isinstance" = none) (z_ValueError : mg "ValueError" = none) : FnOk P w K mg base CX0 (k + 2) f fd ["_law_drawn"] spRef := by
  have nd := scRef.nd
  refine F.ok scRef (fun vs H Q E h => by obtain ⟨kd, d, tl, kl, ol, ins, tgs, kgs, ogs, rfl, _⟩ := h; rfl) (fun cdv A outer s H vs Q E hr h => ?_)
  obtain ⟨kd, d, tl, kl, ol, ins, tgs, kgs, ogs, rfl, hd, ask, no, q⟩ := h
  have hrm := hr
  refine ⟨_, (Pr.h (qpss_cons (qps_set (i := 1) nd rfl l31_1 qpe_non)
 (qpss_cut (qps_try (i := 2) (fun _ _ h => h) rfl rfl rfl nd rfl k31_2 g31_FloorError m_FloorError X_FloorError (psxs_one (psx_expr (pex_makeD (fun _ _ h => h) MkXTables hrm g31_Tables (qpa_cons (qpe_ix ixa_tup (qpe_var (i := 0) rfl v31_0 d31_0 c31_0) qpe_int (fun _ _ => rfl)) (qpa_cons (qpe_ix ixa_tup (qpe_var (i := 0) rfl v31_0 d31_0 c31_0) qpe_int (fun _ _ => rfl)) (qpa_cons (qpe_ix ixa_tup (qpe_var (i := 0) rfl v31_0 d31_0 c31_0) qpe_int (fun _ _ => rfl)) (qpa_cons (qpe_ix ixa_tup (qpe_var (i := 0) rfl v31_0 d31_0 c31_0) qpe_int (fun _ _ => rfl)) qpa_nil se_Subscript) se_Subscript) se_Subscript) se_Subscript) gd_Tables))) (fun ea => (qpss_one (qps_set (i := 1) nd rfl l31_1 (qpe_var (i := 2) rfl v31_2 d31_2 c31_2)))) gd_FloorError)
 (qpss_cons (qps_if (qPW_pt (qpw_or (qpt_not (qpt_val (qpe_callB call_isX g31_isinstance z_isinstance bo_isinstance (qpa_cons (qpe_var (i := 1) rfl v31_1 d31_1 c31_1) (qpa_cons (qpe_glob (v := .ref _) g31_NoTables m_NoTables rfl gd_NoTables) qpa_nil)) nn_isinstance gd_isinstance))) (qpw_or1 (qpt_not (qpt_val (qpe_callB call_isX g31_isinstance z_isinstance bo_isinstance (qpa_cons (qpe_var (i := 1) rfl v31_1 d31_1 c31_1) (qpa_cons (qpe_bltn (v := .ty "ValueError") g31_ValueError z_ValueError bo_ValueError rfl nn_ValueError gd_ValueError) qpa_nil)) nn_isinstance gd_isinstance))))))
  (qpss_one (qps_ret qpe_bl))
  qpss_nil)
 (qpss_cons (qps_set (i := 3) nd rfl l31_3 (qpe_callB call_isXs g31_isinstance z_isinstance bo_isinstance (qpa_cons (qpe_var (i := 1) rfl v31_1 d31_1 c31_1) (qpa_cons (qpe_tup (qpa_cons (qpe_glob (v := .ref _) g31_NoBits m_NoBits rfl gd_NoBits) (qpa_cons (qpe_glob (v := .ref _) g31_NoFloor m_NoFloor rfl gd_NoFloor) (qpa_cons (qpe_glob (v := .ref _) g31_NoNet m_NoNet rfl gd_NoNet) (qpa_cons (qpe_glob (v := .ref _) g31_NoPack m_NoPack rfl gd_NoPack) (qpa_cons (qpe_glob (v := .ref _) g31_NoRoom m_NoRoom rfl gd_NoRoom) (qpa_cons (qpe_glob (v := .ref _) g31_NoRow m_NoRow rfl gd_NoRow) (qpa_cons (qpe_glob (v := .ref _) g31_NoSense m_NoSense rfl gd_NoSense) (qpa_cons (qpe_glob (v := .ref _) g31_NoText m_NoText rfl gd_NoText) (qpa_cons (qpe_glob (v := .ref _) g31_NoWays m_NoWays rfl gd_NoWays) qpa_nil se_Name) se_Name) se_Name) se_Name) se_Name) se_Name) se_Name) se_Name) se_Name)) qpa_nil)) nn_isinstance gd_isinstance))
 (qpss_one (qps_ret (qpe_and (qpe_not (qpe_var (i := 3) rfl v31_3 d31_3 c31_3)) (qpe_one (qpe_not (qpe_callB call_isX g31_isinstance z_isinstance bo_isinstance (qpa_cons (qpe_var (i := 1) rfl v31_1 d31_1 c31_1) (qpa_cons (qpe_glob (v := .ref _) g31_OutOfFloor m_OutOfFloor rfl gd_OutOfFloor) qpa_nil)) nn_isinstance gd_isinstance))))))))))), ?_⟩
  (try dsimp only [cxOf])
  walk_at "rd"
  refine cut_by (fun σ H' => ∃ ea, σ = [some (.ref d), some (.ref ea), none, none] ∧ Ch [] H H' ∧ H' ea = some (exO ea CE)) ?_ ?_
  · walk_at "rd"
    rename_i x dx hx hdx nx
    refine ⟨ask.ch (Ch.inst hx hdx nx), fun n e ok => absurd ok (no n e), fun _ H1 c1 => ?_⟩
    have c2 := Ch.made hx hdx nx c1
    clear c1
    walk_at "rd"
  · rintro σ H1 ⟨ea, rfl, d1, e1⟩
    have xa := wk.xa
    have kr := wk.kr
    have kv := wk.kv
    have ko := wk.ko
    walk_at "rd"
    rename_i p hp
    refine ⟨⟨[c0, c1, c2, c3, c4, c5, c6, c7, c8], rfl, xa, wk.ks⟩, ?_⟩
    walk_at "rd"
    exact q _ (d1.trans (Ch.new hp _))
end
end

section
theorem cutV_hi {xs : List V} {v : Int} (h0 : 0 ≤ v) (h1 : v ≤ (xs.length : Int)) : cutV xs none (some v) = xs.take v.toNat := by
  show (xs.drop 0).take (HT.sIx xs.length xs.length (some v) - 0) = _
  have e : HT.sIx xs.length xs.length (some v) = v.toNat := by
    show (if v < 0 then (v + (xs.length : Int)).toNat else min v.toNat xs.length) = _
    rw [if_neg (by omega)]
    omega
  rw [e]
  simp
theorem cutV_lo {xs : List V} {v : Int} (h0 : 0 ≤ v) (h1 : v ≤ (xs.length : Int)) : cutV xs (some v) none = xs.drop v.toNat := by
  have e : HT.sIx xs.length 0 (some v) = v.toNat := by
    show (if v < 0 then (v + (xs.length : Int)).toNat else min v.toNat xs.length) = _
    rw [if_neg (by omega)]
    omega
  show (xs.drop (HT.sIx xs.length 0 (some v))).take (xs.length - HT.sIx xs.length 0 (some v)) = _
  rw [e]
  exact List.take_of_length_le (by rw [List.length_drop]; exact Nat.le_refl _)
theorem WsAt.g {H : Hp} : ∀ {ls : List Plc} {ps : List Addr}, WsAt H (ls.map plK) ps → Paired (PgAt H) (ls.map Plc.g) ps
  | [], [], .nil => .nil
  | x :: ls, p :: ps, .cons a t => .cons ⟨a, .inr ⟨_, _, rfl⟩⟩ (WsAt.g t)
theorem paired_map {α α' β : Type} {R : α → β → Prop} {S : α' → β → Prop} {g : α → α'} (h : ∀ x y, R x y → S (g x) y) : ∀ {xs : List α} {ys : List β}, Paired R xs ys → Paired S (xs.map g) ys
  | _, _, .nil => .nil
  | _, _, .cons a t => .cons (h _ _ a) (paired_map h t)
theorem TbL.g {ex : List Addr} {H : Hp} {t : Tb} {p : Addr} (s : TbL ex H t p) : TgAt .list H t.g p := let ⟨lp, ps, _, a, b, w⟩ := s; ⟨lp, ps, a, b, w.g⟩
theorem KpAt.g {H : Hp} {t : Kp} {p : Addr} (s : KpAt H t p) : KgAt H t.g p := let ⟨pp, a, b⟩ := s; ⟨pp, a, b, .inr ⟨_, _, rfl⟩⟩
theorem plB_w {a b c : Nat} {x : Wd} {n : Int} : plB a b c [.str x.s, .int n] = (decide (0 ≤ n) && decide (n < (lim a b c x : Int))) := by
  show inB (valV (cntK a b c) (.inr x.s)) n = _
  rw [cnt_val]
  rfl
theorem plB_g {a b c : Nat} {x : Plc} (h : x.2 < lim a b c x.1) : plB a b c x.g = true := by
  show plB a b c [.str x.1.s, .int (x.2 : Int)] = true
  rw [plB_w, decide_eq_true (by omega), decide_eq_true (by omega)]; rfl
theorem plB_no {a b c : Nat} {x : Wd} {n : Int} (h : n < 0 ∨ (lim a b c x : Int) ≤ n) : plB a b c [.str x.s, .int n] = false := by
  rw [plB_w]
  rcases h with h | h
  · rw [decide_eq_false (by omega : ¬ 0 ≤ n)]; rfl
  · rw [decide_eq_false (by omega : ¬ n < (lim a b c x : Int)), Bool.and_false]
theorem rm_room {n : Nat} (h : n ≤ 4) : rm n = room n := by
  have e5 : n = 0 ∨ n = 1 ∨ n = 2 ∨ n = 3 ∨ n = 4 := by omega
  rcases e5 with rfl | rfl | rfl | rfl | rfl <;> decide +kernel
theorem Tb.ok.g {a b c : Nat} {t : Tb} (h : t.ok a b c) : tgB a b c t.g = true := by
  show (decide ((t.ls.map Plc.g).length ≤ 4) && (belB (.int t.bits) (rm (t.ls.map Plc.g).length) && (t.ls.map Plc.g).all (plB a b c))) = true
  have e : (t.ls.map Plc.g).all (plB a b c) = true := by
    rw [List.all_map]
    exact List.all_eq_true.mpr fun x hx => plB_g (h.lo x hx)
  rw [e, List.length_map, rm_room h.l4, decide_eq_true h.l4]
  show (true && ((decide (0 ≤ t.bits) && decide (t.bits < room t.ls.length)) && true)) = true
  rw [decide_eq_true h.b0, decide_eq_true h.b1]; rfl
theorem belB_bi (b : Bool) : belB (.int (bi b)) 2 = true := by cases b <;> rfl
theorem Okd.g {ins : Nat} {ts : List Tb} {ks : List Kp} {os : List Plc} (ok : Okd ins ts ks os) : AOk ins (ts.map Tb.g) (ks.map Kp.g) (os.map Plc.g) where
  t := fun i t e => by
    rw [List.getElem?_map] at e
    obtain ⟨x, ex, rfl⟩ := Option.map_eq_some_iff.mp e
    rw [List.length_map]
    exact (ok.t i x ex).g
  k := fun x hx => by
    obtain ⟨y, hy, rfl⟩ := List.mem_map.mp hx
    rw [List.length_map, List.length_map]
    show (belB (.int (bi y.f)) 2 && plB _ _ _ y.pl.g) = true
    rw [belB_bi, plB_g (ok.k y hy)]; rfl
  o := fun x hx => by
    obtain ⟨y, hy, rfl⟩ := List.mem_map.mp hx
    rw [List.length_map, List.length_map]
    exact plB_g (ok.o y hy)
structure OddP (a b c : Nat) (H : Hp) (xs : List V) (p : Addr) : Prop where
  pg : PgAt H xs p
  no : plB a b c xs = false
section
variable {P : Program} {w : World} {K : PySem.W.Frag} {mg : Str → Option Value} {base : Heap} {f : Addr} {fd : FuncData} {k : Nat}
theorem k32_3 : (defScope (top 32)).names.lookup (Str.ofString "_law_ins") = some NameKind.local := by decide +kernel
theorem k32_4 : (defScope (top 32)).names.lookup (Str.ofString "_law_keeps") = some NameKind.local := by decide +kernel
theorem k32_5 : (defScope (top 32)).names.lookup (Str.ofString "_law_many") = some NameKind.local := by decide +kernel
theorem g32_len : Gi (defScope (top 32)) "len" := by decide +kernel
theorem v32_1 : Vs (defScope (top 32)) "_law_drawn" := by decide +kernel
theorem d32_1 : Nd "_law_drawn" := by decide +kernel
theorem c32_1 : Nc "_law_drawn" := by decide +kernel
theorem l32_6 : Lc (defScope (top 32)) "_law_some" := by decide +kernel
theorem v32_0 : Vs (defScope (top 32)) "_law_m" := by decide +kernel
theorem d32_0 : Nd "_law_m" := by decide +kernel
theorem c32_0 : Nc "_law_m" := by decide +kernel
theorem v32_4 : Vs (defScope (top 32)) "_law_keeps" := by decide +kernel
theorem d32_4 : Nd "_law_keeps" := by decide +kernel
theorem c32_4 : Nc "_law_keeps" := by decide +kernel
theorem v32_3 : Vs (defScope (top 32)) "_law_ins" := by decide +kernel
theorem d32_3 : Nd "_law_ins" := by decide +kernel
theorem c32_3 : Nc "_law_ins" := by decide +kernel
theorem v32_6 : Vs (defScope (top 32)) "_law_some" := by decide +kernel
theorem d32_6 : Nd "_law_some" := by decide +kernel
theorem c32_6 : Nc "_law_some" := by decide +kernel
theorem v32_2 : Vs (defScope (top 32)) "_law_number" := by decide +kernel
theorem d32_2 : Nd "_law_number" := by decide +kernel
theorem c32_2 : Nc "_law_number" := by decide +kernel
def spOdd : Sp := fun vs H Q _ => ∃ (m : Int) (d tl kl ol : Addr) (ins n : Nat) (ts ks : List V), vs = [.int m, .ref d, .int (n : Int)] ∧ 0 ≤ m ∧ H d = some (.tup [.int (ins : Int), .ref tl, .ref kl, .ref ol]) ∧ H tl = some (.lst ts) ∧ H kl = some (.lst ks) ∧ ∀ p xs H', Ch [] H H' → OddP ins ks.length n H' xs p → Q (.ref p) H'
theorem scOdd : FnScope ["_law_m", "_law_drawn", "_law_number", "_law_ins", "_law_keeps", "_law_many", "_law_some"] ["_law_m", "_law_drawn", "_law_number"] (defScope (top 32)) := ⟨rfl, rfl, rfl, by decide +kernel, rfl, by decide +kernel, by decide +kernel⟩
theorem ok_odd (F : Fun K "_law_odd_place" "_law_odd_place" (top 32) f fd) (z_len : mg "len" = none) : FnOk P w K mg base CX0 (k + 1) f fd ["_law_m", "_law_drawn", "_law_number"] spOdd := by
  have nd := scOdd.nd
  refine F.ok scOdd (fun vs H Q E h => by obtain ⟨m, d, tl, kl, ol, ins, n, ts, ks, rfl, _⟩ := h; rfl) (fun cdv A outer s H vs Q E hr h => ?_)
  obtain ⟨m, d, tl, kl, ol, ins, n, ts, ks, rfl, m0, hd, ht, hk, q⟩ := h
  refine ⟨_, (Pr.h (qpss_cons (qps_par3 (i := 3) (j := 4) (l := 5) rfl nd rfl rfl rfl (by decide) (by decide) (by decide) k32_3 k32_4 k32_5 (qpa_cons (qpe_ix ixa_tup (qpe_var (i := 1) rfl v32_1 d32_1 c32_1) qpe_int (fun _ _ => rfl)) (qpa_cons (qpe_callB call_len_seq g32_len z_len PySem.boot_len (qpa_cons (qpe_ix ixa_tup (qpe_var (i := 1) rfl v32_1 d32_1 c32_1) qpe_int (fun _ _ => rfl)) qpa_nil se_Subscript) nn_len gd_len) (qpa_cons (qpe_callB call_len_seq g32_len z_len PySem.boot_len (qpa_cons (qpe_ix ixa_tup (qpe_var (i := 1) rfl v32_1 d32_1 c32_1) qpe_int (fun _ _ => rfl)) qpa_nil se_Subscript) nn_len gd_len) qpa_nil se_Call) se_Call) se_Subscript) rfl)
 (qpss_cons (qps_set (i := 6) nd rfl l32_6 (qpe_lst (qpa_cons (qpe_tup (qpa_cons qpe_str (qpa_cons (qpe_op op_add (qpe_var (i := 3) rfl v32_3 d32_3 c32_3) (qpe_op op_mod (qpe_op op_fdivW (qpe_var (i := 0) rfl v32_0 d32_0 c32_0) qpe_int) qpe_int)) qpa_nil se_BinOp) se_Constant)) (qpa_cons (qpe_tup (qpa_cons qpe_str (qpa_cons (qpe_un un_neg qpe_int) qpa_nil se_UnaryOp) se_Constant)) (qpa_cons (qpe_tup (qpa_cons qpe_str (qpa_cons (qpe_op op_add (qpe_var (i := 4) rfl v32_4 d32_4 c32_4) (qpe_op op_mod (qpe_op op_fdivW (qpe_var (i := 0) rfl v32_0 d32_0 c32_0) qpe_int) qpe_int)) qpa_nil se_BinOp) se_Constant)) (qpa_cons (qpe_tup (qpa_cons qpe_str (qpa_cons (qpe_op op_sub (qpe_un un_neg qpe_int) (qpe_op op_mod (qpe_op op_fdivW (qpe_var (i := 0) rfl v32_0 d32_0 c32_0) qpe_int) qpe_int)) qpa_nil se_BinOp) se_Constant)) qpa_nil se_Tuple) se_Tuple) se_Tuple) se_Tuple)))
 (qpss_cons (qps_set (i := 6) nd rfl l32_6 (qpe_op op_cat (qpe_var (i := 6) rfl v32_6 d32_6 c32_6) (qpe_lst (qpa_cons (qpe_tup (qpa_cons qpe_str (qpa_cons (qpe_op op_add (qpe_var (i := 2) rfl v32_2 d32_2 c32_2) (qpe_op op_mod (qpe_op op_fdivW (qpe_var (i := 0) rfl v32_0 d32_0 c32_0) qpe_int) qpe_int)) qpa_nil se_BinOp) se_Constant)) (qpa_cons (qpe_tup (qpa_cons qpe_str (qpa_cons (qpe_un un_neg qpe_int) qpa_nil se_UnaryOp) se_Constant)) (qpa_cons (qpe_tup (qpa_cons qpe_str (qpa_cons qpe_int qpa_nil se_Constant) se_Constant)) (qpa_cons (qpe_tup (qpa_cons qpe_str (qpa_cons qpe_int (qpa_cons qpe_int qpa_nil se_Constant) se_Constant) se_Constant)) (qpa_cons (qpe_tup (qpa_cons qpe_str (qpa_cons qpe_int qpa_nil se_Constant) se_Constant)) (qpa_cons (qpe_tup (qpa_cons qpe_str qpa_nil se_Constant)) (qpa_cons (qpe_tup qpa_nil) qpa_nil se_Tuple) se_Tuple) se_Tuple) se_Tuple) se_Tuple) se_Tuple) se_Tuple))))
 (qpss_one (qps_ret (qpe_ix ixa_list (qpe_var (i := 6) rfl v32_6 d32_6 c32_6) (qpe_op op_mod (qpe_var (i := 0) rfl v32_0 d32_0 c32_0) qpe_int) (fun _ _ => rfl)))))))), ?_⟩
  (try dsimp only [cxOf])
  walk_at "rd"
  rename_i p1 h1 p2 h2 p3 h3 p4 h4 l1 hl1 p5 h5 p6 h6 p7 h7 p8 h8 p9 h9 p10 h10 p11 h11 l2 hl2 l3 hl3
  refine Atx.any (Int.emod_nonneg _ (by decide)) (by show m % 11 < 11; omega) (fun v hv _ => ?_)
  have r0 : 0 ≤ m / 7 % 3 := by omega
  have r1 : m / 7 % 3 < 3 := by omega
  generalize m / 7 % 3 = r at *
  dsimp only at *
  generalize hH9 : upd _ l3 _ = H9
  have c9 : Ch [] H H9 := by rw [← hH9]; walk_at "ch"
  simp only [List.mem_append, List.mem_cons, List.not_mem_nil, or_false] at hv
  rcases hv with (rfl | rfl | rfl | rfl) | rfl | rfl | rfl | rfl | rfl | rfl | rfl
  · exact q p1 _ _ c9 ⟨⟨by rw [← hH9]; walk_at "get", .inr ⟨_, _, rfl⟩⟩, plB_no (x := .i) (.inr (by show (ins : Int) ≤ ins + r; omega))⟩
  · exact q p2 _ _ c9 ⟨⟨by rw [← hH9]; walk_at "get", .inr ⟨_, _, rfl⟩⟩, plB_no (x := .i) (.inl (by decide))⟩
  · exact q p3 _ _ c9 ⟨⟨by rw [← hH9]; walk_at "get", .inr ⟨_, _, rfl⟩⟩, plB_no (x := .k) (.inr (by show (ks.length : Int) ≤ ks.length + r; omega))⟩
  · exact q p4 _ _ c9 ⟨⟨by rw [← hH9]; walk_at "get", .inr ⟨_, _, rfl⟩⟩, plB_no (x := .k) (.inl (by show -1 - r < 0; omega))⟩
  · exact q p5 _ _ c9 ⟨⟨by rw [← hH9]; walk_at "get", .inr ⟨_, _, rfl⟩⟩, plB_no (x := .t) (.inr (by show (n : Int) ≤ n + r; omega))⟩
  · exact q p6 _ _ c9 ⟨⟨by rw [← hH9]; walk_at "get", .inr ⟨_, _, rfl⟩⟩, plB_no (x := .t) (.inl (by decide))⟩
  · exact q p7 _ _ c9 ⟨⟨by rw [← hH9]; walk_at "get", .inr ⟨_, _, rfl⟩⟩, rfl⟩
  · exact q p8 _ _ c9 ⟨⟨by rw [← hH9]; walk_at "get", .inl (by decide)⟩, rfl⟩
  · exact q p9 _ _ c9 ⟨⟨by rw [← hH9]; walk_at "get", .inr ⟨_, _, rfl⟩⟩, rfl⟩
  · exact q p10 _ _ c9 ⟨⟨by rw [← hH9]; walk_at "get", .inl (by decide)⟩, rfl⟩
  · exact q p11 _ _ c9 ⟨⟨by rw [← hH9]; walk_at "get", .inl (by decide)⟩, rfl⟩
end
end

section
structure SpR (H : Hp) (r : Addr) : Prop where
  ex : ∃ (tl kl ol : Addr) (ins : Int) (tgs : List TG) (kgs : List KG) (ogs : List (List V)), H r = some (.tup [.int ins, .ref tl, .ref kl, .ref ol]) ∧ AskAt .list H tl kl ol tgs kgs ogs ∧ ∀ n : Nat, ins = (n : Int) → ¬ AOk n tgs kgs ogs
structure Cpy (H : Hp) (tl kl ol : Addr) (tps kps ops : List Addr) (ts : List Tb) (ks : List Kp) (os : List Plc) : Prop where
  t : H tl = some (.lst (tps.map V.ref))
  k : H kl = some (.lst (kps.map V.ref))
  o : H ol = some (.lst (ops.map V.ref))
  tt : Paired (TgAt .list H) (ts.map Tb.g) tps
  kk : Paired (KgAt H) (ks.map Kp.g) kps
  oo : Paired (PgAt H) (os.map Plc.g) ops
theorem Cpy.ch {H H' : Hp} {tl kl ol : Addr} {tps kps ops : List Addr} {ts : List Tb} {ks : List Kp} {os : List Plc} (s : Cpy H tl kl ol tps kps ops ts ks os) (c : Ch [] H H') : Cpy H' tl kl ol tps kps ops ts ks os :=
  ⟨c.get s.t (by simp), c.get s.k (by simp), c.get s.o (by simp), paired_imp (fun _ _ e => TgAt.ch c e) s.tt, paired_imp (fun _ _ e => KgAt.tu (Tu.same c) e) s.kk, paired_imp (fun _ _ e => PgAt.tu (Tu.same c) e) s.oo⟩
structure BadT (a b c : Nat) (H : Hp) (t : TG) (p : Addr) : Prop where
  tg : TgAt .list H t p
  no : tgB a b c t = false
theorem paired_take {α β : Type} {R : α → β → Prop} : ∀ (n : Nat) {xs : List α} {ys : List β}, Paired R xs ys → Paired R (xs.take n) (ys.take n)
  | 0, _, _, _ => by simpa using Paired.nil
  | n + 1, _, _, .nil => .nil
  | n + 1, _, _, .cons a t => .cons a (paired_take n t)
theorem paired_drop {α β : Type} {R : α → β → Prop} : ∀ (n : Nat) {xs : List α} {ys : List β}, Paired R xs ys → Paired R (xs.drop n) (ys.drop n)
  | 0, _, _, h => h
  | n + 1, _, _, .nil => .nil
  | n + 1, _, _, .cons a t => paired_drop n t
section
variable {H : Hp} {r tl kl ol : Addr} {ins : Nat} {tps kps ops : List Addr} {ts : List Tb} {ks : List Kp} {os : List Plc}
theorem SpR.outs {ol' p : Addr} {xs : List V} (s : Cpy H tl kl ol tps kps ops ts ks os) (ok : Okd ins ts ks os) (hr : H r = some (.tup [.int (ins : Int), .ref tl, .ref kl, .ref ol'])) (h : H ol' = some (.lst (ops.map V.ref ++ [.ref p]))) (b : OddP ins ks.length ts.length H xs p) : SpR H r := by
  have := ok.lo
  have := ok.lt
  have := ok.lk
  refine ⟨tl, kl, ol', ins, _, _, os.map Plc.g ++ [xs], hr, ⟨⟨tps, s.t, s.tt⟩, ⟨kps, s.k, s.kk⟩, ⟨ops ++ [p], by rw [List.map_append]; exact h, paired_snoc b.pg s.oo⟩, by rw [List.length_map]; omega, by rw [List.length_map]; omega, by simp; omega⟩, fun n e z => ?_⟩
  have e' : ins = n := by omega
  subst e'
  have z := z.o xs (by simp)
  rw [List.length_map, List.length_map, b.no] at z
  cases z
theorem SpR.keeps {kl' p : Addr} {g : KG} (s : Cpy H tl kl ol tps kps ops ts ks os) (ok : Okd ins ts ks os) (hr : H r = some (.tup [.int (ins : Int), .ref tl, .ref kl', .ref ol])) (h : H kl' = some (.lst (kps.map V.ref ++ [.ref p]))) (b : KgAt H g p) (no : kgB ins (ks.length + 1) ts.length g = false) : SpR H r := by
  have := ok.lo
  have := ok.lt
  have := ok.lk
  refine ⟨tl, kl', ol, ins, _, ks.map Kp.g ++ [g], _, hr, ⟨⟨tps, s.t, s.tt⟩, ⟨kps ++ [p], by rw [List.map_append]; exact h, paired_snoc b s.kk⟩, ⟨ops, s.o, s.oo⟩, by rw [List.length_map]; omega, by simp; omega, by rw [List.length_map]; omega⟩, fun n e z => ?_⟩
  have e' : ins = n := by omega
  subst e'
  have z := z.k g (by simp)
  rw [List.length_append, List.length_map, List.length_map] at z
  have z : kgB ins (ks.length + 1) ts.length g = true := z
  rw [no] at z
  cases z
theorem SpR.tables {tl' p : Addr} {g : TG} {ins' n : Nat} (s : Cpy H tl kl ol tps kps ops ts ks os) (ok : Okd ins ts ks os) (hn : n ≤ ts.length) (hr : H r = some (.tup [.int (ins' : Int), .ref tl', .ref kl, .ref ol])) (h : H tl' = some (.lst ((tps.map V.ref).take n ++ [.ref p] ++ (tps.map V.ref).drop n))) (b : BadT ins' ks.length n H g p) : SpR H r := by
  have := ok.lo
  have := ok.lt
  have := ok.lk
  have lt := Paired.length s.tt
  rw [List.length_map] at lt
  refine ⟨tl', kl, ol, ins', (ts.map Tb.g).take n ++ [g] ++ (ts.map Tb.g).drop n, _, _, hr, ⟨⟨tps.take n ++ [p] ++ tps.drop n, ?_, paired_app (paired_snoc b.tg (paired_take n s.tt)) (paired_drop n s.tt)⟩, ⟨kps, s.k, s.kk⟩, ⟨ops, s.o, s.oo⟩, ?_, by rw [List.length_map]; omega, by rw [List.length_map]; omega⟩, fun m e z => ?_⟩
  · show H tl' = _
    rw [h]
    simp
  · simp
    omega
  have e' : ins' = m := by omega
  subst e'
  have z := z.t n g (by
    rw [List.append_assoc, List.getElem?_append_right (by simp; omega)]
    simp
    rw [show n - min n ts.length = 0 from by omega]
    rfl)
  rw [List.length_map, b.no] at z
  cases z
end
section
variable {P : Program} {w : World} {K : PySem.W.Frag} {mg : Str → Option Value} {base : Heap} {f : Addr} {fd : FuncData} {k : Nat}
theorem gd__law_odd_place : Nd "_law_odd_place" := by decide +kernel
theorem v33_1 : Vs (defScope (top 33)) "_law_drawn" := by decide +kernel
theorem d33_1 : Nd "_law_drawn" := by decide +kernel
theorem c33_1 : Nc "_law_drawn" := by decide +kernel
theorem l33_5 : Lc (defScope (top 33)) "_law_outs" := by decide +kernel
theorem l33_4 : Lc (defScope (top 33)) "_law_keeps" := by decide +kernel
theorem l33_3 : Lc (defScope (top 33)) "_law_tables" := by decide +kernel
theorem l33_2 : Lc (defScope (top 33)) "_law_ins" := by decide +kernel
theorem k33_3 : (defScope (top 33)).names.lookup (Str.ofString "_law_tables") = some NameKind.local := by decide +kernel
theorem k33_4 : (defScope (top 33)).names.lookup (Str.ofString "_law_keeps") = some NameKind.local := by decide +kernel
theorem k33_5 : (defScope (top 33)).names.lookup (Str.ofString "_law_outs") = some NameKind.local := by decide +kernel
theorem g33_list : Gi (defScope (top 33)) "list" := by decide +kernel
theorem v33_5 : Vs (defScope (top 33)) "_law_outs" := by decide +kernel
theorem d33_5 : Nd "_law_outs" := by decide +kernel
theorem c33_5 : Nc "_law_outs" := by decide +kernel
theorem v33_4 : Vs (defScope (top 33)) "_law_keeps" := by decide +kernel
theorem d33_4 : Nd "_law_keeps" := by decide +kernel
theorem c33_4 : Nc "_law_keeps" := by decide +kernel
theorem v33_3 : Vs (defScope (top 33)) "_law_tables" := by decide +kernel
theorem d33_3 : Nd "_law_tables" := by decide +kernel
theorem c33_3 : Nc "_law_tables" := by decide +kernel
theorem l33_6 : Lc (defScope (top 33)) "_law_many" := by decide +kernel
theorem g33_len : Gi (defScope (top 33)) "len" := by decide +kernel
theorem l33_7 : Lc (defScope (top 33)) "_law_spot" := by decide +kernel
theorem v33_0 : Vs (defScope (top 33)) "_law_m" := by decide +kernel
theorem d33_0 : Nd "_law_m" := by decide +kernel
theorem c33_0 : Nc "_law_m" := by decide +kernel
theorem v33_6 : Vs (defScope (top 33)) "_law_many" := by decide +kernel
theorem d33_6 : Nd "_law_many" := by decide +kernel
theorem c33_6 : Nc "_law_many" := by decide +kernel
theorem g33__law_odd_place : Gi (defScope (top 33)) "_law_odd_place" := by decide +kernel
theorem v33_2 : Vs (defScope (top 33)) "_law_ins" := by decide +kernel
theorem d33_2 : Nd "_law_ins" := by decide +kernel
theorem c33_2 : Nc "_law_ins" := by decide +kernel
theorem l33_8 : Lc (defScope (top 33)) "_law_place_here" := by decide +kernel
theorem v33_8 : Vs (defScope (top 33)) "_law_place_here" := by decide +kernel
theorem d33_8 : Nd "_law_place_here" := by decide +kernel
theorem c33_8 : Nc "_law_place_here" := by decide +kernel
theorem l33_9 : Lc (defScope (top 33)) "_law_odd" := by decide +kernel
theorem v33_9 : Vs (defScope (top 33)) "_law_odd" := by decide +kernel
theorem d33_9 : Nd "_law_odd" := by decide +kernel
theorem c33_9 : Nc "_law_odd" := by decide +kernel
theorem l33_10 : Lc (defScope (top 33)) "_law_bad" := by decide +kernel
theorem v33_7 : Vs (defScope (top 33)) "_law_spot" := by decide +kernel
theorem d33_7 : Nd "_law_spot" := by decide +kernel
theorem c33_7 : Nc "_law_spot" := by decide +kernel
theorem g33_max : Gi (defScope (top 33)) "max" := by decide +kernel
theorem v33_10 : Vs (defScope (top 33)) "_law_bad" := by decide +kernel
theorem d33_10 : Nd "_law_bad" := by decide +kernel
theorem c33_10 : Nc "_law_bad" := by decide +kernel
def spSpt : Sp := fun vs H Q _ => ∃ (m : Int) (d tl kl ol b : Addr) (ins : Nat) (ts : List Tb) (ks : List Kp) (os : List Plc), vs = [.int m, .ref d] ∧ 0 ≤ m ∧ H d = some (.tup [.int (ins : Int), .ref tl, .ref kl, .ref ol]) ∧ DrAt [b] H tl kl ol ts ks os ∧ Okd ins ts ks os ∧ ∀ r H', Ch [] H H' → SpR H' r → Q (.ref r) H'
theorem scSpt : FnScope ["_law_m", "_law_drawn", "_law_ins", "_law_tables", "_law_keeps", "_law_outs", "_law_many", "_law_spot", "_law_place_here", "_law_odd", "_law_bad"] ["_law_m", "_law_drawn"] (defScope (top 33)) := ⟨rfl, rfl, rfl, by decide +kernel, rfl, by decide +kernel, by decide +kernel⟩
theorem ok_spt (F : Fun K "_law_spoilt" "_law_spoilt" (top 33) f fd) (D_law_odd_place : DefOk P w K mg base CX0 k "_law_odd_place" ["_law_m", "_law_drawn", "_law_number"] spOdd) (z_len : mg "len" = none) (z_list : mg "list" = none) (z_max : mg "max" = none) : FnOk P w K mg base CX0 (k + 1) f fd ["_law_m", "_law_drawn"] spSpt := by
  have nd := scSpt.nd
  refine F.ok scSpt (fun vs H Q E h => by obtain ⟨m, d, tl, kl, ol, b, ins, ts, ks, os, rfl, _⟩ := h; rfl) (fun cdv A outer s H vs Q E hr h => ?_)
  obtain ⟨m, d, tl, kl, ol, b, ins, ts, ks, os, rfl, m0, hd, dr, ok, q⟩ := h
  refine ⟨_, (Pr.h (qpss_cons (qps_asg (qpe_var (i := 1) rfl v33_1 d33_1 c33_1) (qpg_tup rfl (qpgs_cons (qpg_name (i := 2) nd rfl l33_2) (qpgs_cons (qpg_name (i := 3) nd rfl l33_3) (qpgs_cons (qpg_name (i := 4) nd rfl l33_4) (qpgs_cons (qpg_name (i := 5) nd rfl l33_5) qpgs_nil))))))
 (qpss_cons (qps_par3 (i := 3) (j := 4) (l := 5) rfl nd rfl rfl rfl (by decide) (by decide) (by decide) k33_3 k33_4 k33_5 (qpa_cons (qpe_callTy call_list_of g33_list z_list bo_list (qpa_cons (qpe_var (i := 3) rfl v33_3 d33_3 c33_3) qpa_nil se_Name) nn_list gd_list) (qpa_cons (qpe_callTy call_list_of g33_list z_list bo_list (qpa_cons (qpe_var (i := 4) rfl v33_4 d33_4 c33_4) qpa_nil se_Name) nn_list gd_list) (qpa_cons (qpe_callTy call_list_of g33_list z_list bo_list (qpa_cons (qpe_var (i := 5) rfl v33_5 d33_5 c33_5) qpa_nil se_Name) nn_list gd_list) qpa_nil se_Call) se_Call) se_Call) rfl)
 (qpss_cons (qps_set (i := 6) nd rfl l33_6 (qpe_callB call_len_seq g33_len z_len PySem.boot_len (qpa_cons (qpe_var (i := 3) rfl v33_3 d33_3 c33_3) qpa_nil se_Name) nn_len gd_len))
 (qpss_cons (qps_set (i := 7) nd rfl l33_7 (qpe_op op_mod (qpe_op op_fdivW (qpe_var (i := 0) rfl v33_0 d33_0 c33_0) qpe_int) (qpe_op op_add (qpe_var (i := 6) rfl v33_6 d33_6 c33_6) qpe_int)))
 (qpss_cons (qps_if (qpt_cmpR op_eq (qpe_op op_mod (qpe_var (i := 0) rfl v33_0 d33_0 c33_0) qpe_int) qpe_int (nomark _))
  (qpss_one (qps_ret (qpe_tup (qpa_cons (qpe_op op_sub (qpe_un un_neg qpe_int) (qpe_op op_mod (qpe_op op_fdivW (qpe_var (i := 0) rfl v33_0 d33_0 c33_0) qpe_int) qpe_int)) (qpa_cons (qpe_lst qpa_nil) (qpa_cons (qpe_lst qpa_nil) (qpa_cons (qpe_lst qpa_nil) qpa_nil se_List) se_List) se_List) se_BinOp))))
  qpss_nil)
 (qpss_cons (qps_if (qpt_cmpR op_eq (qpe_op op_mod (qpe_var (i := 0) rfl v33_0 d33_0 c33_0) qpe_int) qpe_int (nomark _))
  (qpss_one (qps_ret (qpe_tup (qpa_cons (qpe_var (i := 2) rfl v33_2 d33_2 c33_2) (qpa_cons (qpe_var (i := 3) rfl v33_3 d33_3 c33_3) (qpa_cons (qpe_var (i := 4) rfl v33_4 d33_4 c33_4) (qpa_cons (qpe_op op_cat (qpe_var (i := 5) rfl v33_5 d33_5 c33_5) (qpe_lst (qpa_cons (qpe_callD D_law_odd_place hr g33__law_odd_place pass0 (qpa_cons (qpe_op op_fdivW (qpe_var (i := 0) rfl v33_0 d33_0 c33_0) qpe_int) (qpa_cons (qpe_var (i := 1) rfl v33_1 d33_1 c33_1) (qpa_cons (qpe_var (i := 6) rfl v33_6 d33_6 c33_6) qpa_nil se_Name) se_Name) se_BinOp) gd__law_odd_place) qpa_nil se_Call))) qpa_nil se_BinOp) se_Name) se_Name) se_Name))))
  qpss_nil)
 (qpss_cons (qps_if (qpt_cmpR op_eq (qpe_op op_mod (qpe_var (i := 0) rfl v33_0 d33_0 c33_0) qpe_int) qpe_int (nomark _))
  (qpss_cons (qps_set (i := 8) nd rfl l33_8 (qpe_callD D_law_odd_place hr g33__law_odd_place pass0 (qpa_cons (qpe_op op_fdivW (qpe_var (i := 0) rfl v33_0 d33_0 c33_0) qpe_int) (qpa_cons (qpe_tup (qpa_cons (qpe_var (i := 2) rfl v33_2 d33_2 c33_2) (qpa_cons (qpe_var (i := 3) rfl v33_3 d33_3 c33_3) (qpa_cons (qpe_op op_cat (qpe_var (i := 4) rfl v33_4 d33_4 c33_4) (qpe_lst (qpa_cons qpe_int qpa_nil se_Constant))) (qpa_cons (qpe_var (i := 5) rfl v33_5 d33_5 c33_5) qpa_nil se_Name) se_BinOp) se_Name) se_Name)) (qpa_cons (qpe_var (i := 6) rfl v33_6 d33_6 c33_6) qpa_nil se_Name) se_Tuple) se_BinOp) gd__law_odd_place))
 (qpss_one (qps_ret (qpe_tup (qpa_cons (qpe_var (i := 2) rfl v33_2 d33_2 c33_2) (qpa_cons (qpe_var (i := 3) rfl v33_3 d33_3 c33_3) (qpa_cons (qpe_op op_cat (qpe_var (i := 4) rfl v33_4 d33_4 c33_4) (qpe_lst (qpa_cons (qpe_tup (qpa_cons (qpe_op op_mod (qpe_op op_fdivW (qpe_var (i := 0) rfl v33_0 d33_0 c33_0) qpe_int) qpe_int) (qpa_cons (qpe_var (i := 8) rfl v33_8 d33_8 c33_8) qpa_nil se_Name) se_BinOp)) qpa_nil se_Tuple))) (qpa_cons (qpe_var (i := 5) rfl v33_5 d33_5 c33_5) qpa_nil se_Name) se_BinOp) se_Name) se_Name)))))
  qpss_nil)
 (qpss_cons (qps_if (qpt_cmpR op_eq (qpe_op op_mod (qpe_var (i := 0) rfl v33_0 d33_0 c33_0) qpe_int) qpe_int (nomark _))
  (qpss_cons (qps_set (i := 9) nd rfl l33_9 (qpe_ix ixa_list (qpe_lst (qpa_cons (qpe_tup (qpa_cons qpe_int (qpa_cons (qpe_tup (qpa_cons qpe_str (qpa_cons qpe_int qpa_nil se_Constant) se_Constant)) qpa_nil se_Tuple) se_Constant)) (qpa_cons (qpe_tup (qpa_cons (qpe_un un_neg qpe_int) (qpa_cons (qpe_tup (qpa_cons qpe_str (qpa_cons qpe_int qpa_nil se_Constant) se_Constant)) qpa_nil se_Tuple) se_UnaryOp)) (qpa_cons (qpe_tup (qpa_cons qpe_int qpa_nil se_Constant)) (qpa_cons (qpe_tup (qpa_cons qpe_int (qpa_cons (qpe_tup (qpa_cons qpe_str (qpa_cons qpe_int qpa_nil se_Constant) se_Constant)) (qpa_cons qpe_int qpa_nil se_Constant) se_Tuple) se_Constant)) (qpa_cons (qpe_tup qpa_nil) qpa_nil se_Tuple) se_Tuple) se_Tuple) se_Tuple) se_Tuple)) (qpe_op op_mod (qpe_op op_fdivW (qpe_var (i := 0) rfl v33_0 d33_0 c33_0) qpe_int) qpe_int) (fun _ _ => rfl)))
 (qpss_one (qps_ret (qpe_tup (qpa_cons (qpe_var (i := 2) rfl v33_2 d33_2 c33_2) (qpa_cons (qpe_var (i := 3) rfl v33_3 d33_3 c33_3) (qpa_cons (qpe_op op_cat (qpe_var (i := 4) rfl v33_4 d33_4 c33_4) (qpe_lst (qpa_cons (qpe_var (i := 9) rfl v33_9 d33_9 c33_9) qpa_nil se_Name))) (qpa_cons (qpe_var (i := 5) rfl v33_5 d33_5 c33_5) qpa_nil se_Name) se_BinOp) se_Name) se_Name)))))
  qpss_nil)
 (qpss_cut (qps_if (qpt_cmpR op_eq (qpe_op op_mod (qpe_var (i := 0) rfl v33_0 d33_0 c33_0) qpe_int) qpe_int (nomark _))
  (qpss_one (qps_set (i := 10) nd rfl l33_10 (qpe_tup (qpa_cons (qpe_lst (qpa_cons (qpe_callD D_law_odd_place hr g33__law_odd_place pass0 (qpa_cons (qpe_op op_fdivW (qpe_var (i := 0) rfl v33_0 d33_0 c33_0) qpe_int) (qpa_cons (qpe_var (i := 1) rfl v33_1 d33_1 c33_1) (qpa_cons (qpe_var (i := 7) rfl v33_7 d33_7 c33_7) qpa_nil se_Name) se_Name) se_BinOp) gd__law_odd_place) qpa_nil se_Call)) (qpa_cons (qpe_op op_mod (qpe_op op_fdivW (qpe_var (i := 0) rfl v33_0 d33_0 c33_0) qpe_int) qpe_int) qpa_nil se_BinOp) se_List))))
  (qpss_one (qps_if (qpt_cmpR op_eq (qpe_op op_mod (qpe_var (i := 0) rfl v33_0 d33_0 c33_0) qpe_int) qpe_int (nomark _))
  (qpss_cons (qps_set (i := 10) nd rfl l33_10 (qpe_tup (qpa_cons (qpe_op op_rep (qpe_lst (qpa_cons (qpe_tup (qpa_cons qpe_str (qpa_cons qpe_int qpa_nil se_Constant) se_Constant)) qpa_nil se_Tuple)) qpe_int) (qpa_cons qpe_int qpa_nil se_Constant) se_BinOp)))
 (qpss_one (qps_set (i := 2) nd rfl l33_2 (qpe_callB (call_max2 rfl) g33_max z_max bo_max (qpa_cons qpe_int (qpa_cons (qpe_var (i := 2) rfl v33_2 d33_2 c33_2) qpa_nil se_Name) se_Constant) nn_max gd_max))))
  (qpss_one (qps_if (qpt_cmpR op_eq (qpe_op op_mod (qpe_var (i := 0) rfl v33_0 d33_0 c33_0) qpe_int) qpe_int (nomark _))
  (qpss_one (qps_set (i := 10) nd rfl l33_10 (qpe_tup (qpa_cons (qpe_lst qpa_nil) (qpa_cons (qpe_ix ixa_list (qpe_lst (qpa_cons qpe_int (qpa_cons (qpe_un un_neg qpe_int) (qpa_cons qpe_int (qpa_cons qpe_int qpa_nil se_Constant) se_Constant) se_UnaryOp) se_Constant)) (qpe_op op_mod (qpe_op op_fdivW (qpe_var (i := 0) rfl v33_0 d33_0 c33_0) qpe_int) qpe_int) (fun _ _ => rfl)) qpa_nil se_Subscript) se_List))))
  (qpss_one (qps_set (i := 10) nd rfl l33_10 (qpe_ix ixa_list (qpe_lst (qpa_cons (qpe_tup (qpa_cons (qpe_lst qpa_nil) (qpa_cons qpe_int (qpa_cons qpe_int qpa_nil se_Constant) se_Constant) se_List)) (qpa_cons (qpe_tup (qpa_cons (qpe_lst qpa_nil) qpa_nil se_List)) (qpa_cons (qpe_tup qpa_nil) qpa_nil se_Tuple) se_Tuple) se_Tuple)) (qpe_op op_mod (qpe_op op_fdivW (qpe_var (i := 0) rfl v33_0 d33_0 c33_0) qpe_int) qpe_int) (fun _ _ => rfl)))))))))
 (qpss_one (qps_ret (qpe_tup (qpa_cons (qpe_var (i := 2) rfl v33_2 d33_2 c33_2) (qpa_cons (qpe_op op_cat (qpe_op op_cat (qpe_slice sl_list (qpe_var (i := 3) rfl v33_3 d33_3 c33_3) qpo_none (qpo_some (qpe_var (i := 7) rfl v33_7 d33_7 c33_7))) (qpe_lst (qpa_cons (qpe_var (i := 10) rfl v33_10 d33_10 c33_10) qpa_nil se_Name))) (qpe_slice sl_list (qpe_var (i := 3) rfl v33_3 d33_3 c33_3) (qpo_some (qpe_var (i := 7) rfl v33_7 d33_7 c33_7)) qpo_none)) (qpa_cons (qpe_var (i := 4) rfl v33_4 d33_4 c33_4) (qpa_cons (qpe_var (i := 5) rfl v33_5 d33_5 c33_5) qpa_nil se_Name) se_Name) se_BinOp) se_Name)))))))))))))), ?_⟩
  (try dsimp only [cxOf])
  obtain ⟨_, tps, ht, tt⟩ := dr.t
  obtain ⟨_, kps, hk, kk⟩ := dr.k
  obtain ⟨_, ops, ho, oo⟩ := dr.o
  have lt := Paired.length tt
  have lk := Paired.length kk
  have lo := Paired.length oo
  rw [List.length_map] at lo
  have t12 := ok.lt
  have k12 := ok.lk
  have o12 := ok.lo
  walk_at "rd"
  rename_i tl2 h1 kl2 h2 ol2 h3
  have c1 : Ch [] H (upd (upd (upd H tl2 (.lst (tps.map V.ref))) kl2 (.lst (kps.map V.ref))) ol2 (.lst (ops.map V.ref))) := ((Ch.new h1 _).trans (Ch.new h2 _)).trans (Ch.new h3 _)
  have cp : Cpy (upd (upd (upd H tl2 (.lst (tps.map V.ref))) kl2 (.lst (kps.map V.ref))) ol2 (.lst (ops.map V.ref))) tl2 kl2 ol2 tps kps ops ts ks os :=
    ⟨g_new h3 (g_new h2 upd_same), g_new h3 upd_same, upd_same, paired_imp (fun _ _ e => TgAt.ch c1 e) (paired_map (fun _ _ e => TbL.g e) tt), paired_imp (fun _ _ e => KgAt.tu (Tu.same c1) e) (paired_map (fun _ _ e => KpAt.g e) kk), paired_imp (fun _ _ e => PgAt.tu (Tu.same c1) e) (WsAt.g oo)⟩
  have hd1 := c1.get hd (by simp)
  have ht1 := c1.get ht (by simp)
  have hk1 := c1.get hk (by simp)
  generalize upd (upd (upd H tl2 (.lst (tps.map V.ref))) kl2 (.lst (kps.map V.ref))) ol2 (.lst (ops.map V.ref)) = H1 at c1 cp hd1 ht1 hk1 ⊢
  have t1 := cp.t
  have k1 := cp.k
  have o1 := cp.o
  have lt2 : (tps.map V.ref).length = ts.length := by rw [List.length_map, lt]
  have lk2 : (kps.map V.ref).length = ks.length := by rw [List.length_map, lk]
  have lo2 : (ops.map V.ref).length = os.length := by rw [List.length_map, lo]
  have kw : (kps.map V.ref ++ [V.int 0]).length = ks.length + 1 := by rw [List.length_append, lk2]; rfl
  clear h1 h2 h3 tt kk oo ht hk ho hd dr lt lk lo
  refine ite2 (fun hc => ?_) (fun hc => ?_)
  · walk_at "rd"
    rename_i l1 g1 l2 g2 l3 g3 R hR
    have r0 : 0 ≤ m / 8 % 9 := by omega
    have cR : Ch [] H1 (upd (upd (upd (upd H1 l1 (.lst [])) l2 (.lst [])) l3 (.lst [])) R (.tup [.int (-1 - m / 8 % 9), .ref l1, .ref l2, .ref l3])) := (((Ch.new g1 _).trans (Ch.new g2 _)).trans (Ch.new g3 _)).trans (Ch.new hR _)
    exact q R _ (c1.trans cR) ⟨l1, l2, l3, _, [], [], [], upd_same, ⟨⟨[], g_new hR (g_new g3 (g_new g2 upd_same)), .nil⟩, ⟨[], g_new hR (g_new g3 upd_same), .nil⟩, ⟨[], g_new hR upd_same, .nil⟩, by simp, by simp, by simp⟩, fun n e => by omega⟩
  clear hc
  walk_at "rd"
  refine ite2 (fun hc => ?_) (fun hc => ?_)
  · clear hc
    have m8 : 0 ≤ m / 80 := by omega
    walk_at "rd"
    rename_i pp xs H2 c2 od l1 g1 l2 g2 R hR
    rw [lt2, lk2] at od
    have cR : Ch [] H2 (upd (upd (upd H2 l1 (.lst [.ref pp])) l2 (.lst (ops.map V.ref ++ [.ref pp]))) R (.tup [.int (ins : Int), .ref tl2, .ref kl2, .ref l2])) := ((Ch.new g1 _).trans (Ch.new g2 _)).trans (Ch.new hR _)
    exact q R _ ((c1.trans c2).trans cR) (SpR.outs (cp.ch (c2.trans cR)) ok upd_same (g_new hR upd_same) ⟨PgAt.tu (Tu.same cR) od.pg, od.no⟩)
  clear hc
  walk_at "rd"
  refine ite2 (fun hc => ?_) (fun hc => ?_)
  · clear hc
    have m8 : 0 ≤ m / 160 := by omega
    walk_at "rd"
    rename_i l1 g1 l2 g2 T hT pp xs H2 c2 od Kt hKt l3 g3 l4 g4 R hR
    rw [lt2, kw] at od
    have cA : Ch [] H1 (upd (upd (upd H1 l1 (.lst [.int 0])) l2 (.lst (kps.map V.ref ++ [.int 0]))) T (.tup [.int (ins : Int), .ref tl2, .ref l2, .ref ol2])) := ((Ch.new g1 _).trans (Ch.new g2 _)).trans (Ch.new hT _)
    have cR : Ch [] H2 (upd (upd (upd (upd H2 Kt (.tup [.int (m / 80 % 2), .ref pp])) l3 (.lst [.ref Kt])) l4 (.lst (kps.map V.ref ++ [.ref Kt]))) R (.tup [.int (ins : Int), .ref tl2, .ref l4, .ref ol2])) := (((Ch.new hKt _).trans (Ch.new g3 _)).trans (Ch.new g4 _)).trans (Ch.new hR _)
    refine q R _ (((c1.trans cA).trans c2).trans cR) (SpR.keeps (g := .kp (m / 80 % 2) xs) (cp.ch ((cA.trans c2).trans cR)) ok upd_same (g_new hR upd_same) ⟨pp, g_new hR (g_new g4 (g_new g3 upd_same)), PgAt.tu (Tu.same cR) od.pg⟩ ?_)
    show (_ && plB _ _ _ xs) = false
    rw [od.no, Bool.and_false]
  clear hc
  walk_at "rd"
  refine ite2 (fun hc => ?_) (fun hc => ?_)
  · clear hc
    walk_at "rd"
    rename_i a1 b1 a2 b2 a3 b3 a4 b4 a5 b5 a6 b6 a7 b7 a8 b8 a9 b9
    dsimp only at *
    generalize hH2 : upd _ a9 _ = H2
    have c2 : Ch [] H1 H2 := by rw [← hH2]; walk_at "ch"
    obtain ⟨Kt, g, hat, kg, no⟩ : ∃ Kt g, atI [V.ref a2, V.ref a4, V.ref a5, V.ref a7, V.ref a8] (m / 80 % 5) = some (.ref Kt) ∧ KgAt H2 g Kt ∧ ∀ a b c, kgB a b c g = false := by
      have : m / 80 % 5 = 0 ∨ m / 80 % 5 = 1 ∨ m / 80 % 5 = 2 ∨ m / 80 % 5 = 3 ∨ m / 80 % 5 = 4 := by omega
      rcases this with h | h | h | h | h <;> rw [h]
      · exact ⟨a2, .kp 2 [.str "keep", .int 0], rfl, ⟨a1, by rw [← hH2]; walk_at "get", by rw [← hH2]; walk_at "get", .inr ⟨_, _, rfl⟩⟩, fun _ _ _ => rfl⟩
      · exact ⟨a4, .kp (-1) [.str "keep", .int 0], rfl, ⟨a3, by rw [← hH2]; walk_at "get", by rw [← hH2]; walk_at "get", .inr ⟨_, _, rfl⟩⟩, fun _ _ _ => rfl⟩
      · exact ⟨a5, .odd, rfl, ⟨_, by rw [← hH2]; walk_at "get", by decide⟩, fun _ _ _ => rfl⟩
      · exact ⟨a7, .odd, rfl, ⟨_, by rw [← hH2]; walk_at "get", by show 3 ≠ 2; decide⟩, fun _ _ _ => rfl⟩
      · exact ⟨a8, .odd, rfl, ⟨_, by rw [← hH2]; walk_at "get", by decide⟩, fun _ _ _ => rfl⟩
    clear hH2 b1 b2 b3 b4 b5 b6 b7 b8 b9
    refine Atx.of hat ?_
    walk_at "rd"
    rename_i l1 g1 l2 g2 R hR
    have cR : Ch [] H2 (upd (upd (upd H2 l1 (.lst [.ref Kt])) l2 (.lst (kps.map V.ref ++ [.ref Kt]))) R (.tup [.int (ins : Int), .ref tl2, .ref l2, .ref ol2])) := ((Ch.new g1 _).trans (Ch.new g2 _)).trans (Ch.new hR _)
    exact q R _ ((c1.trans c2).trans cR) (SpR.keeps (g := g) (cp.ch (c2.trans cR)) ok upd_same (g_new hR upd_same) (kg.tu (Tu.same cR)) (no _ _ _))
  clear hc kw
  have s0 : 0 ≤ m / 8 % ((tps.map V.ref).length + 1 : Int) := Int.emod_nonneg _ (by omega)
  have s1 : m / 8 % ((tps.map V.ref).length + 1 : Int) < ((tps.map V.ref).length + 1 : Int) := Int.emod_lt_of_pos _ (by omega)
  obtain ⟨sp, es⟩ := Int.eq_ofNat_of_zero_le s0
  rw [es] at s0 s1
  dsimp only
  rw [es]
  refine cut_by (fun σ H' => ∃ (ins' : Nat) (p : Addr) (g : TG) (u v : Option V), σ = [some (.int m), some (.ref d), some (.int (ins' : Int)), some (.ref tl2), some (.ref kl2), some (.ref ol2), some (.int ((tps.map V.ref).length : Int)), some (.int (sp : Int)), u, v, some (.ref p)] ∧ Ch [] H1 H' ∧ BadT ins' ks.length sp H' g p) ?_ ?_
  · clear es
    walk_at "rd"
    refine ite2 (fun hc => ?_) (fun hc => ?_)
    · clear hc
      have m8 : 0 ≤ m / 80 := by omega
      walk_at "rd"
      rename_i pp xs H2 c2 od l1 g1 T hT
      rw [lk2] at od
      have cT := (Ch.new g1 (HO.lst [V.ref pp])).trans (Ch.new (W := []) hT (HO.tup [V.ref l1, V.int (m / 800 % 4)]))
      refine (⟨⟨l1, [pp], upd_same, g_new hT upd_same, .cons (PgAt.tu (Tu.same cT) od.pg) .nil⟩, ?_⟩ : BadT _ _ _ _ (.tb [xs] (m / 800 % 4)) _)
      have e : [xs].all (plB ins ks.length sp) = false := by rw [List.all_cons, od.no]; rfl
      show (decide ([xs].length ≤ 4) && (belB (.int (m / 800 % 4)) (rm [xs].length) && [xs].all (plB ins ks.length sp))) = false
      rw [e, Bool.and_false, Bool.and_false]
    clear hc
    walk_at "rd"
    refine ite2 (fun hc => ?_) (fun hc => ?_)
    · clear hc
      obtain ⟨i2, e2⟩ : ∃ i2 : Nat, (if (ins : Int) > 1 then (ins : Int) else 1) = (i2 : Int) := by
        split
        · exact ⟨ins, rfl⟩
        · exact ⟨1, rfl⟩
      walk_at "rd"
      rename_i T1 h1 l1 g1 l2 g2 T2 h2
      have hT1 : (upd (upd (upd (upd H1 T1 (.tup [.str "in", .int 0])) l1 (.lst [.ref T1])) l2 (.lst ([T1, T1, T1, T1, T1].map V.ref))) T2 (.tup [.ref l2, .int 0])) T1 = some (.tup [.str "in", .int 0]) := g_new h2 (g_new g2 (g_new g1 upd_same))
      have cT : Ch [] H1 (upd (upd (upd (upd H1 T1 (.tup [.str "in", .int 0])) l1 (.lst [.ref T1])) l2 (.lst ([T1, T1, T1, T1, T1].map V.ref))) T2 (.tup [.ref l2, .int 0])) := (((Ch.new h1 _).trans (Ch.new g1 _)).trans (Ch.new g2 _)).trans (Ch.new h2 _)
      have pg : PgAt (upd (upd (upd (upd H1 T1 (.tup [.str "in", .int 0])) l1 (.lst [.ref T1])) l2 (.lst ([T1, T1, T1, T1, T1].map V.ref))) T2 (.tup [.ref l2, .int 0])) [.str "in", .int 0] T1 := ⟨hT1, .inr ⟨_, _, rfl⟩⟩
      refine ⟨by rw [e2]; rfl, cT, (⟨⟨l2, [T1, T1, T1, T1, T1], upd_same, g_new h2 upd_same, .cons pg (.cons pg (.cons pg (.cons pg (.cons pg .nil))))⟩, rfl⟩ : BadT _ _ _ _ (.tb [[.str "in", .int 0], [.str "in", .int 0], [.str "in", .int 0], [.str "in", .int 0], [.str "in", .int 0]] 0) _)⟩
    clear hc
    walk_at "rd"
    refine ite2 (fun hc => ?_) (fun hc => ?_)
    · clear hc
      obtain ⟨v, hat, hv⟩ : ∃ v : Int, atI [V.int 2, V.int (-1), V.int 3, V.int 7] (m / 80 % 4) = some (.int v) ∧ belB (.int v) 2 = false := by
        have : m / 80 % 4 = 0 ∨ m / 80 % 4 = 1 ∨ m / 80 % 4 = 2 ∨ m / 80 % 4 = 3 := by omega
        rcases this with h | h | h | h <;> rw [h] <;> exact ⟨_, rfl, rfl⟩
      walk_at "rd"
      rename_i l1 g1 l2 g2 T hT
      refine (⟨⟨l1, [], upd_same, g_new hT (g_new g2 upd_same), .nil⟩, ?_⟩ : BadT _ _ _ _ (.tb [] v) _)
      show (decide (([] : List (List V)).length ≤ 4) && (belB (.int v) (rm ([] : List (List V)).length) && ([] : List (List V)).all (plB ins ks.length sp))) = false
      rw [show rm ([] : List (List V)).length = 2 from by decide +kernel, hv, Bool.false_and, Bool.and_false]
    clear hc
    walk_at "rd"
    rename_i a1 b1 a2 b2 a3 b3 a4 b4 a5 b5 a6 b6
    generalize hH2 : upd _ a6 _ = H2
    have c2 : Ch [] H1 H2 := by rw [← hH2]; walk_at "ch"
    obtain ⟨T, hat, ys, hT, hl⟩ : ∃ T, atI [V.ref a2, V.ref a4, V.ref a5] (m / 80 % 3) = some (.ref T) ∧ ∃ ys, H2 T = some (.tup ys) ∧ ys.length ≠ 2 := by
      have : m / 80 % 3 = 0 ∨ m / 80 % 3 = 1 ∨ m / 80 % 3 = 2 := by omega
      rcases this with h | h | h <;> rw [h]
      · exact ⟨a2, rfl, _, by rw [← hH2]; walk_at "get", by show 3 ≠ 2; decide⟩
      · exact ⟨a4, rfl, _, by rw [← hH2]; walk_at "get", by show 1 ≠ 2; decide⟩
      · exact ⟨a5, rfl, _, by rw [← hH2]; walk_at "get", by show 0 ≠ 2; decide⟩
    clear hH2 b1 b2 b3 b4 b5 b6
    refine Atx.of hat ?_
    walk_at "rd"
    exact (⟨⟨ys, hT, hl⟩, rfl⟩ : BadT _ _ _ _ .odd _)
  · rintro σ H' ⟨ins', p, g, u, v, rfl, c2, bad⟩
    have cp2 := cp.ch c2
    have t2 := cp2.t
    have e1 : _ = (tps.map V.ref).take sp := cutV_hi (xs := tps.map V.ref) (v := (sp : Int)) s0 (by omega)
    have e2 : _ = (tps.map V.ref).drop sp := cutV_lo (xs := tps.map V.ref) (v := (sp : Int)) s0 (by omega)
    have k1 := cutV_length (tps.map V.ref) none (some (sp : Int))
    have k2 := cutV_length (tps.map V.ref) (some (sp : Int)) none
    have k4 : (cutV (tps.map V.ref) none (some (sp : Int))).length + [V.ref p].length ≤ sizeLine := by rw [sizeLine_eq]; show _ + 1 ≤ _; omega
    have k5 : (cutV (tps.map V.ref) none (some (sp : Int)) ++ [V.ref p]).length + (cutV (tps.map V.ref) (some (sp : Int)) none).length ≤ sizeLine := by rw [sizeLine_eq, List.length_append]; show _ + 1 + _ ≤ _; omega
    walk_at "rd"
    rename_i q1 b1 q2 b2 q3 b3 q4 b4 q5 b5 R hR
    rw [e1, e2] at *
    have cR : Ch [] H' (upd (upd (upd (upd (upd (upd H' q1 (.lst ((tps.map V.ref).take sp))) q2 (.lst [.ref p])) q3 (.lst ((tps.map V.ref).take sp ++ [.ref p]))) q4 (.lst ((tps.map V.ref).drop sp))) q5 (.lst ((tps.map V.ref).take sp ++ [.ref p] ++ (tps.map V.ref).drop sp))) R (.tup [.int (ins' : Int), .ref q5, .ref kl2, .ref ol2])) := (((((Ch.new b1 _).trans (Ch.new b2 _)).trans (Ch.new b3 _)).trans (Ch.new b4 _)).trans (Ch.new b5 _)).trans (Ch.new hR _)
    exact q R _ ((c1.trans c2).trans cR) (SpR.tables (n := sp) (cp2.ch cR) ok (by omega) upd_same (g_new hR upd_same) ⟨bad.tg.ch cR, bad.no⟩)
end
end

section
theorem callK_list_of {X : Cx} (K : PySem.W.Frag) (hK : X.K = K) : CallR X (.type "list") (fun xs H Q => ∃ p ys, xs = [V.ref p] ∧ (SqL K H p ys ∨ SqT K H p ys) ∧ ∀ (l : Addr), H l = none → Q (V.ref l) (upd H l (HO.lst ys))) := by subst hK; exact call_list_of
def dPl (x : Plc) : Dt := .seq [.sc (.inr x.1.s), .sc (.inl (x.2 : Int))]
def dTb (t : Tb) : Dt := .seq [.seq (t.ls.map dPl), .sc (.inl t.bits)]
def dKp (k : Kp) : Dt := .seq [.sc (.inl (bi k.f)), dPl k.pl]
theorem DAt.up {tp : Bool} {H : Hp} : ∀ {n : Nat} {d : Dt} {v : V}, DAt tp n H d v → DAt tp (n + 1) H d v
  | 0, _, _, h => h.elim
  | n + 1, d, v, h => by
    rcases h with h | ⟨ds, p, xs, kd, e1, e2, t, s, pr, l⟩
    · exact .inl h
    · exact .inr ⟨ds, p, xs, kd, e1, e2, t, s, paired_imp (fun _ _ => DAt.up) pr, l⟩
theorem dat_sq {tp : Bool} {n : Nat} {kd : SK} {H : Hp} {ds : List Dt} {p : Addr} {xs : List V} (t : tp = true → kd = .tuple) (s : SqX kd H p xs) (pr : Paired (DAt tp n H) ds xs) (l : xs.length ≤ 300) : DAt tp (n + 1) H (.seq ds) (.ref p) := .inr ⟨ds, p, xs, kd, rfl, rfl, t, s, pr, l⟩
theorem dat_k {tp : Bool} {n : Nat} {H : Hp} (k : Key) : DAt tp (n + 1) H (.sc k) (kV k) := .inl ⟨k, rfl, rfl⟩
theorem paired_refs {α : Type} {tp : Bool} {n : Nat} {H : Hp} {g : α → Dt} {R : α → Addr → Prop} (h : ∀ x p, R x p → DAt tp n H (g x) (.ref p)) : ∀ {xs : List α} {ps : List Addr}, Paired R xs ps → Paired (DAt tp n H) (xs.map g) (ps.map V.ref)
  | _, _, .nil => .nil
  | _, _, .cons a t => .cons (h _ _ a) (paired_refs h t)
theorem paired_unmap {α α' β : Type} {S : α' → β → Prop} {g : α → α'} : ∀ {xs : List α} {ys : List β}, Paired S (xs.map g) ys → Paired (fun x y => S (g x) y) xs ys
  | [], _, .nil => .nil
  | _ :: _, _, .cons a t => .cons a (paired_unmap t)
theorem dat_pl {tp : Bool} {H : Hp} {x : Plc} {p : Addr} (h : PgAt H x.g p) : DAt tp 2 H (dPl x) (.ref p) := dat_sq (kd := .tuple) (fun _ => rfl) h.1 (.cons (dat_k (.inr x.1.s)) (.cons (dat_k (.inl (x.2 : Int))) .nil)) (by show 2 ≤ 300; decide)
theorem dat_tb {tp : Bool} {kd : SK} (t : tp = true → kd = .tuple) {H : Hp} {x : Tb} (l4 : x.ls.length ≤ 4) {p : Addr} (h : TgAt kd H x.g p) : DAt tp 4 H (dTb x) (.ref p) := by
  obtain ⟨lp, ps, hp, hs, ws⟩ := h
  have lw := Paired.length ws
  rw [List.length_map] at lw
  exact dat_sq (kd := .tuple) (fun _ => rfl) hp (.cons (dat_sq t hs (paired_refs (fun _ _ e => dat_pl e) (paired_unmap ws)) (by rw [List.length_map]; omega)) (.cons (dat_k (.inl x.bits)) .nil)) (by show 2 ≤ 300; decide)
theorem dat_kp {tp : Bool} {H : Hp} {x : Kp} {p : Addr} (h : KgAt H x.g p) : DAt tp 3 H (dKp x) (.ref p) := by
  obtain ⟨pp, hp, pg⟩ := h
  exact dat_sq (kd := .tuple) (fun _ => rfl) hp (.cons (dat_k (.inl (bi x.f))) (.cons (dat_pl pg) .nil)) (by show 2 ≤ 300; decide)
theorem dat_inv {n : Nat} {H : Hp} {ds : List Dt} {v : V} (h : DAt true (n + 1) H (.seq ds) v) : ∃ p xs, v = .ref p ∧ H p = some (.tup xs) ∧ Paired (DAt true n H) ds xs := by
  rcases h with ⟨k, e, _⟩ | ⟨ds', p, xs, kd, e1, e2, t, s, pr, l⟩
  · cases e
  · cases e1
    cases t rfl
    exact ⟨p, xs, e2, s, pr⟩
theorem key_inv {n : Nat} {H : Hp} {k : Key} {v : V} (h : DAt true n H (.sc k) v) : v = kV k := by
  cases n with
  | zero => exact h.elim
  | succ n =>
    rcases h with ⟨k', e, e2⟩ | ⟨ds', p, xs, kd, e1, _⟩
    · cases e; exact e2
    · cases e1
theorem pair_inv {α β : Type} {R : α → β → Prop} {a b : α} {ys : List β} (h : Paired R [a, b] ys) : ∃ x y, ys = [x, y] ∧ R a x ∧ R b y := by
  cases h with
  | cons p q =>
    cases q with
    | cons p' q' => cases q'; exact ⟨_, _, rfl, p, p'⟩
theorem inv_refs {α β : Type} {n : Nat} {H : Hp} {g : α → Dt} {g' : α → β} {R : β → Addr → Prop} (h : ∀ x v, DAt true n H (g x) v → ∃ p, v = .ref p ∧ R (g' x) p) : ∀ {ls : List α} {xs : List V}, Paired (DAt true n H) (ls.map g) xs → ∃ ps, xs = ps.map V.ref ∧ Paired R (ls.map g') ps
  | [], _, .nil => ⟨[], rfl, .nil⟩
  | x :: ls, _, .cons a t => by
    obtain ⟨p, rfl, r⟩ := h x _ a
    obtain ⟨ps, rfl, rs⟩ := inv_refs h t
    exact ⟨p :: ps, rfl, .cons r rs⟩
theorem inv_pl {n : Nat} {H : Hp} {x : Plc} {v : V} (h : DAt true (n + 1) H (dPl x) v) : ∃ p, v = .ref p ∧ PgAt H x.g p := by
  obtain ⟨p, xs, rfl, hp, pr⟩ := dat_inv h
  obtain ⟨a, b, rfl, ha, hb⟩ := pair_inv pr
  rw [key_inv ha, key_inv hb] at hp
  exact ⟨p, rfl, hp, .inr ⟨_, _, rfl⟩⟩
theorem inv_tb {n : Nat} {H : Hp} {x : Tb} {v : V} (h : DAt true (n + 3) H (dTb x) v) : ∃ p, v = .ref p ∧ TgAt .tuple H x.g p := by
  obtain ⟨p, xs, rfl, hp, pr⟩ := dat_inv h
  obtain ⟨a, b, rfl, ha, hb⟩ := pair_inv pr
  obtain ⟨lp, ys, rfl, hl, pl⟩ := dat_inv ha
  obtain ⟨ps, rfl, ws⟩ := inv_refs (fun x v => inv_pl) pl
  rw [key_inv hb] at hp
  exact ⟨p, rfl, lp, ps, hp, hl, ws⟩
theorem inv_kp {n : Nat} {H : Hp} {x : Kp} {v : V} (h : DAt true (n + 2) H (dKp x) v) : ∃ p, v = .ref p ∧ KgAt H x.g p := by
  obtain ⟨p, xs, rfl, hp, pr⟩ := dat_inv h
  obtain ⟨a, b, rfl, ha, hb⟩ := pair_inv pr
  obtain ⟨pp, rfl, pg⟩ := inv_pl hb
  rw [key_inv ha] at hp
  exact ⟨p, rfl, pp, hp, pg⟩
theorem inv_top {α β : Type} {n : Nat} {H : Hp} {g : α → Dt} {g' : α → β} {R : β → Addr → Prop} (h : ∀ x v, DAt true n H (g x) v → ∃ p, v = .ref p ∧ R (g' x) p) {ls : List α} {v : V} (e : DAt true (n + 1) H (.seq (ls.map g)) v) : ∃ p ps, v = .ref p ∧ H p = some (.tup (ps.map V.ref)) ∧ Paired R (ls.map g') ps := by
  obtain ⟨p, xs, rfl, hp, pr⟩ := dat_inv e
  obtain ⟨ps, rfl, rs⟩ := inv_refs h pr
  exact ⟨p, ps, rfl, hp, rs⟩
def spTabs (C : Addr) : Sp := fun vs H Q _ => ∃ (kd : SK) (x dx tl kl ol : Addr) (ins : Nat) (tgs : List TG) (kgs : List KG) (ogs : List (List V)), vs = [.ref x, .int (ins : Int), .ref tl, .ref kl, .ref ol] ∧ H x = some (.ins C dx []) ∧ AskAt kd H tl kl ol tgs kgs ogs ∧ AOk ins tgs kgs ogs ∧
  ∀ tt kt ot H', Ch [x] H H' → H' x = some (.ins C dx (fldsT ins tt kt ot)) → TgT H' tt kt ot tgs kgs ogs → Q .non H'
theorem tabs_calm {C CE : Addr} : ∀ vs H Q E, spTabs C vs H Q E → spTabsX C CE vs H Q E0 := fun vs H Q E ⟨kd, x, dx, tl, kl, ol, ins, tgs, kgs, ogs, e, hx, a, ok, q⟩ =>
  ⟨kd, x, dx, tl, kl, ol, ins, tgs, kgs, ogs, e, hx, a, fun n en _ tt kt ot H' c g t => q tt kt ot H' c (by rw [g]; exact congrArg (fun z : Nat => some (HO.ins C dx (fldsT z tt kt ot))) (by omega)) t, fun no => absurd ok (no ins rfl)⟩
def TF (H0 H : Hp) (t : Tb) (p : Addr) : Prop := ∃ (lp : Addr) (ps : List Addr), H0 lp = none ∧ H p = some (.tup [.ref lp, .int t.bits]) ∧ H lp = some (.lst (ps.map V.ref)) ∧ WsAt H (t.ls.map plK) ps
theorem TF.ch {H0 H H' : Hp} (c : Ch [] H H') {t : Tb} {p : Addr} (s : TF H0 H t p) : TF H0 H' t p := let ⟨lp, ps, n, a, b, w⟩ := s; ⟨lp, ps, n, c.get a (by simp), c.get b (by simp), WsAt.tu (Tu.same c) w⟩
theorem TF.g {H0 H : Hp} {t : Tb} {p : Addr} (s : TF H0 H t p) : TgAt .list H t.g p := let ⟨lp, ps, _, a, b, w⟩ := s; ⟨lp, ps, a, b, w.g⟩
structure LJ (C b x dx tt kt ot : Addr) (ins : Nat) (c : Int) (H2 H3 H : Hp) : Prop where
  ch : Ch [b] H2 H
  tu : Tu H3 H
  hx : H x = some (.ins C dx (fldsT ins tt kt ot))
  hb : H b = some (.lst [.int c])
theorem LJ.app {C b x dx tt kt ot : Addr} {ins : Nat} {c : Int} {H2 H3 H : Hp} (l : LJ C b x dx tt kt ot ins c H2 H3 H) {p : Addr} {xs ys : List V} (hp : H p = some (.lst xs)) (h0 : H2 p = none) (nb : b ≠ p) : LJ C b x dx tt kt ot ins c H2 H3 (upd H p (.lst ys)) :=
  ⟨Ch.own h0 l.ch, l.tu.trans (Tu.lst Ch.put hp), g_put (ne_of l.hx hp (by intro z; cases z)) l.hx, g_put nb l.hb⟩
theorem LJ.new {C b x dx tt kt ot : Addr} {ins : Nat} {c : Int} {H2 H3 H H' : Hp} (l : LJ C b x dx tt kt ot ins c H2 H3 H) (e : Ch [] H H') : LJ C b x dx tt kt ot ins c H2 H3 H' :=
  ⟨l.ch.trans e.wk, l.tu.trans (Tu.same e), e.get l.hx (by simp), e.get l.hb (by simp)⟩
theorem LJ.next {C b x dx tt kt ot : Addr} {ins : Nat} {c c' : Int} {H2 H3 H H' : Hp} (l : LJ C b x dx tt kt ot ins c H2 H3 H) (e : Ch [b] H H') (h : H' b = some (.lst [.int c'])) : LJ C b x dx tt kt ot ins c' H2 H3 H' :=
  ⟨l.ch.trans e, l.tu.trans (Tu.lst e l.hb), e.get l.hx (by simpa using ne_of l.hx l.hb (by intro z; cases z)), h⟩
structure Ls (H : Hp) (L : List Addr) (n : Nat) : Prop where
  h : ∀ p ∈ L, ∃ ys : List V, H p = some (.lst ys) ∧ ys.length ≤ n
theorem Ls.app {H : Hp} {L : List Addr} {n : Nat} (l : Ls H L n) {p : Addr} {xs : List V} {v : V} (hp : H p = some (.lst xs)) (hx : xs.length ≤ n) : Ls (upd H p (.lst (xs ++ [v]))) L (n + 1) := ⟨fun r hr => by
  by_cases e : r = p
  · subst e
    exact ⟨_, upd_same, by rw [List.length_append]; show _ + 1 ≤ _; omega⟩
  · obtain ⟨ys, hy, ly⟩ := l.h r hr
    exact ⟨ys, g_put e hy, by omega⟩⟩
theorem Ls.new {H H' : Hp} {L : List Addr} {n : Nat} (l : Ls H L n) (c : Ch [] H H') : Ls H' L n := ⟨fun r hr => let ⟨ys, hy, ly⟩ := l.h r hr; ⟨ys, c.get hy (by simp), ly⟩⟩
theorem ex_lps {H0 H : Hp} : ∀ {ts : List Tb} {us : List Addr}, Paired (TF H0 H) ts us → (∀ t ∈ ts, t.ls.length ≤ 4) → ∃ lps, Paired (fun lp p => ∃ bits : Int, H p = some (.tup [.ref lp, .int bits])) lps us ∧ (∀ lp ∈ lps, H0 lp = none) ∧ Ls H lps 4
  | _, _, .nil, _ => ⟨[], .nil, by simp, ⟨by simp⟩⟩
  | t :: ts, u :: us, .cons a r, l => by
    obtain ⟨lps, p1, p2, p3⟩ := ex_lps r fun t ht => l t (by simp [ht])
    obtain ⟨lp, ps, n, ga, gb, w⟩ := a
    have lw := Paired.length w
    rw [List.length_map] at lw
    have := l t (by simp)
    refine ⟨lp :: lps, .cons ⟨_, ga⟩ p1, fun x hx => ?_, ⟨fun x hx => ?_⟩⟩
    · rcases List.mem_cons.mp hx with rfl | hx
      · exact n
      · exact p2 x hx
    · rcases List.mem_cons.mp hx with rfl | hx
      · exact ⟨_, gb, by rw [List.length_map]; omega⟩
      · exact p3.h x hx
theorem paired_mem {α β : Type} {R : α → β → Prop} {Pd : α → Prop} : ∀ {xs : List α} {ys : List β}, Paired R xs ys → (∀ x ∈ xs, Pd x) → Paired (fun x y => R x y ∧ Pd x) xs ys
  | _, _, .nil, _ => .nil
  | _, _, .cons a t, h => .cons ⟨a, h _ (by simp)⟩ (paired_mem t fun x hx => h x (by simp [hx]))
theorem Okd.l4 {ins : Nat} {ts : List Tb} {ks : List Kp} {os : List Plc} (ok : Okd ins ts ks os) : ∀ t ∈ ts, t.ls.length ≤ 4 := fun t ht => by
  obtain ⟨i, hi, e⟩ := List.getElem_of_mem ht
  exact (ok.t i t (by rw [List.getElem?_eq_getElem hi, e])).l4
section
variable {ex : List Addr} {H H' : Hp} {tl kl ol b : Addr} {ins : Nat} {ts : List Tb} {ks : List Kp} {os : List Plc} {c : Int}
theorem DrAt.dat (dr : DrAt ex H tl kl ol ts ks os) (ok : Okd ins ts ks os) : Paired (DAt false 5 H) [.seq (ts.map dTb), .seq (ks.map dKp), .seq (os.map dPl)] [.ref tl, .ref kl, .ref ol] := by
  obtain ⟨_, tps, ht, tt⟩ := dr.t
  obtain ⟨_, kps, hk, kk⟩ := dr.k
  obtain ⟨_, ops, ho, oo⟩ := dr.o
  have lt := Paired.length tt
  have lk := Paired.length kk
  have lo := Paired.length oo
  rw [List.length_map] at lo
  have t12 := ok.lt
  have k12 := ok.lk
  have o12 := ok.lo
  refine .cons (dat_sq (kd := .list) (fun z => by cases z) ht (paired_refs (fun x p e => dat_tb (fun z => by cases z) e.2 e.1.g) (paired_mem tt ok.l4)) (by rw [List.length_map]; omega)) (.cons (DAt.up (dat_sq (kd := .list) (fun z => by cases z) hk (paired_refs (fun x p e => dat_kp (KpAt.g e)) kk) (by rw [List.length_map]; omega))) (.cons (DAt.up (DAt.up (dat_sq (kd := .list) (fun z => by cases z) ho (paired_refs (fun x p e => dat_pl e) (paired_unmap (WsAt.g oo))) (by rw [List.length_map]; omega)))) .nil))
theorem TgT.dat {tt kt ot : Addr} (dr : TgT H tt kt ot (ts.map Tb.g) (ks.map Kp.g) (os.map Plc.g)) (ok : Okd ins ts ks os) : Paired (DAt true 5 H) [.seq (ts.map dTb), .seq (ks.map dKp), .seq (os.map dPl)] [.ref tt, .ref kt, .ref ot] := by
  obtain ⟨tps, ht, tt⟩ := dr.t
  obtain ⟨kps, hk, kk⟩ := dr.k
  obtain ⟨ops, ho, oo⟩ := dr.o
  have lt := Paired.length tt
  have lk := Paired.length kk
  have lo := Paired.length oo
  rw [List.length_map] at lo lt lk
  have t12 := ok.lt
  have k12 := ok.lk
  have o12 := ok.lo
  exact .cons (dat_sq (kd := .tuple) (fun _ => rfl) ht (paired_refs (fun x p e => dat_tb (fun _ => rfl) e.2 e.1) (paired_mem (paired_unmap tt) ok.l4)) (by rw [List.length_map]; omega)) (.cons (DAt.up (dat_sq (kd := .tuple) (fun _ => rfl) hk (paired_refs (fun x p e => dat_kp e) (paired_unmap kk)) (by rw [List.length_map]; omega))) (.cons (DAt.up (DAt.up (dat_sq (kd := .tuple) (fun _ => rfl) ho (paired_refs (fun x p e => dat_pl e) (paired_unmap oo)) (by rw [List.length_map]; omega)))) .nil))
theorem SqX.chb {kd : SK} {p : Addr} {ps : List Addr} (s : SqX kd H p (ps.map V.ref)) (d : Ch [b] H H') (hb : H b = some (.lst [.int c])) : SqX kd H' p (ps.map V.ref) := by
  cases kd with
  | list =>
    refine d.get s fun z => ?_
    rw [List.mem_singleton.mp z] at s
    have s : H b = some (.lst (ps.map V.ref)) := s
    rw [hb] at s
    cases ps with
    | nil => cases s
    | cons x y => cases s
  | tuple => exact d.get s (by simpa using ne_of (show H p = some (.tup (ps.map V.ref)) from s) hb (by intro z; cases z))
theorem TgAt.chb {kd : SK} {t : TG} {p : Addr} (s : TgAt kd H t p) (d : Ch [b] H H') (hb : H b = some (.lst [.int c])) : TgAt kd H' t p := by
  have k : Tu H H' := Tu.lst d hb
  cases t with
  | odd => obtain ⟨ys, h, n⟩ := s; exact ⟨ys, k _ _ h, n⟩
  | tb ls bits => obtain ⟨lp, ps, h, q, w⟩ := s; exact ⟨lp, ps, k _ _ h, q.chb d hb, paired_imp (fun _ _ e => PgAt.tu k e) w⟩
theorem AskAt.chb {kd : SK} {tgs : List TG} {kgs : List KG} {ogs : List (List V)} (s : AskAt kd H tl kl ol tgs kgs ogs) (d : Ch [b] H H') (hb : H b = some (.lst [.int c])) : AskAt kd H' tl kl ol tgs kgs ogs := by
  have k : Tu H H' := Tu.lst d hb
  exact ⟨s.t.imp fun _ h => ⟨h.1.chb d hb, paired_imp (fun _ _ e => TgAt.chb e d hb) h.2⟩, s.k.imp fun _ h => ⟨h.1.chb d hb, paired_imp (fun _ _ e => KgAt.tu k e) h.2⟩, s.o.imp fun _ h => ⟨h.1.chb d hb, paired_imp (fun _ _ e => PgAt.tu k e) h.2⟩, s.lt, s.lk, s.lo⟩
end
section
variable {P : Program} {w : World} {K : PySem.W.Frag} {mg : Str → Option Value} {base : Heap} {f : Addr} {fd : FuncData} {k : Nat}
theorem gd__law_drawn_tables : Nd "_law_drawn_tables" := by decide +kernel
theorem gd__law_levels : Nd "_law_levels" := by decide +kernel
theorem gd_depth_of : Nd "depth_of" := by decide +kernel
theorem gd__law_spoilt : Nd "_law_spoilt" := by decide +kernel
theorem gd__law_refused : Nd "_law_refused" := by decide +kernel
def spLaw (K : PySem.W.Frag) : Sp := fun vs H Q _ => ∃ (a : Addr) (ns : List Int), vs = [.ref a] ∧ Scr K H a ns ∧ ∀ H', Q (.bl true) H'
theorem l34_1 : Lc (defScope (top 34)) "_law_at" := by decide +kernel
theorem l34_2 : Lc (defScope (top 34)) "_law_drawn" := by decide +kernel
theorem g34__law_drawn_tables : Gi (defScope (top 34)) "_law_drawn_tables" := by decide +kernel
theorem v34_1 : Vs (defScope (top 34)) "_law_at" := by decide +kernel
theorem d34_1 : Nd "_law_at" := by decide +kernel
theorem c34_1 : Nc "_law_at" := by decide +kernel
theorem v34_0 : Vs (defScope (top 34)) "_law_script" := by decide +kernel
theorem d34_0 : Nd "_law_script" := by decide +kernel
theorem c34_0 : Nc "_law_script" := by decide +kernel
theorem v34_2 : Vs (defScope (top 34)) "_law_drawn" := by decide +kernel
theorem d34_2 : Nd "_law_drawn" := by decide +kernel
theorem c34_2 : Nc "_law_drawn" := by decide +kernel
theorem l34_6 : Lc (defScope (top 34)) "_law_outs" := by decide +kernel
theorem l34_5 : Lc (defScope (top 34)) "_law_keeps" := by decide +kernel
theorem l34_4 : Lc (defScope (top 34)) "_law_tables" := by decide +kernel
theorem l34_3 : Lc (defScope (top 34)) "_law_ins" := by decide +kernel
theorem l34_7 : Lc (defScope (top 34)) "_law_lists" := by decide +kernel
theorem g34_list : Gi (defScope (top 34)) "list" := by decide +kernel
theorem v34_6 : Vs (defScope (top 34)) "_law_outs" := by decide +kernel
theorem d34_6 : Nd "_law_outs" := by decide +kernel
theorem c34_6 : Nc "_law_outs" := by decide +kernel
theorem v34_5 : Vs (defScope (top 34)) "_law_keeps" := by decide +kernel
theorem d34_5 : Nd "_law_keeps" := by decide +kernel
theorem c34_5 : Nc "_law_keeps" := by decide +kernel
theorem v34_4 : Vs (defScope (top 34)) "_law_tables" := by decide +kernel
theorem d34_4 : Nd "_law_tables" := by decide +kernel
theorem c34_4 : Nc "_law_tables" := by decide +kernel
def csc34_0 : Scope := { kind := PySem.ScopeKind.function, names := [ (PySem.Str.ofString ".0", PySem.NameKind.local), (PySem.Str.ofString "_law_leaves", PySem.NameKind.local), (PySem.Str.ofString "_law_bits", PySem.NameKind.local), (PySem.Str.ofString "list", PySem.NameKind.globalImplicit)], isGenerator := false, isCoroutine := false, more := [] : PySem.Scope }
theorem cok34_0 : CompOk csc34_0 (defScope (top 34)) (["_law_leaves", "_law_bits"] : List Str) (["_law_script", "_law_at", "_law_drawn", "_law_ins", "_law_tables", "_law_keeps", "_law_outs", "_law_lists", "_law_given", "_law_made", "_law_leaves", "_law_bits", "_law_thing", "_law_due", "_law_k"] : List Str) [] (["_law_leaves", "_law_bits"] : List Str) := compOk rfl (by decide +kernel) (by decide +kernel) (by decide +kernel) (by decide +kernel) rfl (by decide +kernel)
theorem kq34_0_1 : (relab csc34_0 (defScope (top 34))).names.lookup (Str.ofString "_law_bits") = some NameKind.local := by decide +kernel
theorem kq34_0_0 : (relab csc34_0 (defScope (top 34))).names.lookup (Str.ofString "_law_leaves") = some NameKind.local := by decide +kernel
theorem vq34_0_1 : Vs (relab csc34_0 (defScope (top 34))) "_law_bits" := by decide +kernel
theorem dq34_0_1 : Nd "_law_bits" := by decide +kernel
theorem cq34_0_1 : Nc "_law_bits" := by decide +kernel
theorem gq34_0_list : Gi (relab csc34_0 (defScope (top 34))) "list" := by decide +kernel
theorem vq34_0_0 : Vs (relab csc34_0 (defScope (top 34))) "_law_leaves" := by decide +kernel
theorem dq34_0_0 : Nd "_law_leaves" := by decide +kernel
theorem cq34_0_0 : Nc "_law_leaves" := by decide +kernel
theorem l34_8 : Lc (defScope (top 34)) "_law_given" := by decide +kernel
def csc34_1 : Scope := { kind := PySem.ScopeKind.function, names := [ (PySem.Str.ofString ".0", PySem.NameKind.local), (PySem.Str.ofString "_law_thing", PySem.NameKind.local), (PySem.Str.ofString "_law_tupled", PySem.NameKind.globalImplicit)], isGenerator := false, isCoroutine := false, more := [] : PySem.Scope }
theorem cok34_1 : CompOk csc34_1 (defScope (top 34)) (["_law_thing"] : List Str) (["_law_script", "_law_at", "_law_drawn", "_law_ins", "_law_tables", "_law_keeps", "_law_outs", "_law_lists", "_law_given", "_law_made", "_law_leaves", "_law_bits", "_law_thing", "_law_due", "_law_k"] : List Str) [] (["_law_thing"] : List Str) := compOk rfl (by decide +kernel) (by decide +kernel) (by decide +kernel) (by decide +kernel) rfl (by decide +kernel)
theorem kq34_1_0 : (relab csc34_1 (defScope (top 34))).names.lookup (Str.ofString "_law_thing") = some NameKind.local := by decide +kernel
theorem gq34_1__law_tupled : Gi (relab csc34_1 (defScope (top 34))) "_law_tupled" := by decide +kernel
theorem vq34_1_0 : Vs (relab csc34_1 (defScope (top 34))) "_law_thing" := by decide +kernel
theorem dq34_1_0 : Nd "_law_thing" := by decide +kernel
theorem cq34_1_0 : Nc "_law_thing" := by decide +kernel
theorem v34_7 : Vs (defScope (top 34)) "_law_lists" := by decide +kernel
theorem d34_7 : Nd "_law_lists" := by decide +kernel
theorem c34_7 : Nc "_law_lists" := by decide +kernel
theorem g34__law_next : Gi (defScope (top 34)) "_law_next" := by decide +kernel
theorem l34_9 : Lc (defScope (top 34)) "_law_made" := by decide +kernel
theorem g34_Tables : Gi (defScope (top 34)) "Tables" := by decide +kernel
theorem v34_8 : Vs (defScope (top 34)) "_law_given" := by decide +kernel
theorem d34_8 : Nd "_law_given" := by decide +kernel
theorem c34_8 : Nc "_law_given" := by decide +kernel
theorem v34_3 : Vs (defScope (top 34)) "_law_ins" := by decide +kernel
theorem d34_3 : Nd "_law_ins" := by decide +kernel
theorem c34_3 : Nc "_law_ins" := by decide +kernel
theorem l34_11 : Lc (defScope (top 34)) "_law_bits" := by decide +kernel
theorem l34_10 : Lc (defScope (top 34)) "_law_leaves" := by decide +kernel
theorem v34_10 : Vs (defScope (top 34)) "_law_leaves" := by decide +kernel
theorem d34_10 : Nd "_law_leaves" := by decide +kernel
theorem c34_10 : Nc "_law_leaves" := by decide +kernel
theorem l34_12 : Lc (defScope (top 34)) "_law_thing" := by decide +kernel
theorem v34_12 : Vs (defScope (top 34)) "_law_thing" := by decide +kernel
theorem d34_12 : Nd "_law_thing" := by decide +kernel
theorem c34_12 : Nc "_law_thing" := by decide +kernel
theorem l34_13 : Lc (defScope (top 34)) "_law_due" := by decide +kernel
theorem g34_tuple : Gi (defScope (top 34)) "tuple" := by decide +kernel
theorem g34__law_tupled : Gi (defScope (top 34)) "_law_tupled" := by decide +kernel
theorem g34__law_same : Gi (defScope (top 34)) "_law_same" := by decide +kernel
theorem v34_13 : Vs (defScope (top 34)) "_law_due" := by decide +kernel
theorem d34_13 : Nd "_law_due" := by decide +kernel
theorem c34_13 : Nc "_law_due" := by decide +kernel
theorem v34_9 : Vs (defScope (top 34)) "_law_made" := by decide +kernel
theorem d34_9 : Nd "_law_made" := by decide +kernel
theorem c34_9 : Nc "_law_made" := by decide +kernel
theorem g34__law_levels : Gi (defScope (top 34)) "_law_levels" := by decide +kernel
theorem g34_depth_of : Gi (defScope (top 34)) "depth_of" := by decide +kernel
theorem g34_range : Gi (defScope (top 34)) "range" := by decide +kernel
theorem l34_14 : Lc (defScope (top 34)) "_law_k" := by decide +kernel
theorem g34__law_refused : Gi (defScope (top 34)) "_law_refused" := by decide +kernel
theorem g34__law_spoilt : Gi (defScope (top 34)) "_law_spoilt" := by decide +kernel
theorem scLaw : FnScope ["_law_script", "_law_at", "_law_drawn", "_law_ins", "_law_tables", "_law_keeps", "_law_outs", "_law_lists", "_law_given", "_law_made", "_law_leaves", "_law_bits", "_law_thing", "_law_due", "_law_k"] ["_law_script"] (defScope (top 34)) := ⟨rfl, rfl, rfl, by decide +kernel, rfl, by decide +kernel, by decide +kernel⟩
theorem ok_law {C : Addr} (F : Fun K "law" "law" (top 34) f fd) (cl : Cls K C) (nI : NoAttr K C "ins") (nT : NoAttr K C "tables") (nK : NoAttr K C "keeps") (nO : NoAttr K C "outs") (D_law_next : DefOk P w K mg base CX0 (k + 1) "_law_next" ["_law_script", "_law_at"] (spNext K)) (D_law_drawn_tables : DefOk P w K mg base CX0 (k + 1) "_law_drawn_tables" ["_law_script", "_law_at"] (spDT K))
    (D_law_tupled : DefOk P w K mg base CX0 (k + 1) "_law_tupled" ["_law_thing"] (spTup 5)) (D_law_same : DefOk P w K mg base CX0 (k + 1) "_law_same" ["_law_found", "_law_due"] (spSame 6)) (Ddepth_of : DefOk P w K mg base CX0 (k + 1) "depth_of" ["tables"] (spDep C)) (D_law_levels : DefOk P w K mg base CX0 (k + 1) "_law_levels" ["_law_drawn"] spLev)
    (D_law_refused : DefOk P w K mg base CX0 (k + 1) "_law_refused" ["_law_drawn"] spRef) (D_law_spoilt : DefOk P w K mg base CX0 (k + 1) "_law_spoilt" ["_law_m", "_law_drawn"] spSpt)
    (MkTables : MakeOk P w K mg base CX0 k C "Tables" ["self", "ins", "tables", "keeps", "outs"] (spTabs C)) (z_range : mg "range" = none) (z_list : mg "list" = none) (z_tuple : mg "tuple" = none) :
    FnOk P w K mg base CX0 (k + 2) f fd ["_law_script"] (spLaw K) := by
  have nd := scLaw.nd
  refine F.ok scLaw (fun vs H Q E h => by obtain ⟨a, ns, rfl, _⟩ := h; rfl) (fun cdv A outer s H vs Q E hr h => ?_)
  obtain ⟨a, ns, rfl, hS, q⟩ := h
  have hrm := hr
  refine ⟨_, (Pr.h (qpss_cons (qps_set (i := 1) nd rfl l34_1 (qpe_lst (qpa_cons qpe_int qpa_nil se_Constant)))
 (qpss_cons (qps_set (i := 2) nd rfl l34_2 (qpe_callD D_law_drawn_tables hr g34__law_drawn_tables pass0 (qpa_cons (qpe_var (i := 0) rfl v34_0 d34_0 c34_0) (qpa_cons (qpe_var (i := 1) rfl v34_1 d34_1 c34_1) qpa_nil se_Name) se_Name) gd__law_drawn_tables))
 (qpss_cons (qps_asg (qpe_var (i := 2) rfl v34_2 d34_2 c34_2) (qpg_tup rfl (qpgs_cons (qpg_name (i := 3) nd rfl l34_3) (qpgs_cons (qpg_name (i := 4) nd rfl l34_4) (qpgs_cons (qpg_name (i := 5) nd rfl l34_5) (qpgs_cons (qpg_name (i := 6) nd rfl l34_6) qpgs_nil))))))
 (qpss_cons (qps_set (i := 7) nd rfl l34_7 (qpe_lst (qpa_cons (qpe_comp rfl cok34_0 (qpi_list (qpe_var (i := 4) rfl v34_4 d34_4 c34_4)) (fun _ _ _ _ _ => (qpg_tupK K 2 rfl rfl (qpgs_cons (qpg_name (i := 0) cok34_0.nd rfl (Or.inl kq34_0_0) (Or.inr kq34_0_0)) (qpgs_cons (qpg_name (i := 1) cok34_0.nd rfl (Or.inl kq34_0_1) (Or.inr kq34_0_1)) qpgs_nil)))) (fun _ _ _ _ _ => qpif_nil) (fun _ _ _ _ _ => (qpe_tup (qpa_cons (qpe_callTy (callK_list_of K rfl) gq34_0_list z_list bo_list (qpa_cons (qpe_var (i := 0) rfl vq34_0_0 dq34_0_0 cq34_0_0) qpa_nil se_Name) nn_list gd_list) (qpa_cons (qpe_var (i := 1) rfl vq34_0_1 dq34_0_1 cq34_0_1) qpa_nil se_Name) se_Call)))) (qpa_cons (qpe_callTy call_list_of g34_list z_list bo_list (qpa_cons (qpe_var (i := 5) rfl v34_5 d34_5 c34_5) qpa_nil se_Name) nn_list gd_list) (qpa_cons (qpe_callTy call_list_of g34_list z_list bo_list (qpa_cons (qpe_var (i := 6) rfl v34_6 d34_6 c34_6) qpa_nil se_Name) nn_list gd_list) qpa_nil se_Call) se_Call) se_ListComp)))
 (qpss_cons (qps_set (i := 8) nd rfl l34_8 (qpe_ix ixa_list (qpe_lst (qpa_cons (qpe_var (i := 7) rfl v34_7 d34_7 c34_7) (qpa_cons (qpe_comp rfl cok34_1 (qpi_tup (qpe_slice sl_tup (qpe_var (i := 2) rfl v34_2 d34_2 c34_2) (qpo_some qpe_int) qpo_none)) (fun _ _ _ _ _ => (qpg_name (i := 0) cok34_1.nd rfl (Or.inl kq34_1_0) (Or.inr kq34_1_0))) (fun _ _ _ _ _ => qpif_nil) (fun _ _ _ _ _ => (qpe_callD D_law_tupled hr gq34_1__law_tupled pass0 (qpa_cons (qpe_var (i := 0) rfl vq34_1_0 dq34_1_0 cq34_1_0) qpa_nil se_Name) gd__law_tupled))) qpa_nil se_ListComp) se_Name)) (qpe_op op_mod (qpe_callD D_law_next hr g34__law_next pass0 (qpa_cons (qpe_var (i := 0) rfl v34_0 d34_0 c34_0) (qpa_cons (qpe_var (i := 1) rfl v34_1 d34_1 c34_1) qpa_nil se_Name) se_Name) gd__law_next) qpe_int) (fun _ _ => rfl)))
 (qpss_cons (qps_set (i := 9) nd rfl l34_9 (qpe_makeD MkTables hrm g34_Tables pass0 (qpa_cons (qpe_var (i := 3) rfl v34_3 d34_3 c34_3) (qpa_cons (qpe_ix ixa_list (qpe_var (i := 8) rfl v34_8 d34_8 c34_8) qpe_int (fun _ _ => rfl)) (qpa_cons (qpe_ix ixa_list (qpe_var (i := 8) rfl v34_8 d34_8 c34_8) qpe_int (fun _ _ => rfl)) (qpa_cons (qpe_ix ixa_list (qpe_var (i := 8) rfl v34_8 d34_8 c34_8) qpe_int (fun _ _ => rfl)) qpa_nil se_Subscript) se_Subscript) se_Subscript) se_Name) gd_Tables))
 (qpss_cons (qps_loop PassesOwn.never rfl (qpi_list (qpe_ix ixa_list (qpe_var (i := 7) rfl v34_7 d34_7 c34_7) qpe_int (fun _ _ => rfl))) (qpg_tup rfl (qpgs_cons (qpg_name (i := 10) nd rfl l34_10) (qpgs_cons (qpg_name (i := 11) nd rfl l34_11) qpgs_nil)))
  (qpss_one (qps_expr (qpe_bm PySem.F.plainAttrs_list PySem.F.slot_list_append PySem.F.type_list_append mt_append (qpe_var (i := 10) rfl v34_10 d34_10 c34_10) (qpa_cons (qpe_tup (qpa_cons qpe_str (qpa_cons qpe_int qpa_nil se_Constant) se_Constant)) qpa_nil se_Tuple)))))
 (qpss_cons (qps_loop PassesOwn.never rfl (qpi_list (qpe_var (i := 7) rfl v34_7 d34_7 c34_7)) (qpg_name (i := 12) nd rfl l34_12)
  (qpss_one (qps_expr (qpe_bm PySem.F.plainAttrs_list PySem.F.slot_list_append PySem.F.type_list_append mt_append (qpe_var (i := 12) rfl v34_12 d34_12 c34_12) (qpa_cons (qpe_tup qpa_nil) qpa_nil se_Tuple)))))
 (qpss_cons (qps_set (i := 13) nd rfl l34_13 (qpe_tup (qpa_cons (qpe_var (i := 3) rfl v34_3 d34_3 c34_3) (qpa_cons (qpe_callD D_law_tupled hr g34__law_tupled pass0 (qpa_cons (qpe_var (i := 4) rfl v34_4 d34_4 c34_4) qpa_nil se_Name) gd__law_tupled) (qpa_cons (qpe_callD D_law_tupled hr g34__law_tupled pass0 (qpa_cons (qpe_var (i := 5) rfl v34_5 d34_5 c34_5) qpa_nil se_Name) gd__law_tupled) (qpa_cons (qpe_callTy call_tuple_of g34_tuple z_tuple bo_tuple (qpa_cons (qpe_var (i := 6) rfl v34_6 d34_6 c34_6) qpa_nil se_Name) nn_tuple gd_tuple) qpa_nil se_Call) se_Call) se_Call) se_Name)))
 (qpss_cons (qps_if (qpt_not (qpt_val (qpe_callD D_law_same hr g34__law_same pass0 (qpa_cons (qpe_tup (qpa_cons (qpe_fld (qpe_var (i := 9) rfl v34_9 d34_9 c34_9) rfl) (qpa_cons (qpe_fld (qpe_var (i := 9) rfl v34_9 d34_9 c34_9) rfl) (qpa_cons (qpe_fld (qpe_var (i := 9) rfl v34_9 d34_9 c34_9) rfl) (qpa_cons (qpe_fld (qpe_var (i := 9) rfl v34_9 d34_9 c34_9) rfl) qpa_nil se_Attribute) se_Attribute) se_Attribute) se_Attribute)) (qpa_cons (qpe_var (i := 13) rfl v34_13 d34_13 c34_13) qpa_nil se_Name) se_Tuple) gd__law_same)))
  (qpss_one (qps_ret qpe_bl))
  qpss_nil)
 (qpss_cons (qps_if (qpt_not (qpt_val (qpe_callD D_law_same hr g34__law_same pass0 (qpa_cons (qpe_callD Ddepth_of hr g34_depth_of pass0 (qpa_cons (qpe_var (i := 9) rfl v34_9 d34_9 c34_9) qpa_nil se_Name) gd_depth_of) (qpa_cons (qpe_callD D_law_levels hr g34__law_levels pass0 (qpa_cons (qpe_var (i := 2) rfl v34_2 d34_2 c34_2) qpa_nil se_Name) gd__law_levels) qpa_nil se_Call) se_Call) gd__law_same)))
  (qpss_one (qps_ret qpe_bl))
  qpss_nil)
 (qpss_cons (qps_loop PassesOwn.never rfl (qpi_range1 g34_range z_range (qpa_cons qpe_int qpa_nil se_Constant)) (qpg_name (i := 14) nd rfl l34_14)
  (qpss_one (qps_if (qpt_not (qpt_val (qpe_callD D_law_refused hr g34__law_refused pass0 (qpa_cons (qpe_callD D_law_spoilt hr g34__law_spoilt pass0 (qpa_cons (qpe_callD D_law_next hr g34__law_next pass0 (qpa_cons (qpe_var (i := 0) rfl v34_0 d34_0 c34_0) (qpa_cons (qpe_var (i := 1) rfl v34_1 d34_1 c34_1) qpa_nil se_Name) se_Name) gd__law_next) (qpa_cons (qpe_var (i := 2) rfl v34_2 d34_2 c34_2) qpa_nil se_Name) se_Call) gd__law_spoilt) qpa_nil se_Call) gd__law_refused)))
  (qpss_one (qps_ret qpe_bl))
  qpss_nil)))
 (qpss_one (qps_ret qpe_bl))))))))))))))), ?_⟩
  (try dsimp only [cxOf])
  walk_at "rd"
  rename_i b hb0 R tl kl ol ins ts ks os H2 dt hR
  obtain ⟨⟨c1, d2, cl1, ch1⟩, dr, ok⟩ := dt
  obtain ⟨_, tps, ht, tt⟩ := dr.t
  obtain ⟨_, kps, hk, kk⟩ := dr.k
  obtain ⟨_, ops, ho, oo⟩ := dr.o
  have lt := Paired.length tt
  have lk := Paired.length kk
  have lo := Paired.length oo
  rw [List.length_map] at lo
  have t12 := ok.lt
  have k12 := ok.lk
  have o12 := ok.lo
  have hS2 := d2.hS
  have hb2 := d2.hb
  clear d2 hb0 hS
  walk_at "rd"
  refine comp_list (tps.map V.ref) (fun i ys σ H' => Ch [] H2 H' ∧ (∃ us, ys = us.map V.ref ∧ Paired (TF H2 H') (ts.take i) us) ∧ ∃ u v, σ = [u, v]) (by rw [sizeLine_eq, List.length_map]; omega) ⟨Ch.refl _ _, ⟨[], rfl, .nil⟩, _, _, rfl⟩ ?_ ?_ ?_
  · rintro i ys σ H' hi ⟨c, ⟨us, rfl, uu⟩, _⟩
    refine ⟨?_, SqL.of (c.get ht (by simp))⟩
    rw [List.length_map, ← Paired.length uu, List.length_take]
    omega
  · rintro i ys σ H' z hz ⟨c, ⟨us, rfl, uu⟩, u, v, rfl⟩
    obtain ⟨p, t, rfl, et, tp⟩ := paired_get tt i z hz
    obtain ⟨lp, sps, _, hp, hs, ws⟩ := tp.kl (Kl.new c)
    walk_at "rd"
    rename_i l1 h1 T hT
    have cT : Ch [] H' (upd (upd H' l1 (.lst (sps.map V.ref))) T (.tup [.ref l1, .int t.bits])) := (Ch.new h1 _).trans (Ch.new hT _)
    refine ⟨⟨us ++ [T], by simp, ?_⟩, _, _, rfl⟩
    rw [List.take_add_one, et]
    exact paired_snoc ⟨l1, sps, chFree c h1, upd_same, g_new hT upd_same, ws.tu (Tu.same cT)⟩ (paired_imp (fun _ _ => TF.ch cT) uu)
  rintro ys σ H3 ⟨c3, ⟨us, rfl, uu⟩, _⟩
  rw [List.length_map, ← lt, List.take_length] at uu
  have lu := Paired.length uu
  have hk3 := c3.get hk (by simp)
  have ho3 := c3.get ho (by simp)
  have hR3 := c3.get hR (by simp)
  intro l0 hl0
  have dat2 := dr.dat ok
  walk_at "rd"
  rename_i l1 hl1 l2 hl2 ll hll ST hST
  have cA : Ch [] H3 (upd (upd (upd (upd H3 l0 (.lst (us.map V.ref))) l1 (.lst (kps.map V.ref))) l2 (.lst (ops.map V.ref))) ll (.lst [.ref l0, .ref l1, .ref l2])) := (((Ch.new hl0 _).trans (Ch.new hl1 _)).trans (Ch.new hl2 _)).trans (Ch.new hll _)
  have gl : (upd (upd (upd (upd H3 l0 (.lst (us.map V.ref))) l1 (.lst (kps.map V.ref))) l2 (.lst (ops.map V.ref))) ll (.lst [.ref l0, .ref l1, .ref l2])) ll = some (.lst [.ref l0, .ref l1, .ref l2]) := upd_same
  have g2 : (upd (upd (upd (upd H3 l0 (.lst (us.map V.ref))) l1 (.lst (kps.map V.ref))) l2 (.lst (ops.map V.ref))) ll (.lst [.ref l0, .ref l1, .ref l2])) l2 = some (.lst (ops.map V.ref)) := g_new hll upd_same
  have g1 : (upd (upd (upd (upd H3 l0 (.lst (us.map V.ref))) l1 (.lst (kps.map V.ref))) l2 (.lst (ops.map V.ref))) ll (.lst [.ref l0, .ref l1, .ref l2])) l1 = some (.lst (kps.map V.ref)) := g_new hll (g_new hl2 upd_same)
  have g0 : (upd (upd (upd (upd H3 l0 (.lst (us.map V.ref))) l1 (.lst (kps.map V.ref))) l2 (.lst (ops.map V.ref))) ll (.lst [.ref l0, .ref l1, .ref l2])) l0 = some (.lst (us.map V.ref)) := g_new hll (g_new hl2 (g_new hl1 upd_same))
  have f0 : H3 l0 = none := hl0
  have f1 : H3 l1 = none := chFree (Ch.new hl0 _) hl1
  have f2 : H3 l2 = none := chFree ((Ch.new hl0 _).trans (Ch.new hl1 _)) hl2
  have fl : H3 ll = none := chFree (((Ch.new hl0 _).trans (Ch.new hl1 _)).trans (Ch.new hl2 _)) hll
  have n0l : ll ≠ l0 := (ne_of_none (g_new hl2 (g_new hl1 upd_same)) hll).symm
  have n1l : ll ≠ l1 := (ne_of_none (g_new hl2 upd_same) hll).symm
  have n2l : ll ≠ l2 := (ne_of_none upd_same hll).symm
  generalize upd (upd (upd (upd H3 l0 (.lst (us.map V.ref))) l1 (.lst (kps.map V.ref))) l2 (.lst (ops.map V.ref))) ll (.lst [.ref l0, .ref l1, .ref l2]) = HA at cA gl g2 g1 g0 hST ⊢
  clear hl0 hl1 hl2 hll
  have cS : Ch [] HA (upd HA ST (.tup [.ref tl, .ref kl, .ref ol])) := Ch.new hST _
  have c2S : Ch [] H2 (upd HA ST (.tup [.ref tl, .ref kl, .ref ol])) := (c3.trans cA).trans cS
  have gS : (upd HA ST (.tup [.ref tl, .ref kl, .ref ol])) ST = some (.tup [.ref tl, .ref kl, .ref ol]) := upd_same
  obtain ⟨HS, eS⟩ : ∃ HS, upd HA ST (.tup [.ref tl, .ref kl, .ref ol]) = HS := ⟨_, rfl⟩
  rw [eS] at cS c2S gS
  refine comp_tup [V.ref tl, V.ref kl, V.ref ol] (fun i ys σ H' => Ch [] HS H' ∧ Paired (DAt true 5 H') ([Dt.seq (ts.map dTb), .seq (ks.map dKp), .seq (os.map dPl)].take i) ys ∧ ∃ u, σ = [u]) (by rw [sizeLine_eq]; show 3 < _; decide) ⟨by rw [← eS]; exact Ch.refl _ _, .nil, _, rfl⟩ ?_ ?_ ?_
  · rintro i ys σ H' hi ⟨c, pp, _⟩
    refine ⟨?_, SqT.of (c.get gS (by simp))⟩
    rw [← Paired.length pp, List.length_take]; exact Nat.min_le_left _ _
  · rintro i ys σ H' z hz ⟨c, pp, u, rfl⟩
    obtain ⟨j2, rfl⟩ := List.getElem?_eq_some_iff.mp hz
    have j1 : i < [Dt.seq (ts.map dTb), .seq (ks.map dKp), .seq (os.map dPl)].length := j2
    have dd : DatS 5 H' [Dt.seq (ts.map dTb), .seq (ks.map dKp), .seq (os.map dPl)][i] [V.ref tl, V.ref kl, V.ref ol][i] := ⟨(paired_at dat2 i j1 j2).ch (c2S.trans c)⟩
    walk_at "rd"
    rename_i v' H5 c5 d5
    refine ⟨?_, _, rfl⟩
    rw [List.take_add_one, List.getElem?_eq_getElem j1]
    exact paired_snoc d5 (paired_imp (fun _ _ => DAt.ch c5) pp)
  rintro ys σ H4 ⟨c4, pp, _⟩
  intro l3 hl3
  walk_at "rd"
  rename_i lc hlc n7 H7 n70 n71 c7 b7
  have c24 : Ch [] H2 H4 := c2S.trans c4
  have hb4 : H4 b = some (.lst [.int c1]) := c24.get hb2 (by simp)
  have cL : Ch [] H4 (upd (upd H4 l3 (.lst ys)) lc (.lst [.ref ll, .ref l3])) := (Ch.new hl3 _).trans (Ch.new hlc _)
  have nbc : lc ≠ b := (ne_of_none (g_new hl3 hb4) hlc).symm
  refine ⟨SqL.of (c7.get upd_same (by simpa using nbc)), ?_⟩
  have cA4 : Ch [] HA H4 := cS.trans c4
  have pp : Paired (DAt true 5 H4) [.seq (ts.map dTb), .seq (ks.map dKp), .seq (os.map dPl)] ys := pp
  have hbL : (upd (upd H4 l3 (.lst ys)) lc (.lst [.ref ll, .ref l3])) b = some (.lst [.int c1]) := cL.get hb4 (by simp)
  obtain ⟨g, kd, ga, gb, gc, hat, hg, ask⟩ : ∃ (g : Addr) (kd : SK) (ga gb gc : Addr), atI [V.ref ll, V.ref l3] (n7 % 2) = some (.ref g) ∧ H7 g = some (.lst [.ref ga, .ref gb, .ref gc]) ∧ AskAt kd H7 ga gb gc (ts.map Tb.g) (ks.map Kp.g) (os.map Plc.g) := by
    have : n7 % 2 = 0 ∨ n7 % 2 = 1 := by omega
    rcases this with h | h <;> rw [h]
    · have nb : ll ≠ b := (ne_of_none (c3.get hb2 (by simp)) fl).symm
      refine ⟨ll, .list, l0, l1, l2, rfl, c7.get (cL.get (cA4.get gl (by simp)) (by simp)) (by simpa using nb), AskAt.chb ?_ c7 hbL⟩
      have cc : Ch [] H3 _ := (cA.trans cA4).trans cL
      exact ⟨⟨us, cL.get (cA4.get g0 (by simp)) (by simp), paired_map (fun _ _ e => TF.g (TF.ch cc e)) uu⟩, ⟨kps, cL.get (cA4.get g1 (by simp)) (by simp), paired_map (fun _ _ e => KpAt.g (KpAt.tu (Tu.same (c3.trans cc)) e)) kk⟩, ⟨ops, cL.get (cA4.get g2 (by simp)) (by simp), WsAt.g (oo.tu (Tu.same (c3.trans cc)))⟩, by rw [List.length_map]; omega, by rw [List.length_map]; omega, by rw [List.length_map]; omega⟩
    · obtain ⟨v1, v2, v3, rfl, d1, d2, d3⟩ : ∃ v1 v2 v3, ys = [v1, v2, v3] ∧ DAt true 5 H4 (.seq (ts.map dTb)) v1 ∧ DAt true 5 H4 (.seq (ks.map dKp)) v2 ∧ DAt true 5 H4 (.seq (os.map dPl)) v3 := by
        cases pp with
        | cons a r => cases r with
          | cons b r => cases r with
            | cons c r => cases r; exact ⟨_, _, _, rfl, a, b, c⟩
      obtain ⟨p1, q1, rfl, h1, r1⟩ := inv_top (R := TgAt .tuple H4) (g' := Tb.g) (fun x v => inv_tb (n := 1)) d1
      obtain ⟨p2, q2, rfl, h2, r2⟩ := inv_top (R := KgAt H4) (g' := Kp.g) (fun x v => inv_kp (n := 2)) d2
      obtain ⟨p3, q3, rfl, h3, r3⟩ := inv_top (R := PgAt H4) (g' := Plc.g) (fun x v => inv_pl (n := 3)) d3
      have nb : l3 ≠ b := (ne_of_none hb4 hl3).symm
      refine ⟨l3, .tuple, p1, p2, p3, rfl, c7.get (g_new hlc upd_same) (by simpa using nb), AskAt.chb ?_ c7 hbL⟩
      exact ⟨⟨q1, cL.get h1 (by simp), paired_imp (fun _ _ => TgAt.ch cL) r1⟩, ⟨q2, cL.get h2 (by simp), paired_imp (fun _ _ => KgAt.tu (Tu.same cL)) r2⟩, ⟨q3, cL.get h3 (by simp), paired_imp (fun _ _ e => PgAt.tu (Tu.same cL) e) r3⟩, by rw [List.length_map]; omega, by rw [List.length_map]; omega, by rw [List.length_map]; omega⟩
  refine Atx.of hat ?_
  clear hat
  have c27 : Ch [b] H2 H7 := (c24.wk.trans cL.wk).trans c7
  have cA7 : Ch [b] HA H7 := (cA4.wk.trans cL.wk).trans c7
  clear pp hbL cL hlc hl3 c4 cA4 c24 hb4 cS c2S gS eS hST dat2
  walk_at "rd"
  rename_i x dx hx hdx nx
  have ci := Ch.inst (C := C) hx hdx nx
  refine ⟨ask.ch ci, ok.g, fun tt2 kt2 ot2 H8 c8 hx8 tg8 => ⟨rfl, ?_⟩⟩
  have c78 := Ch.made hx hdx nx c8
  clear ask ci c8 hx hdx nx
  have c28 : Ch [b] H2 H8 := c27.trans c78.wk
  have cA8 : Ch [b] HA H8 := cA7.trans c78.wk
  have hb8 : H8 b = some (.lst [.int (c1 + 1)]) := c78.get b7 (by simp)
  have hb3 := c3.get hb2 (by simp)
  have lj8 : LJ C b x dx tt2 kt2 ot2 ins (c1 + 1) H2 H8 H8 := ⟨c28, Tu.refl _, hx8, hb8⟩
  obtain ⟨lps, plp, nlp, lsp⟩ := ex_lps uu ok.l4
  have nbl : ∀ p ∈ lps, p ≠ b := fun p hp z => by have := nlp p hp; rw [z, hb2] at this; cases this
  have n3 : ∀ p ∈ lps, ∀ r, H3 r = none → r ≠ p := fun p hp r hr z => by obtain ⟨ys, e, _⟩ := lsp.h p hp; rw [z, e] at hr; cases hr
  have nb0 : l0 ≠ b := (ne_of_none hb3 f0).symm
  have nb1 : l1 ≠ b := (ne_of_none hb3 f1).symm
  have nb2 : l2 ≠ b := (ne_of_none hb3 f2).symm
  have nbll : ll ≠ b := (ne_of_none hb3 fl).symm
  have tu8 : Tu H3 H8 := fun p xs h => cA8.get (cA.get h (by simp)) (by simpa using ne_of h hb3 (by intro z; cases z))
  have plp8 : Paired (fun lp p => ∃ bits : Int, H8 p = some (.tup [.ref lp, .int bits])) lps us := paired_imp (fun _ _ ⟨bits, e⟩ => ⟨bits, tu8 _ _ e⟩) plp
  have lla : Ls H8 (l1 :: l2 :: lps) 12 := by
    refine ⟨fun p hp => ?_⟩
    rcases List.mem_cons.mp hp with rfl | hp
    · exact ⟨_, cA8.get g1 (by simpa using nb1), by rw [List.length_map]; omega⟩
    rcases List.mem_cons.mp hp with rfl | hp
    · exact ⟨_, cA8.get g2 (by simpa using nb2), by rw [List.length_map]; omega⟩
    · obtain ⟨ys, e, l⟩ := lsp.h p hp
      exact ⟨ys, cA8.get (cA.get e (by simp)) (by simpa using nbl p hp), by omega⟩
  have gl8 := cA8.get gl (by simpa using nbll)
  have g08 := cA8.get g0 (by simpa using nb0)
  have h20 : H2 l0 = none := chFree c3 f0
  have h21 : H2 l1 = none := chFree c3 f1
  have h22 : H2 l2 = none := chFree c3 f2
  clear g0 g1 g2 gl cA8 cA7 c27 c78 cA tu8 plp hk3 ho3 hR3 uu hx8 hb8 b7 hg c28
  walk_at "rd"
  refine loop_list (xs := us.map V.ref) (fun i σ H' => LJ C b x dx tt2 kt2 ot2 ins (c1 + 1) H2 H8 H' ∧ H' l0 = some (.lst (us.map V.ref)) ∧ H' ll = some (.lst [.ref l0, .ref l1, .ref l2]) ∧ Ls H' (l1 :: l2 :: lps) (12 + i) ∧ ∃ u v, σ = [some (.ref a), some (.ref b), some (.ref R), some (.int (ins : Int)), some (.ref tl), some (.ref kl), some (.ref ol), some (.ref ll), some (.ref g), some (.ref x), u, v, none, none, none]) ⟨lj8, g08, gl8, lla, _, _, rfl⟩ ?_ ?_ ?_
  · rintro i σ H' hi ⟨_, h, _⟩
    exact SqL.of h
  · rintro i z σ H' hz ⟨lj, h0, hl, ls, u, v, rfl⟩
    have il : i < 12 := by have := (List.getElem?_eq_some_iff.mp hz).1; rw [List.length_map] at this; omega
    obtain ⟨p, lp, rfl, el, bits, hp⟩ := paired_get plp8 i z hz
    have ml := List.mem_of_getElem? el
    have hp := lj.tu _ _ hp
    obtain ⟨ys, hy, ly⟩ := ls.h lp (by simp [ml])
    walk_at "rd"
    rename_i T hT
    have e := Ch.new (W := []) hT (HO.tup [V.str "in", V.int 0])
    exact ⟨(lj.new e).app (e.get hy (by simp)) (nlp lp ml) (nbl lp ml).symm, g_put (n3 lp ml l0 f0) (e.get h0 (by simp)), g_put (n3 lp ml ll fl) (e.get hl (by simp)), (ls.new e).app (e.get hy (by simp)) ly, _, _, rfl⟩
  rintro σ H9 ⟨lj9, h09, hl9, ls9, u, v, rfl⟩
  have l12 : us.length ≤ 12 := by omega
  clear lj8 lla gl8 g08
  walk_at "rd"
  refine loop_list (xs := [V.ref l0, V.ref l1, V.ref l2]) (fun i σ H' => LJ C b x dx tt2 kt2 ot2 ins (c1 + 1) H2 H8 H' ∧ H' ll = some (.lst [.ref l0, .ref l1, .ref l2]) ∧ Ls H' [l0, l1, l2] (24 + i) ∧ ∃ t, σ = [some (.ref a), some (.ref b), some (.ref R), some (.int (ins : Int)), some (.ref tl), some (.ref kl), some (.ref ol), some (.ref ll), some (.ref g), some (.ref x), u, v, t, none, none]) ⟨lj9, hl9, ⟨fun p hp => ?_⟩, _, rfl⟩ ?_ ?_ ?_
  · simp only [List.mem_cons, List.not_mem_nil, or_false] at hp
    rw [List.length_map] at ls9
    rcases hp with rfl | rfl | rfl
    · exact ⟨_, h09, by rw [List.length_map]; omega⟩
    · obtain ⟨ys, e, l⟩ := ls9.h p (by simp); exact ⟨ys, e, by omega⟩
    · obtain ⟨ys, e, l⟩ := ls9.h p (by simp); exact ⟨ys, e, by omega⟩
  · rintro i σ H' hi ⟨_, h, _⟩
    exact SqL.of h
  · rintro i z σ H' hz ⟨lj, hl, ls, t, rfl⟩
    have i3 := (List.getElem?_eq_some_iff.mp hz).1
    have i3 : i < 3 := i3
    obtain ⟨p, hp, rfl, f, nb, nl⟩ : ∃ p, p ∈ [l0, l1, l2] ∧ z = .ref p ∧ H2 p = none ∧ b ≠ p ∧ ll ≠ p := by
      have := List.mem_of_getElem? hz
      simp only [List.mem_cons, List.not_mem_nil, or_false] at this
      rcases this with rfl | rfl | rfl
      · exact ⟨l0, by simp, rfl, h20, nb0.symm, n0l⟩
      · exact ⟨l1, by simp, rfl, h21, nb1.symm, n1l⟩
      · exact ⟨l2, by simp, rfl, h22, nb2.symm, n2l⟩
    obtain ⟨ys, hy, ly⟩ := ls.h p hp
    walk_at "rd"
    rename_i T hT
    have e := Ch.new (W := []) hT (HO.tup [])
    exact ⟨(lj.new e).app (e.get hy (by simp)) f nb, g_put nl (e.get hl (by simp)), (ls.new e).app (e.get hy (by simp)) ly, _, rfl⟩
  rintro σ H10 ⟨lj10, _, _, t10, rfl⟩
  clear lj9 h09 hl9 ls9 h20 h21 h22 plp8 nlp lsp nbl n3 f0 f1 f2 fl nb0 nb1 nb2 nbll n0l n1l n2l
  have tg10 := tg8.tu lj10.tu
  have dr10 := dr.kl (Kl.one lj10.ch hb2 (by simp))
  have dat10 := dr10.dat ok
  obtain ⟨_, ops', ho10, oo10⟩ := dr10.o
  have dt0 := paired_at dat10 0 (by show 0 < 3; decide) (by show 0 < 3; decide)
  have dt1 := paired_at dat10 1 (by show 1 < 3; decide) (by show 1 < 3; decide)
  have dt0 : DatS 5 H10 (.seq (ts.map dTb)) (.ref tl) := ⟨dt0⟩
  have dt1 : ∀ H', Ch [] H10 H' → DatS 5 H' (.seq (ks.map dKp)) (.ref kl) := fun H' c => ⟨dt1.ch c⟩
  walk_at "rd"
  rename_i v0 H11 c11 d11
  refine ⟨dt1 _ c11, fun v1 H12 c12 d12 => ?_⟩
  have ho12 := c12.get (c11.get ho10 (by simp)) (by simp)
  have hx12 := c12.get (c11.get lj10.hx (by simp)) (by simp)
  walk_at "rd"
  rename_i tO hO Td hTd Tf hTf
  have cF : Ch [] H12 (upd (upd (upd H12 tO (.tup (ops'.map V.ref))) Td (.tup [.int (ins : Int), v0, v1, .ref tO])) Tf (.tup [.int (ins : Int), .ref tt2, .ref kt2, .ref ot2])) := ((Ch.new hO _).trans (Ch.new hTd _)).trans (Ch.new hTf _)
  have gO : (upd (upd (upd H12 tO (.tup (ops'.map V.ref))) Td (.tup [.int (ins : Int), v0, v1, .ref tO])) Tf (.tup [.int (ins : Int), .ref tt2, .ref kt2, .ref ot2])) tO = some (.tup (ops'.map V.ref)) := g_new hTf (g_new hTd upd_same)
  have gd : (upd (upd (upd H12 tO (.tup (ops'.map V.ref))) Td (.tup [.int (ins : Int), v0, v1, .ref tO])) Tf (.tup [.int (ins : Int), .ref tt2, .ref kt2, .ref ot2])) Td = some (.tup [.int (ins : Int), v0, v1, .ref tO]) := g_new hTf upd_same
  have gf : (upd (upd (upd H12 tO (.tup (ops'.map V.ref))) Td (.tup [.int (ins : Int), v0, v1, .ref tO])) Tf (.tup [.int (ins : Int), .ref tt2, .ref kt2, .ref ot2])) Tf = some (.tup [.int (ins : Int), .ref tt2, .ref kt2, .ref ot2]) := upd_same
  generalize upd (upd (upd H12 tO (.tup (ops'.map V.ref))) Td (.tup [.int (ins : Int), v0, v1, .ref tO])) Tf (.tup [.int (ins : Int), .ref tt2, .ref kt2, .ref ot2]) = HF at cF gO gd gf ⊢
  have c1F := (c11.trans c12).trans cF
  have loo := Paired.length oo10
  rw [List.length_map] at loo
  have dO : DAt true 5 HF (.seq (os.map dPl)) (.ref tO) := DAt.up (DAt.up (dat_sq (kd := .tuple) (fun _ => rfl) gO (paired_refs (fun x p e => dat_pl e) (paired_unmap (WsAt.g (oo10.tu (Tu.same c1F))))) (by rw [List.length_map]; omega)))
  have tgF := tg10.tu (Tu.same c1F)
  have e6 : EqvS 6 HF (.ref Tf) (.ref Td) := ⟨DAt.eqv (d := .seq (.sc (.inl (ins : Int)) :: [.seq (ts.map dTb), .seq (ks.map dKp), .seq (os.map dPl)])) (dat_sq (kd := .tuple) (fun _ => rfl) gf (.cons (dat_k (.inl (ins : Int))) (tgF.dat ok)) (by show 4 ≤ 300; decide))
    (dat_sq (kd := .tuple) (fun _ => rfl) gd (.cons (dat_k (.inl (ins : Int))) (.cons (d11.ch (c12.trans cF)) (.cons (d12.ch cF) (.cons dO .nil)))) (by show 4 ≤ 300; decide))⟩
  refine ⟨e6, fun H13 c13 => ?_⟩
  have cX : Ch [] H10 H13 := c1F.trans c13
  have lj13 := lj10.new cX
  have tg13 := tgF.tu (Tu.same c13)
  have dr13 := dr10.ch cX
  have hR13 : H13 R = some (.tup [.int (ins : Int), .ref tl, .ref kl, .ref ol]) := lj13.ch.get hR (by simpa using ne_of hR hb2 (by intro z; cases z))
  have hx13 := lj13.hx
  clear e6 tgF dO c1F gf gd gO cF hO hTd hTf ho12 hx12 d12 c12 d11 c11 dt0 dt1 dat10 dr10 oo10 ho10 tg10 lj10
  walk_at "rd"
  rename_i H14 c14
  refine ⟨dr13.ch c14, ok, fun H15 c15 => ⟨_, _, rfl, ⟨.inl ⟨.inl _, rfl, rfl⟩⟩, fun H16 c16 => ?_⟩⟩
  have cY := (c14.trans c15).trans c16
  have lj16 := lj13.new cY
  have dr16 := dr13.ch cY
  clear lj13 dr13 tg13 hx13 c14 c15 c16 hR13
  walk_at "rd"
  refine loop_range (fun i σ H' => ∃ u v t d k, σ = [some (.ref a), some (.ref b), some (.ref R), some (.int (ins : Int)), some (.ref tl), some (.ref kl), some (.ref ol), some (.ref ll), some (.ref g), some (.ref x), u, v, t, d, k] ∧ LJ C b x dx tt2 kt2 ot2 ins (c1 + 1 + i) H2 H8 H') ⟨_, _, _, _, _, rfl, by simpa using lj16⟩ ?_ ?_
  · rintro i σ H' hi ⟨u, v, t, d, k, rfl, lj⟩
    have hi : i < 4 := by simpa using hi
    have hS' := hS2.ch hb2 lj.ch
    have hb' := lj.hb
    walk_at "rd"
    rename_i n H20 n0 n1 c20 b20
    have lj20 := lj.next c20 b20
    have dr20 := dr.kl (Kl.one lj20.ch hb2 (by simp))
    have hR20 : H20 R = some (.tup [.int (ins : Int), .ref tl, .ref kl, .ref ol]) := lj20.ch.get hR (by simpa using ne_of hR hb2 (by intro z; cases z))
    refine ⟨hR20, dr20, ok, fun r H21 c21 sr => ?_⟩
    obtain ⟨t3, k3, o3, i3, tgs, kgs, ogs, hr3, ask3, no3⟩ := sr.ex
    refine ⟨.list, r, t3, k3, o3, i3, tgs, kgs, ogs, rfl, hr3, ask3, no3, fun H22 c22 => ?_⟩
    walk_at "rd"
    have e : c1 + 1 + (i : Int) + 1 = c1 + 1 + ((i + 1 : Nat) : Int) := by omega
    rw [e] at lj20
    exact (lj20.new c21).new c22
  · rintro σ H' ⟨u, v, t, d, k, rfl, lj⟩
    walk_at "rd"
    exact q _
end
end

section
theorem xsub_of {K : PySem.W.Frag} {C CF : Addr} (e : PySem.W.mroIn K C (.ref CF) = some true) : XSub K C CF := by
  obtain ⟨cd, a, b⟩ := Option.bind_eq_some_iff.mp e
  unfold PySem.W.clsIn at a
  split at a
  case h_2 => cases a
  case h_1 cl di cd' sl ho =>
    cases a
    unfold XSub
    rw [ho]
    split at b
    · cases b
    · exact Option.some.inj b
theorem cls_of {K : PySem.W.Frag} {C : Addr} {v : Value} (e : PySem.W.mroIn K C v = some true) : (PySem.W.clsIn K C).isSome = true := by
  obtain ⟨cd, a, b⟩ := Option.bind_eq_some_iff.mp e
  rw [a]
  rfl
theorem all_mk {l : PySem.W.OpenLaw} {w : World} {K : PySem.W.Frag} {h : Heap} {mg : Str → Option Value} {fa CT : Addr} (X : K.In h) (G : h.Ns mainGlobals mg) (hfa : mg "law" = some (.ref fa))
    {f0 : Addr} {od0 an0 : Option Addr} {sl0 : Array (Option Value)} {oc0 kV0 dc0 pm0 cd0 ct0 : Value}
    {f1 : Addr} {od1 an1 : Option Addr} {sl1 : Array (Option Value)} {oc1 kV1 dc1 pm1 cd1 ct1 : Value}
    {f2 : Addr} {od2 an2 : Option Addr} {sl2 : Array (Option Value)} {oc2 kV2 dc2 pm2 cd2 ct2 : Value}
    {f3 : Addr} {od3 an3 : Option Addr} {sl3 : Array (Option Value)} {oc3 kV3 dc3 pm3 cd3 ct3 : Value}
    {f4 : Addr} {od4 an4 : Option Addr} {sl4 : Array (Option Value)} {oc4 kV4 dc4 pm4 cd4 ct4 : Value}
    {f5 : Addr} {od5 an5 : Option Addr} {sl5 : Array (Option Value)} {oc5 kV5 dc5 pm5 cd5 ct5 : Value}
    {f6 : Addr} {od6 an6 : Option Addr} {sl6 : Array (Option Value)} {oc6 kV6 dc6 pm6 cd6 ct6 : Value}
    {f7 : Addr} {od7 an7 : Option Addr} {sl7 : Array (Option Value)} {oc7 kV7 dc7 pm7 cd7 ct7 : Value}
    {f8 : Addr} {od8 an8 : Option Addr} {sl8 : Array (Option Value)} {oc8 kV8 dc8 pm8 cd8 ct8 : Value}
    {f9 : Addr} {od9 an9 : Option Addr} {sl9 : Array (Option Value)} {oc9 kV9 dc9 pm9 cd9 ct9 : Value}
    {f10 : Addr} {od10 an10 : Option Addr} {sl10 : Array (Option Value)} {oc10 kV10 dc10 pm10 cd10 ct10 : Value}
    {f11 : Addr} {od11 an11 : Option Addr} {sl11 : Array (Option Value)} {oc11 kV11 dc11 pm11 cd11 ct11 : Value}
    {f12 : Addr} {od12 an12 : Option Addr} {sl12 : Array (Option Value)} {oc12 kV12 dc12 pm12 cd12 ct12 : Value}
    {f13 : Addr} {od13 an13 : Option Addr} {sl13 : Array (Option Value)} {oc13 kV13 dc13 pm13 cd13 ct13 : Value}
    {f14 : Addr} {od14 an14 : Option Addr} {sl14 : Array (Option Value)} {oc14 kV14 dc14 pm14 cd14 ct14 : Value}
    {f15 : Addr} {od15 an15 : Option Addr} {sl15 : Array (Option Value)} {oc15 kV15 dc15 pm15 cd15 ct15 : Value}
    {f16 : Addr} {od16 an16 : Option Addr} {sl16 : Array (Option Value)} {oc16 kV16 dc16 pm16 cd16 ct16 : Value}
    {f17 : Addr} {od17 an17 : Option Addr} {sl17 : Array (Option Value)} {oc17 kV17 dc17 pm17 cd17 ct17 : Value}
    {f18 : Addr} {od18 an18 : Option Addr} {sl18 : Array (Option Value)} {oc18 kV18 dc18 pm18 cd18 ct18 : Value}
    {EFloorError ENoRow ENoTables ENoPack ENoFloor EOutOfFloor ENoRoom ENoText ENoSense ENoNet ENoWays ENoBits : Addr}
    (aT : PySem.W.nsIn K mainGlobals "Tables" = some (some (.ref CT)))
    (eFloorError : PySem.W.nsIn K mainGlobals "FloorError" = some (some (.ref EFloorError)))
    (eNoRow : PySem.W.nsIn K mainGlobals "NoRow" = some (some (.ref ENoRow)))
    (eNoTables : PySem.W.nsIn K mainGlobals "NoTables" = some (some (.ref ENoTables)))
    (eNoPack : PySem.W.nsIn K mainGlobals "NoPack" = some (some (.ref ENoPack)))
    (eNoFloor : PySem.W.nsIn K mainGlobals "NoFloor" = some (some (.ref ENoFloor)))
    (eOutOfFloor : PySem.W.nsIn K mainGlobals "OutOfFloor" = some (some (.ref EOutOfFloor)))
    (eNoRoom : PySem.W.nsIn K mainGlobals "NoRoom" = some (some (.ref ENoRoom)))
    (eNoText : PySem.W.nsIn K mainGlobals "NoText" = some (some (.ref ENoText)))
    (eNoSense : PySem.W.nsIn K mainGlobals "NoSense" = some (some (.ref ENoSense)))
    (eNoNet : PySem.W.nsIn K mainGlobals "NoNet" = some (some (.ref ENoNet)))
    (eNoWays : PySem.W.nsIn K mainGlobals "NoWays" = some (some (.ref ENoWays)))
    (eNoBits : PySem.W.nsIn K mainGlobals "NoBits" = some (some (.ref ENoBits)))
    (a0 : PySem.W.nsIn K mainGlobals "is_whole" = some (some (.ref f0))) (l0 : K.lookup f0 = some ⟨oc0, od0, .func (PySem.W.fnOf "is_whole" "is_whole" (defArgs (top 14)) (defBody (top 14)) (defScope (top 14)) .none kV0 dc0 pm0 an0 cd0 ct0), sl0⟩) (c0 : PySem.W.codeIn K cd0 "is_whole" = true) (k0 : PySem.W.keepIn K (.ref f0) = true)
    (a1 : PySem.W.nsIn K mainGlobals "is_below" = some (some (.ref f1))) (l1 : K.lookup f1 = some ⟨oc1, od1, .func (PySem.W.fnOf "is_below" "is_below" (defArgs (top 15)) (defBody (top 15)) (defScope (top 15)) .none kV1 dc1 pm1 an1 cd1 ct1), sl1⟩) (c1 : PySem.W.codeIn K cd1 "is_below" = true) (k1 : PySem.W.keepIn K (.ref f1) = true)
    (a2 : PySem.W.nsIn K mainGlobals "is_listed" = some (some (.ref f2))) (l2 : K.lookup f2 = some ⟨oc2, od2, .func (PySem.W.fnOf "is_listed" "is_listed" (defArgs (top 16)) (defBody (top 16)) (defScope (top 16)) .none kV2 dc2 pm2 an2 cd2 ct2), sl2⟩) (c2 : PySem.W.codeIn K cd2 "is_listed" = true) (k2 : PySem.W.keepIn K (.ref f2) = true)
    (a3 : PySem.W.nsIn K mainGlobals "is_place" = some (some (.ref f3))) (l3 : K.lookup f3 = some ⟨oc3, od3, .func (PySem.W.fnOf "is_place" "is_place" (defArgs (top 17)) (defBody (top 17)) (defScope (top 17)) .none kV3 dc3 pm3 an3 cd3 ct3), sl3⟩) (c3 : PySem.W.codeIn K cd3 "is_place" = true) (k3 : PySem.W.keepIn K (.ref f3) = true)
    (a4 : PySem.W.nsIn K mainGlobals "is_table" = some (some (.ref f4))) (l4 : K.lookup f4 = some ⟨oc4, od4, .func (PySem.W.fnOf "is_table" "is_table" (defArgs (top 19)) (defBody (top 19)) (defScope (top 19)) .none kV4 dc4 pm4 an4 cd4 ct4), sl4⟩) (c4 : PySem.W.codeIn K cd4 "is_table" = true) (k4 : PySem.W.keepIn K (.ref f4) = true)
    (a5 : PySem.W.nsIn K mainGlobals "is_keep" = some (some (.ref f5))) (l5 : K.lookup f5 = some ⟨oc5, od5, .func (PySem.W.fnOf "is_keep" "is_keep" (defArgs (top 20)) (defBody (top 20)) (defScope (top 20)) .none kV5 dc5 pm5 an5 cd5 ct5), sl5⟩) (c5 : PySem.W.codeIn K cd5 "is_keep" = true) (k5 : PySem.W.keepIn K (.ref f5) = true)
    (a6 : PySem.W.nsIn K mainGlobals "ask_tables" = some (some (.ref f6))) (l6 : K.lookup f6 = some ⟨oc6, od6, .func (PySem.W.fnOf "ask_tables" "ask_tables" (defArgs (top 21)) (defBody (top 21)) (defScope (top 21)) .none kV6 dc6 pm6 an6 cd6 ct6), sl6⟩) (c6 : PySem.W.codeIn K cd6 "ask_tables" = true) (k6 : PySem.W.keepIn K (.ref f6) = true)
    (a7 : PySem.W.nsIn K mainGlobals "depth_of" = some (some (.ref f7))) (l7 : K.lookup f7 = some ⟨oc7, od7, .func (PySem.W.fnOf "depth_of" "depth_of" (defArgs (top 23)) (defBody (top 23)) (defScope (top 23)) .none kV7 dc7 pm7 an7 cd7 ct7), sl7⟩) (c7 : PySem.W.codeIn K cd7 "depth_of" = true) (k7 : PySem.W.keepIn K (.ref f7) = true)
    (a8 : PySem.W.nsIn K mainGlobals "_law_next" = some (some (.ref f8))) (l8 : K.lookup f8 = some ⟨oc8, od8, .func (PySem.W.fnOf "_law_next" "_law_next" (defArgs (top 25)) (defBody (top 25)) (defScope (top 25)) .none kV8 dc8 pm8 an8 cd8 ct8), sl8⟩) (c8 : PySem.W.codeIn K cd8 "_law_next" = true) (k8 : PySem.W.keepIn K (.ref f8) = true)
    (a9 : PySem.W.nsIn K mainGlobals "_law_same" = some (some (.ref f9))) (l9 : K.lookup f9 = some ⟨oc9, od9, .func (PySem.W.fnOf "_law_same" "_law_same" (defArgs (top 26)) (defBody (top 26)) (defScope (top 26)) .none kV9 dc9 pm9 an9 cd9 ct9), sl9⟩) (c9 : PySem.W.codeIn K cd9 "_law_same" = true) (k9 : PySem.W.keepIn K (.ref f9) = true)
    (a10 : PySem.W.nsIn K mainGlobals "_law_place" = some (some (.ref f10))) (l10 : K.lookup f10 = some ⟨oc10, od10, .func (PySem.W.fnOf "_law_place" "_law_place" (defArgs (top 27)) (defBody (top 27)) (defScope (top 27)) .none kV10 dc10 pm10 an10 cd10 ct10), sl10⟩) (c10 : PySem.W.codeIn K cd10 "_law_place" = true) (k10 : PySem.W.keepIn K (.ref f10) = true)
    (a11 : PySem.W.nsIn K mainGlobals "_law_drawn_tables" = some (some (.ref f11))) (l11 : K.lookup f11 = some ⟨oc11, od11, .func (PySem.W.fnOf "_law_drawn_tables" "_law_drawn_tables" (defArgs (top 28)) (defBody (top 28)) (defScope (top 28)) .none kV11 dc11 pm11 an11 cd11 ct11), sl11⟩) (c11 : PySem.W.codeIn K cd11 "_law_drawn_tables" = true) (k11 : PySem.W.keepIn K (.ref f11) = true)
    (a12 : PySem.W.nsIn K mainGlobals "_law_tupled" = some (some (.ref f12))) (l12 : K.lookup f12 = some ⟨oc12, od12, .func (PySem.W.fnOf "_law_tupled" "_law_tupled" (defArgs (top 29)) (defBody (top 29)) (defScope (top 29)) .none kV12 dc12 pm12 an12 cd12 ct12), sl12⟩) (c12 : PySem.W.codeIn K cd12 "_law_tupled" = true) (k12 : PySem.W.keepIn K (.ref f12) = true)
    (a13 : PySem.W.nsIn K mainGlobals "_law_levels" = some (some (.ref f13))) (l13 : K.lookup f13 = some ⟨oc13, od13, .func (PySem.W.fnOf "_law_levels" "_law_levels" (defArgs (top 30)) (defBody (top 30)) (defScope (top 30)) .none kV13 dc13 pm13 an13 cd13 ct13), sl13⟩) (c13 : PySem.W.codeIn K cd13 "_law_levels" = true) (k13 : PySem.W.keepIn K (.ref f13) = true)
    (a14 : PySem.W.nsIn K mainGlobals "_law_refused" = some (some (.ref f14))) (l14 : K.lookup f14 = some ⟨oc14, od14, .func (PySem.W.fnOf "_law_refused" "_law_refused" (defArgs (top 31)) (defBody (top 31)) (defScope (top 31)) .none kV14 dc14 pm14 an14 cd14 ct14), sl14⟩) (c14 : PySem.W.codeIn K cd14 "_law_refused" = true) (k14 : PySem.W.keepIn K (.ref f14) = true)
    (a15 : PySem.W.nsIn K mainGlobals "_law_odd_place" = some (some (.ref f15))) (l15 : K.lookup f15 = some ⟨oc15, od15, .func (PySem.W.fnOf "_law_odd_place" "_law_odd_place" (defArgs (top 32)) (defBody (top 32)) (defScope (top 32)) .none kV15 dc15 pm15 an15 cd15 ct15), sl15⟩) (c15 : PySem.W.codeIn K cd15 "_law_odd_place" = true) (k15 : PySem.W.keepIn K (.ref f15) = true)
    (a16 : PySem.W.nsIn K mainGlobals "_law_spoilt" = some (some (.ref f16))) (l16 : K.lookup f16 = some ⟨oc16, od16, .func (PySem.W.fnOf "_law_spoilt" "_law_spoilt" (defArgs (top 33)) (defBody (top 33)) (defScope (top 33)) .none kV16 dc16 pm16 an16 cd16 ct16), sl16⟩) (c16 : PySem.W.codeIn K cd16 "_law_spoilt" = true) (k16 : PySem.W.keepIn K (.ref f16) = true)
    (a17 : PySem.W.nsIn K mainGlobals "law" = some (some (.ref f17))) (l17 : K.lookup f17 = some ⟨oc17, od17, .func (PySem.W.fnOf "law" "law" (defArgs (top 34)) (defBody (top 34)) (defScope (top 34)) .none kV17 dc17 pm17 an17 cd17 ct17), sl17⟩) (c17 : PySem.W.codeIn K cd17 "law" = true) (k17 : PySem.W.keepIn K (.ref f17) = true)
    (a18 : PySem.W.findIn K (.ref CT) "__init__" = some (some (.ref f18))) (l18 : K.lookup f18 = some ⟨oc18, od18, .func (PySem.W.fnOf "__init__" "Tables.__init__" (defArgs (inClass (top 22) 0)) (defBody (inClass (top 22) 0)) (defScope (inClass (top 22) 0)) .none kV18 dc18 pm18 an18 cd18 ct18), sl18⟩) (c18 : PySem.W.codeIn K cd18 "Tables.__init__" = true) (k18 : PySem.W.keepIn K (.ref f18) = true) (i18 : PySem.W.isFn K (.ref f18) = true)
    (pgT : PySem.W.plainGet K CT Str.empty = true) (hdT : PySem.W.hasDictIn K CT = true) (poT : PySem.W.plainOver K CT = true) (saT : PySem.W.findIn K (.ref CT) "__setattr__" = some (some (.builtin "object.__setattr__"))) (mkT : PySem.W.makesIn K CT = true) (kcT : PySem.W.keepIn K (.ref CT) = true)
    (nT_ins : PySem.W.findIn K (.ref CT) "ins" = some none)
    (nT_tables : PySem.W.findIn K (.ref CT) "tables" = some none)
    (nT_keeps : PySem.W.findIn K (.ref CT) "keeps" = some none)
    (nT_outs : PySem.W.findIn K (.ref CT) "outs" = some none)
    (z_len : PySem.W.nsIn K mainGlobals "len" = some none)
    (z_range : PySem.W.nsIn K mainGlobals "range" = some none)
    (z_int : PySem.W.nsIn K mainGlobals "int" = some none)
    (z_str : PySem.W.nsIn K mainGlobals "str" = some none)
    (z_isinstance : PySem.W.nsIn K mainGlobals "isinstance" = some none)
    (z_zip : PySem.W.nsIn K mainGlobals "zip" = some none)
    (z_list : PySem.W.nsIn K mainGlobals "list" = some none)
    (z_tuple : PySem.W.nsIn K mainGlobals "tuple" = some none)
    (z_dict : PySem.W.nsIn K mainGlobals "dict" = some none)
    (z_bool : PySem.W.nsIn K mainGlobals "bool" = some none)
    (z_all : PySem.W.nsIn K mainGlobals "all" = some none)
    (z_max : PySem.W.nsIn K mainGlobals "max" = some none)
    (z_enumerate : PySem.W.nsIn K mainGlobals "enumerate" = some none)
    (z_ValueError : PySem.W.nsIn K mainGlobals "ValueError" = some none)
    (xcR : PySem.W.excIn K ENoTables bmV "ValueError.__new__" = true) (xcF : PySem.W.excIn K EFloorError bmV "ValueError.__new__" = true) (xsb : PySem.W.mroIn K ENoTables (.ref EFloorError) = some true)
    (xga : PySem.W.findIn K (.ref ENoTables) "__getattribute__" = some (some (.builtin "BaseException.__getattribute__"))) (xgt : PySem.W.findIn K (.ref ENoTables) "__getattr__" = some none) (xcl : PySem.W.findIn K (.ref ENoTables) "__class__" = some (some (.builtin "object.__class__")))
    (xsg : PySem.W.specialIn K (.builtin "object.__class__") "__get__" = some (some (.builtin "getset_descriptor.__get__"))) (xtk : PySem.W.takesIn K (.builtin "object.__class__") = some true) (xmo : PySem.W.mroIn K ENoTables (.type "object") = some true)
    (w_NoBits : PySem.W.kitOne K (.ref ENoTables) (.ref ENoBits) = some false)
    (w_NoFloor : PySem.W.kitOne K (.ref ENoTables) (.ref ENoFloor) = some false)
    (w_NoNet : PySem.W.kitOne K (.ref ENoTables) (.ref ENoNet) = some false)
    (w_NoPack : PySem.W.kitOne K (.ref ENoTables) (.ref ENoPack) = some false)
    (w_NoRoom : PySem.W.kitOne K (.ref ENoTables) (.ref ENoRoom) = some false)
    (w_NoRow : PySem.W.kitOne K (.ref ENoTables) (.ref ENoRow) = some false)
    (w_NoSense : PySem.W.kitOne K (.ref ENoTables) (.ref ENoSense) = some false)
    (w_NoText : PySem.W.kitOne K (.ref ENoTables) (.ref ENoText) = some false)
    (w_NoWays : PySem.W.kitOne K (.ref ENoTables) (.ref ENoWays) = some false)
    (w_OutOfFloor : PySem.W.kitOne K (.ref ENoTables) (.ref EOutOfFloor) = some false)
    (w_NoTables : PySem.W.kitOne K (.ref ENoTables) (.ref ENoTables) = some true)
    (w_V : PySem.W.kitOne K (.ref ENoTables) (.type "ValueError") = some true) :
    ∃ fd : FuncData, (∀ (s : Shared) (v : Value), BindsTo s fd ⟨[v], []⟩ [("_law_script", v)]) ∧ ∀ base : Heap, K.In base → base.Ns mainGlobals mg → FnOk l.prog w K mg base CX0 9 fa fd ["_law_script"] (spLaw K) := by
  have e := hfa.symm.trans (PySem.W.mg_of X G a17)
  cases e
  have F0 := fun_mk (st := top 14) l0 c0 k0
  have b0 := F0.binds (ps := ["thing"]) fun _ _ _ _ _ _ us hl => match us, hl with | [_], _ => rfl
  have m0 := PySem.W.mg_of X G a0
  have F1 := fun_mk (st := top 15) l1 c1 k1
  have b1 := F1.binds (ps := ["thing", "bound"]) fun _ _ _ _ _ _ us hl => match us, hl with | [_, _], _ => rfl
  have m1 := PySem.W.mg_of X G a1
  have F2 := fun_mk (st := top 16) l2 c2 k2
  have b2 := F2.binds (ps := ["thing"]) fun _ _ _ _ _ _ us hl => match us, hl with | [_], _ => rfl
  have m2 := PySem.W.mg_of X G a2
  have F3 := fun_mk (st := top 17) l3 c3 k3
  have b3 := F3.binds (ps := ["thing", "counts"]) fun _ _ _ _ _ _ us hl => match us, hl with | [_, _], _ => rfl
  have m3 := PySem.W.mg_of X G a3
  have F4 := fun_mk (st := top 19) l4 c4 k4
  have b4 := F4.binds (ps := ["thing", "counts"]) fun _ _ _ _ _ _ us hl => match us, hl with | [_, _], _ => rfl
  have m4 := PySem.W.mg_of X G a4
  have F5 := fun_mk (st := top 20) l5 c5 k5
  have b5 := F5.binds (ps := ["thing", "counts"]) fun _ _ _ _ _ _ us hl => match us, hl with | [_, _], _ => rfl
  have m5 := PySem.W.mg_of X G a5
  have F6 := fun_mk (st := top 21) l6 c6 k6
  have b6 := F6.binds (ps := ["ins", "tables", "keeps", "outs"]) fun _ _ _ _ _ _ us hl => match us, hl with | [_, _, _, _], _ => rfl
  have m6 := PySem.W.mg_of X G a6
  have F7 := fun_mk (st := top 23) l7 c7 k7
  have b7 := F7.binds (ps := ["tables"]) fun _ _ _ _ _ _ us hl => match us, hl with | [_], _ => rfl
  have m7 := PySem.W.mg_of X G a7
  have F8 := fun_mk (st := top 25) l8 c8 k8
  have b8 := F8.binds (ps := ["_law_script", "_law_at"]) fun _ _ _ _ _ _ us hl => match us, hl with | [_, _], _ => rfl
  have m8 := PySem.W.mg_of X G a8
  have F9 := fun_mk (st := top 26) l9 c9 k9
  have b9 := F9.binds (ps := ["_law_found", "_law_due"]) fun _ _ _ _ _ _ us hl => match us, hl with | [_, _], _ => rfl
  have m9 := PySem.W.mg_of X G a9
  have F10 := fun_mk (st := top 27) l10 c10 k10
  have b10 := F10.binds (ps := ["_law_m", "_law_ins", "_law_keeps", "_law_tables"]) fun _ _ _ _ _ _ us hl => match us, hl with | [_, _, _, _], _ => rfl
  have m10 := PySem.W.mg_of X G a10
  have F11 := fun_mk (st := top 28) l11 c11 k11
  have b11 := F11.binds (ps := ["_law_script", "_law_at"]) fun _ _ _ _ _ _ us hl => match us, hl with | [_, _], _ => rfl
  have m11 := PySem.W.mg_of X G a11
  have F12 := fun_mk (st := top 29) l12 c12 k12
  have b12 := F12.binds (ps := ["_law_thing"]) fun _ _ _ _ _ _ us hl => match us, hl with | [_], _ => rfl
  have m12 := PySem.W.mg_of X G a12
  have F13 := fun_mk (st := top 30) l13 c13 k13
  have b13 := F13.binds (ps := ["_law_drawn"]) fun _ _ _ _ _ _ us hl => match us, hl with | [_], _ => rfl
  have m13 := PySem.W.mg_of X G a13
  have F14 := fun_mk (st := top 31) l14 c14 k14
  have b14 := F14.binds (ps := ["_law_drawn"]) fun _ _ _ _ _ _ us hl => match us, hl with | [_], _ => rfl
  have m14 := PySem.W.mg_of X G a14
  have F15 := fun_mk (st := top 32) l15 c15 k15
  have b15 := F15.binds (ps := ["_law_m", "_law_drawn", "_law_number"]) fun _ _ _ _ _ _ us hl => match us, hl with | [_, _, _], _ => rfl
  have m15 := PySem.W.mg_of X G a15
  have F16 := fun_mk (st := top 33) l16 c16 k16
  have b16 := F16.binds (ps := ["_law_m", "_law_drawn"]) fun _ _ _ _ _ _ us hl => match us, hl with | [_, _], _ => rfl
  have m16 := PySem.W.mg_of X G a16
  have F17 := fun_mk (st := top 34) l17 c17 k17
  have F18 := fun_mk (st := inClass (top 22) 0) l18 c18 k18
  have b18 := F18.binds (ps := ["self", "ins", "tables", "keeps", "outs"]) fun _ _ _ _ _ _ us hl => match us, hl with | [_, _, _, _, _], _ => rfl
  have z_len := PySem.W.mg_none_of X G z_len
  have z_range := PySem.W.mg_none_of X G z_range
  have z_int := PySem.W.mg_none_of X G z_int
  have z_str := PySem.W.mg_none_of X G z_str
  have z_isinstance := PySem.W.mg_none_of X G z_isinstance
  have z_zip := PySem.W.mg_none_of X G z_zip
  have z_list := PySem.W.mg_none_of X G z_list
  have z_tuple := PySem.W.mg_none_of X G z_tuple
  have z_dict := PySem.W.mg_none_of X G z_dict
  have z_bool := PySem.W.mg_none_of X G z_bool
  have z_all := PySem.W.mg_none_of X G z_all
  have z_max := PySem.W.mg_none_of X G z_max
  have z_enumerate := PySem.W.mg_none_of X G z_enumerate
  have z_ValueError := PySem.W.mg_none_of X G z_ValueError
  have m_FloorError := PySem.W.mg_of X G eFloorError
  have m_NoRow := PySem.W.mg_of X G eNoRow
  have m_NoTables := PySem.W.mg_of X G eNoTables
  have m_NoPack := PySem.W.mg_of X G eNoPack
  have m_NoFloor := PySem.W.mg_of X G eNoFloor
  have m_OutOfFloor := PySem.W.mg_of X G eOutOfFloor
  have m_NoRoom := PySem.W.mg_of X G eNoRoom
  have m_NoText := PySem.W.mg_of X G eNoText
  have m_NoSense := PySem.W.mg_of X G eNoSense
  have m_NoNet := PySem.W.mg_of X G eNoNet
  have m_NoWays := PySem.W.mg_of X G eNoWays
  have m_NoBits := PySem.W.mg_of X G eNoBits
  have mT := PySem.W.mg_of X G aT
  have clT : Cls K CT := ⟨pgT, hdT, poT, saT⟩
  have XR : XC K ENoTables := xcR
  have XF : XC K EFloorError := xcF
  have xa : XA K ENoTables := ⟨XR, xga, xgt, xcl, xsg, xtk, xmo, cls_of xmo⟩
  have sub : XSub K ENoTables EFloorError := xsub_of xsb
  refine ⟨PySem.W.fnOf "law" "law" (defArgs (top 34)) (defBody (top 34)) (defScope (top 34)) .none kV17 dc17 pm17 an17 cd17 ct17, fun s v => .of_eq rfl, fun base _ _ => ?_⟩
  have wk : WK K ENoTables [ENoBits, ENoFloor, ENoNet, ENoPack, ENoRoom, ENoRow, ENoSense, ENoText, ENoWays] EOutOfFloor := by
    refine ⟨xa, w_NoTables, w_V, kany fun c hm => ?_, w_OutOfFloor⟩
    simp only [List.mem_cons, List.not_mem_nil, or_false] at hm
    rcases hm with rfl | rfl | rfl | rfl | rfl | rfl | rfl | rfl | rfl
    · exact w_NoBits
    · exact w_NoFloor
    · exact w_NoNet
    · exact w_NoPack
    · exact w_NoRoom
    · exact w_NoRow
    · exact w_NoSense
    · exact w_NoText
    · exact w_NoWays
  have D_is_whole_1 : DefOk l.prog w K mg base CX0 1 "is_whole" ["thing"] spWholeG := ⟨f0, _, ok_wholeG (k := 0) F0 z_isinstance z_int z_bool, b0, k0, m0⟩
  have D_is_listed_1 : DefOk l.prog w K mg base CX0 1 "is_listed" ["thing"] spListed := ⟨f2, _, ok_listed (k := 0) F2 z_isinstance z_list z_tuple, b2, k2, m2⟩
  have D_is_below_2 : DefOk l.prog w K mg base CX0 2 "is_below" ["thing", "bound"] spBelowG := ⟨f1, _, ok_belowG (k := 1) F1 D_is_whole_1, b1, k1, m1⟩
  have D_is_place_3 : DefOk l.prog w K mg base CX0 3 "is_place" ["thing", "counts"] spPlaceG := ⟨f3, _, ok_placeG (k := 2) F3 D_is_below_2 z_isinstance z_tuple z_str z_len, b3, k3, m3⟩
  have D_is_table_4 : DefOk l.prog w K mg base CX0 4 "is_table" ["thing", "counts"] spTableG := ⟨f4, _, ok_tableG (k := 3) F4 (D_is_below_2.mono (by omega)) (D_is_listed_1.mono (by omega)) D_is_place_3 z_isinstance z_tuple z_all z_len, b4, k4, m4⟩
  have D_is_keep_4 : DefOk l.prog w K mg base CX0 4 "is_keep" ["thing", "counts"] spKeepG := ⟨f5, _, ok_keepG (k := 3) F5 (D_is_below_2.mono (by omega)) D_is_place_3 z_isinstance z_tuple z_len, b5, k5, m5⟩
  have DX_ask_tables_5 : DefOk l.prog w K mg base (CXE l.prog w) 5 "ask_tables" ["ins", "tables", "keeps", "outs"] (spAskX ENoTables) := ⟨f6, _, ok_askX (k := 4) F6 (D_is_whole_1.mono (by omega)) (D_is_listed_1.mono (by omega)) D_is_table_4 D_is_keep_4 (D_is_place_3.mono (by omega)) z_len z_all z_enumerate m_NoTables XR, b6, k6, m6⟩
  have TX := ok_TabsX (k := 5) F18 clT nT_ins nT_tables nT_keeps nT_outs DX_ask_tables_5 z_tuple
  have MkX : MakeOk l.prog w K mg base (CXE l.prog w) 6 CT "Tables" ["self", "ins", "tables", "keeps", "outs"] (spTabsX CT ENoTables) := ⟨⟨f18, _, TX, b18, ⟨mkT, a18, i18, kcT⟩, mT⟩⟩
  have MkT : MakeOk l.prog w K mg base CX0 6 CT "Tables" ["self", "ins", "tables", "keeps", "outs"] (spTabs CT) := ⟨⟨f18, _, TX.calm tabs_calm, b18, ⟨mkT, a18, i18, kcT⟩, mT⟩⟩
  have D_depth_of_1 : DefOk l.prog w K mg base CX0 1 "depth_of" ["tables"] (spDep CT) := ⟨f7, _, ok_dep (k := 0) F7 clT nT_tables nT_keeps nT_outs z_max z_list, b7, k7, m7⟩
  have D__law_next_1 : DefOk l.prog w K mg base CX0 1 "_law_next" ["_law_script", "_law_at"] (spNext K) := ⟨f8, _, ok_next (k := 0) F8 z_len z_range, b8, k8, m8⟩
  have D__law_same_1 : DefOk l.prog w K mg base CX0 1 "_law_same" ["_law_found", "_law_due"] (spSame 0) := ⟨f9, _, ok_sameF (k := 0) F9, b9, k9, m9⟩
  have D__law_same_2 : DefOk l.prog w K mg base CX0 2 "_law_same" ["_law_found", "_law_due"] (spSame 1) := ⟨f9, _, ok_same 0 (k := 1) F9 D__law_same_1 z_isinstance z_dict z_list z_tuple z_str z_int z_bool z_len z_all z_zip, b9, k9, m9⟩
  have D__law_same_3 : DefOk l.prog w K mg base CX0 3 "_law_same" ["_law_found", "_law_due"] (spSame 2) := ⟨f9, _, ok_same 1 (k := 2) F9 D__law_same_2 z_isinstance z_dict z_list z_tuple z_str z_int z_bool z_len z_all z_zip, b9, k9, m9⟩
  have D__law_same_4 : DefOk l.prog w K mg base CX0 4 "_law_same" ["_law_found", "_law_due"] (spSame 3) := ⟨f9, _, ok_same 2 (k := 3) F9 D__law_same_3 z_isinstance z_dict z_list z_tuple z_str z_int z_bool z_len z_all z_zip, b9, k9, m9⟩
  have D__law_same_5 : DefOk l.prog w K mg base CX0 5 "_law_same" ["_law_found", "_law_due"] (spSame 4) := ⟨f9, _, ok_same 3 (k := 4) F9 D__law_same_4 z_isinstance z_dict z_list z_tuple z_str z_int z_bool z_len z_all z_zip, b9, k9, m9⟩
  have D__law_same_6 : DefOk l.prog w K mg base CX0 6 "_law_same" ["_law_found", "_law_due"] (spSame 5) := ⟨f9, _, ok_same 4 (k := 5) F9 D__law_same_5 z_isinstance z_dict z_list z_tuple z_str z_int z_bool z_len z_all z_zip, b9, k9, m9⟩
  have D__law_same_7 : DefOk l.prog w K mg base CX0 7 "_law_same" ["_law_found", "_law_due"] (spSame 6) := ⟨f9, _, ok_same 5 (k := 6) F9 D__law_same_6 z_isinstance z_dict z_list z_tuple z_str z_int z_bool z_len z_all z_zip, b9, k9, m9⟩
  have D__law_tupled_1 : DefOk l.prog w K mg base CX0 1 "_law_tupled" ["_law_thing"] (spTup 0) := ⟨f12, _, ok_tupF (k := 0) F12, b12, k12, m12⟩
  have D__law_tupled_2 : DefOk l.prog w K mg base CX0 2 "_law_tupled" ["_law_thing"] (spTup 1) := ⟨f12, _, ok_tup 0 (k := 1) F12 D__law_tupled_1 z_isinstance z_list z_tuple, b12, k12, m12⟩
  have D__law_tupled_3 : DefOk l.prog w K mg base CX0 3 "_law_tupled" ["_law_thing"] (spTup 2) := ⟨f12, _, ok_tup 1 (k := 2) F12 D__law_tupled_2 z_isinstance z_list z_tuple, b12, k12, m12⟩
  have D__law_tupled_4 : DefOk l.prog w K mg base CX0 4 "_law_tupled" ["_law_thing"] (spTup 3) := ⟨f12, _, ok_tup 2 (k := 3) F12 D__law_tupled_3 z_isinstance z_list z_tuple, b12, k12, m12⟩
  have D__law_tupled_5 : DefOk l.prog w K mg base CX0 5 "_law_tupled" ["_law_thing"] (spTup 4) := ⟨f12, _, ok_tup 3 (k := 4) F12 D__law_tupled_4 z_isinstance z_list z_tuple, b12, k12, m12⟩
  have D__law_tupled_6 : DefOk l.prog w K mg base CX0 6 "_law_tupled" ["_law_thing"] (spTup 5) := ⟨f12, _, ok_tup 4 (k := 5) F12 D__law_tupled_5 z_isinstance z_list z_tuple, b12, k12, m12⟩
  have D__law_place_1 : DefOk l.prog w K mg base CX0 1 "_law_place" ["_law_m", "_law_ins", "_law_keeps", "_law_tables"] spPlc := ⟨f10, _, ok_plc (k := 0) F10 z_int z_len, b10, k10, m10⟩
  have D__law_drawn_tables_2 : DefOk l.prog w K mg base CX0 2 "_law_drawn_tables" ["_law_script", "_law_at"] (spDT K) := ⟨f11, _, ok_dt (k := 1) F11 D__law_next_1 D__law_place_1 z_range z_len, b11, k11, m11⟩
  have D__law_levels_1 : DefOk l.prog w K mg base CX0 1 "_law_levels" ["_law_drawn"] spLev := ⟨f13, _, ok_lev (k := 0) F13 z_max z_list, b13, k13, m13⟩
  have D__law_refused_8 : DefOk l.prog w K mg base CX0 8 "_law_refused" ["_law_drawn"] spRef := ⟨f14, _, ok_ref (k := 6) F14 MkX wk m_FloorError XF XR sub m_NoTables m_NoBits m_NoFloor m_NoNet m_NoPack m_NoRoom m_NoRow m_NoSense m_NoText m_NoWays m_OutOfFloor z_isinstance z_ValueError, b14, k14, m14⟩
  have D__law_odd_place_1 : DefOk l.prog w K mg base CX0 1 "_law_odd_place" ["_law_m", "_law_drawn", "_law_number"] spOdd := ⟨f15, _, ok_odd (k := 0) F15 z_len, b15, k15, m15⟩
  have D__law_spoilt_2 : DefOk l.prog w K mg base CX0 2 "_law_spoilt" ["_law_m", "_law_drawn"] spSpt := ⟨f16, _, ok_spt (k := 1) F16 D__law_odd_place_1 z_len z_list z_max, b16, k16, m16⟩
  exact ok_law (k := 7) F17 clT nT_ins nT_tables nT_keeps nT_outs (D__law_next_1.mono (by omega)) (D__law_drawn_tables_2.mono (by omega)) (D__law_tupled_6.mono (by omega)) (D__law_same_7.mono (by omega)) (D_depth_of_1.mono (by omega)) (D__law_levels_1.mono (by omega)) D__law_refused_8 (D__law_spoilt_2.mono (by omega)) (MkT.mono (by omega)) z_range z_list z_tuple
end

end B17
open PySem PySem.W PyProof.Rows
theorem PySem.W.Fast.tw15873122809650324272 : True := trivial
theorem PySem.W.Fast.tw3889623791362741931 : True := trivial
theorem PySem.W.Fast.tw18301766234668987418 : True := trivial
theorem PySem.W.Fast.tw9429713969841548838 : True := trivial
theorem PySem.W.Fast.tw13797613305247071779 : True := trivial
theorem PySem.W.Fast.tw4280255461396751137 : True := trivial
theorem PySem.W.Fast.tw15304669786102831971 : True := trivial
theorem PySem.W.Fast.tw5500739983689843336 : True := trivial
theorem PySem.W.Fast.tw4812353888399887644 : True := trivial
theorem PySem.W.Fast.tw5960427209701285220 : True := trivial
theorem PySem.W.Fast.tw17080358317783576185 : True := trivial
theorem PySem.W.Fast.tw7261895431573566167 : True := trivial
theorem PySem.W.Fast.tw1394613478125741989 : True := trivial
theorem PySem.W.Fast.tw16934452772097788365 : True := trivial
theorem PySem.W.Fast.tw2060171962071052240 : True := trivial
theorem PySem.W.Fast.tw14730357323974356343 : True := trivial
theorem PySem.W.Fast.tw478700930665042951 : True := trivial
theorem PySem.W.Fast.tw2677631377782042358 : True := trivial
theorem PySem.W.Fast.tw9400221123774063485 : True := trivial
theorem PySem.W.Fast.tw3089269348112919443 : True := trivial
theorem PySem.W.Fast.tw10311742479147562669 : True := trivial
theorem PySem.W.Fast.tw1553555991672383254 : True := trivial
theorem PySem.W.Fast.tw6334562930473428866 : True := trivial
theorem PySem.W.Fast.tw11177654225814867630 : True := trivial
theorem PySem.W.Fast.tw4991064142728375103 : True := trivial
theorem PySem.W.Fast.tw14499354316991356999 : True := trivial
theorem PySem.W.Fast.tw11231207262566194504 : True := trivial
theorem PySem.W.Fast.tw8570865506989230112 : True := trivial
theorem PySem.W.Fast.tw15794228768457258525 : True := trivial
theorem PySem.W.Fast.tw7465160499225396244 : True := trivial
theorem PySem.W.Fast.tw80511474760452397 : True := trivial
theorem PySem.W.Fast.tw16298271551594193203 : True := trivial
theorem PySem.W.Fast.tw11692625517061209649 : True := trivial
theorem PySem.W.Fast.tw2878664574933110852 : True := trivial
theorem PySem.W.Fast.tw12695283419666846080 : True := trivial
theorem PySem.W.Fast.tw14881344244326078291 : True := trivial
theorem PySem.W.Fast.tw17003406381690207565 : True := trivial
theorem PySem.W.Fast.tw13418958672380075956 : True := trivial
theorem PySem.W.Fast.tw1781160365896991935 : True := trivial
theorem PySem.W.Fast.tw7865048295540350688 : True := trivial
theorem PySem.W.Fast.tw5849120836639867758 : True := trivial
theorem PySem.W.Fast.tw11216570428998896939 : True := trivial
theorem PySem.W.Fast.tw11633469243677668033 : True := trivial
theorem PySem.W.Fast.tw8389576620852844072 : True := trivial
theorem PySem.W.Fast.tw4424951149873844348 : True := trivial
theorem PySem.W.Fast.tw7039137782307839368 : True := trivial
theorem PySem.W.Fast.tw5031150384374460544 : True := trivial
theorem PySem.W.Fast.tw14757533831173369908 : True := trivial
theorem PySem.W.Fast.tw6892634861368595767 : True := trivial
theorem PySem.W.Fast.tw18123267659526013344 : True := trivial
theorem PySem.W.Fast.tw13410628770770324402 : True := trivial
theorem PySem.W.Fast.tw18031129147113519385 : True := trivial
theorem PySem.W.Fast.tw16291106084382157177 : True := trivial
theorem PySem.W.Fast.tw13905911622139206686 : True := trivial
theorem PySem.W.Fast.tw13279645906939890826 : True := trivial
theorem PySem.W.Fast.tw17907463520084328692 : True := trivial
theorem PySem.W.Fast.tw5612820903387420162 : True := trivial
theorem PySem.W.Fast.tw10420680561224032597 : True := trivial
theorem PySem.W.Fast.tw7364489578531567261 : True := trivial
theorem PySem.W.Fast.tw6719537949879789515 : True := trivial
theorem PySem.W.Fast.tw4621903977823377902 : True := trivial
theorem PySem.W.Fast.tw8227985151146028424 : True := trivial
theorem PySem.W.Fast.tw17147098932374427767 : True := trivial
theorem PySem.W.Fast.tw12557753066612575234 : True := trivial
theorem PySem.W.Fast.tw16064944040227413256 : True := trivial
theorem PySem.W.Fast.tw17314791209140471943 : True := trivial
theorem PySem.W.Fast.tw17262016763688609001 : True := trivial
theorem PySem.W.Fast.tw7146152386299894550 : True := trivial
theorem PySem.W.Fast.tw13568186990894167789 : True := trivial
theorem PySem.W.Fast.tw14748673725800573741 : True := trivial
theorem PySem.W.Fast.tw12037877113238501432 : True := trivial
theorem PySem.W.Fast.tw14626345394257679304 : True := trivial
theorem PySem.W.Fast.tw13000682689327207991 : True := trivial
theorem PySem.W.Fast.tw16323297776225805868 : True := trivial
theorem PySem.W.Fast.tw15589024705742233374 : True := trivial
theorem PySem.W.Fast.tw1311820558164923176 : True := trivial
theorem PySem.W.Fast.tw13391400292349192618 : True := trivial
theorem PySem.W.Fast.tw13838525183346414794 : True := trivial
theorem PySem.W.Fast.tw6115826404011241832 : True := trivial
theorem PySem.W.Fast.tw3138767882510557676 : True := trivial
theorem PySem.W.Fast.tw8315914394150320967 : True := trivial
theorem PySem.W.Fast.tw3953297538751811621 : True := trivial
theorem PySem.W.Fast.tw10753246575241228106 : True := trivial
set_option maxRecDepth 100000 in
set_option maxHeartbeats 0 in
theorem PySem.Challenge.cw_bitfloor_k35_tables_kept_holds : PySem.Challenge.rw_bitfloor_k35_tables_kept.Holds := by
  w_on; o_law; k_head; (case hw => w_witness2)
  k_fill
  refine L2.walk_ofK (l := PySem.Challenge.rw_bitfloor_k35_tables_kept) (n := 63) (k := 9) (x := "_law_script") (CX := L2.CX0) (sp := B17.spLaw) rfl (by decide) rfl ⟨rfl, by decide, by decide⟩ (fun w h Y => PySem.W.kIn_of Y) ?F ?S ?C
  case F =>
    intro w mg fa h KX G hmg
    refine' B17.all_mk KX G hmg ?aT ?eFloorError ?eNoRow ?eNoTables ?eNoPack ?eNoFloor ?eOutOfFloor ?eNoRoom ?eNoText ?eNoSense ?eNoNet ?eNoWays ?eNoBits ?a0 ?l0 ?c0 ?k0 ?a1 ?l1 ?c1 ?k1 ?a2 ?l2 ?c2 ?k2 ?a3 ?l3 ?c3 ?k3 ?a4 ?l4 ?c4 ?k4 ?a5 ?l5 ?c5 ?k5 ?a6 ?l6 ?c6 ?k6 ?a7 ?l7 ?c7 ?k7 ?a8 ?l8 ?c8 ?k8 ?a9 ?l9 ?c9 ?k9 ?a10 ?l10 ?c10 ?k10 ?a11 ?l11 ?c11 ?k11 ?a12 ?l12 ?c12 ?k12 ?a13 ?l13 ?c13 ?k13 ?a14 ?l14 ?c14 ?k14 ?a15 ?l15 ?c15 ?k15 ?a16 ?l16 ?c16 ?k16 ?a17 ?l17 ?c17 ?k17 ?a18 ?l18 ?c18 ?k18 ?i18 ?pgT ?hdT ?poT ?saT ?mkT ?kcT ?nT_ins ?nT_tables ?nT_keeps ?nT_outs ?z_len ?z_range ?z_int ?z_str ?z_isinstance ?z_zip ?z_list ?z_tuple ?z_dict ?z_bool ?z_all ?z_max ?z_enumerate ?z_ValueError ?xcR ?xcF ?xsb ?xga ?xgt ?xcl ?xsg ?xtk ?xmo ?w_NoBits ?w_NoFloor ?w_NoNet ?w_NoPack ?w_NoRoom ?w_NoRow ?w_NoSense ?w_NoText ?w_NoWays ?w_OutOfFloor ?w_NoTables ?w_V
    (case aT => k_is)
    (case eFloorError => k_is)
    (case eNoRow => k_is)
    (case eNoTables => k_is)
    (case eNoPack => k_is)
    (case eNoFloor => k_is)
    (case eOutOfFloor => k_is)
    (case eNoRoom => k_is)
    (case eNoText => k_is)
    (case eNoSense => k_is)
    (case eNoNet => k_is)
    (case eNoWays => k_is)
    (case eNoBits => k_is)
    (case a0 => k_is)
    (case l0 => k_is)
    (case c0 => k_is)
    (case k0 => k_is)
    (case a1 => k_is)
    (case l1 => k_is)
    (case c1 => k_is)
    (case k1 => k_is)
    (case a2 => k_is)
    (case l2 => k_is)
    (case c2 => k_is)
    (case k2 => k_is)
    (case a3 => k_is)
    (case l3 => k_is)
    (case c3 => k_is)
    (case k3 => k_is)
    (case a4 => k_is)
    (case l4 => k_is)
    (case c4 => k_is)
    (case k4 => k_is)
    (case a5 => k_is)
    (case l5 => k_is)
    (case c5 => k_is)
    (case k5 => k_is)
    (case a6 => k_is)
    (case l6 => k_is)
    (case c6 => k_is)
    (case k6 => k_is)
    (case a7 => k_is)
    (case l7 => k_is)
    (case c7 => k_is)
    (case k7 => k_is)
    (case a8 => k_is)
    (case l8 => k_is)
    (case c8 => k_is)
    (case k8 => k_is)
    (case a9 => k_is)
    (case l9 => k_is)
    (case c9 => k_is)
    (case k9 => k_is)
    (case a10 => k_is)
    (case l10 => k_is)
    (case c10 => k_is)
    (case k10 => k_is)
    (case a11 => k_is)
    (case l11 => k_is)
    (case c11 => k_is)
    (case k11 => k_is)
    (case a12 => k_is)
    (case l12 => k_is)
    (case c12 => k_is)
    (case k12 => k_is)
    (case a13 => k_is)
    (case l13 => k_is)
    (case c13 => k_is)
    (case k13 => k_is)
    (case a14 => k_is)
    (case l14 => k_is)
    (case c14 => k_is)
    (case k14 => k_is)
    (case a15 => k_is)
    (case l15 => k_is)
    (case c15 => k_is)
    (case k15 => k_is)
    (case a16 => k_is)
    (case l16 => k_is)
    (case c16 => k_is)
    (case k16 => k_is)
    (case a17 => k_is)
    (case l17 => k_is)
    (case c17 => k_is)
    (case k17 => k_is)
    (case a18 => k_is)
    (case l18 => k_is)
    (case c18 => k_is)
    (case k18 => k_is)
    (case i18 => k_is)
    (case pgT => k_is)
    (case hdT => k_is)
    (case poT => k_is)
    (case saT => k_is)
    (case mkT => k_is)
    (case kcT => k_is)
    (case nT_ins => k_is)
    (case nT_tables => k_is)
    (case nT_keeps => k_is)
    (case nT_outs => k_is)
    (case z_len => k_is)
    (case z_range => k_is)
    (case z_int => k_is)
    (case z_str => k_is)
    (case z_isinstance => k_is)
    (case z_zip => k_is)
    (case z_list => k_is)
    (case z_tuple => k_is)
    (case z_dict => k_is)
    (case z_bool => k_is)
    (case z_all => k_is)
    (case z_max => k_is)
    (case z_enumerate => k_is)
    (case z_ValueError => k_is)
    (case xcR => k_exc)
    (case xcF => k_exc)
    (case xsb => k_is)
    (case xga => k_is)
    (case xgt => k_is)
    (case xcl => k_is)
    (case xsg => k_is)
    (case xtk => k_is)
    (case xmo => k_is)
    (case w_NoBits => kit_is)
    (case w_NoFloor => kit_is)
    (case w_NoNet => kit_is)
    (case w_NoPack => kit_is)
    (case w_NoRoom => kit_is)
    (case w_NoRow => kit_is)
    (case w_NoSense => kit_is)
    (case w_NoText => kit_is)
    (case w_NoWays => kit_is)
    (case w_OutOfFloor => kit_is)
    (case w_NoTables => kit_is)
    (case w_V => kit_is)
  case S => exact fun K H a ns hl hO hS => ⟨a, ns, rfl, L2.Scr.of hS hl hO, fun _ => rfl⟩
  case C => exact fun _ _ _ _ z => z
