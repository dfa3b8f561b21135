import PyProof.Rows.All
import Wide.All
import OpenK.AllK
import Wide.FinOn
import Lean
import PyProof.EqAt
import PyProof.EqKinds
import PyProof.TupleCall
import PyProof.AttrMiss
import PyProof.ConsumeWalk
import KE.KDictOf
import OpenK.KOwn
import PyProof.NsDelKeeps
import KE.KIsAll
import PyProof.Rows.SumAny
import PyProof.NeKinds
import PyProof.SeqI3
import KE.KRevIter
import KE.KSortTup
import PyProof.DictIter
import KE.KDictList
import PyProof.TupleOfGen
import KE.BitLaws
import KE.KCount
import PySem.Challenge.RW_bitfloor_k75_opened_nets
import KE.RegKIsAll
set_option Elab.async false
set_option linter.all false
set_option maxRecDepth 100000
namespace L2
open PySem PySem.Spec PyProof.Rows
abbrev Key := Sum Int Str
def keyIs : Key → Value → Bool
  | .inl k, v => Value.isInt k v
  | .inr x, v => Value.isStrOf x v
def keyH (w : World) : Key → Int
  | .inl k => hashInt k
  | .inr x => hashStr w x
theorem keyIs_shape : ∀ {k : Key} {v : Value}, keyIs k v = true → (∃ i t, k = Sum.inl i ∧ v = Value.int i t) ∨ (∃ x t, k = Sum.inr x ∧ v = Value.str x t)
  | .inl i, v, h => by
    obtain ⟨t, e⟩ := Value.isInt_shape (k := i) (v := v) h
    exact .inl ⟨i, t, rfl, e⟩
  | .inr x, v, h => by
    obtain ⟨t, e⟩ := Value.isStrOf_shape (x := x) (v := v) h
    exact .inr ⟨x, t, rfl, e⟩
theorem keyIs_int (i : Int) (t : Tok) : keyIs (.inl i) (.int i t) = true := by simp [keyIs, Value.isInt]
theorem keyIs_str (x : Str) (t : Tok) : keyIs (.inr x) (.str x t) = true := by simp [keyIs, Value.isStrOf]
theorem key_ll (a b : Int) : decide ((Sum.inl a : Key) = Sum.inl b) = (a == b) := by
  by_cases e : a = b
  · subst e; simp
  · have h : ¬ (Sum.inl a : Key) = Sum.inl b := fun q => e (Sum.inl.inj q)
    rw [decide_eq_false h]
    exact (beq_eq_false_iff_ne.mpr e).symm
theorem key_rr (a b : Str) : decide ((Sum.inr a : Key) = Sum.inr b) = decide (a = b) := by
  by_cases e : a = b
  · subst e; simp
  · have h : ¬ (Sum.inr a : Key) = Sum.inr b := fun q => e (Sum.inr.inj q)
    rw [decide_eq_false h, decide_eq_false e]
theorem key_lr (a : Int) (b : Str) : decide ((Sum.inl a : Key) = Sum.inr b) = false := decide_eq_false (fun q => nomatch q)
theorem key_rl (a : Str) (b : Int) : decide ((Sum.inr a : Key) = Sum.inl b) = false := decide_eq_false (fun q => nomatch q)
def mixKind (prog : Program) (w : World) : PySem.KeyKind prog w Key where
  is := keyIs
  hash := keyH w
  inj := fun v a b ha hb => by
    rcases keyIs_shape ha with ⟨i, t, rfl, rfl⟩ | ⟨x, t, rfl, rfl⟩
    · rcases keyIs_shape hb with ⟨j, u, rfl, e⟩ | ⟨y, u, rfl, e⟩
      · injection e with e1 _; rw [e1]
      · exact nomatch e
    · rcases keyIs_shape hb with ⟨j, u, rfl, e⟩ | ⟨y, u, rfl, e⟩
      · exact nomatch e
      · injection e with e1 _; rw [e1]
  byValue := fun k v h => by
    rcases keyIs_shape h with ⟨i, t, rfl, rfl⟩ | ⟨x, t, rfl, rfl⟩ <;> rfl
  pyHash := fun hv h => by
    rcases keyIs_shape hv with ⟨i, t, rfl, rfl⟩ | ⟨x, t, rfl, rfl⟩
    · exact wpAny_pyHash_int h
    · exact wpAny_pyHash_str h
  eqBool := fun hu hv h => by
    rcases keyIs_shape hu with ⟨i, t, rfl, rfl⟩ | ⟨x, t, rfl, rfl⟩
    · rcases keyIs_shape hv with ⟨j, u, rfl, rfl⟩ | ⟨y, u, rfl, rfl⟩
      · rw [key_ll] at h; exact wpAny_eqBool_int h
      · rw [key_lr] at h; exact SeqAt.EqAt.int_str i t y u _ _ _ _ h
    · rcases keyIs_shape hv with ⟨j, u, rfl, rfl⟩ | ⟨y, u, rfl, rfl⟩
      · rw [key_rl] at h; exact SeqAt.EqAt.str_int x t j u _ _ _ _ h
      · rw [key_rr] at h; exact wpAny_eqBool_str h
  «strs» := fun k x t v h => by
    rcases keyIs_shape h with ⟨i, u, rfl, e⟩ | ⟨y, u, rfl, e⟩
    · exact nomatch e
    · injection e with e1 _
      subst e1
      cases v <;> rfl
theorem mixKind_int (prog : Program) (w : World) (i : Int) (t : Tok) : (mixKind prog w).is (.inl i) (.int i t) = true := keyIs_int i t
theorem mixKind_str (prog : Program) (w : World) (x : Str) (t : Tok) : (mixKind prog w).is (.inr x) (.str x t) = true := keyIs_str x t
end L2
namespace L2
open PySem PySem.Spec PyProof.Rows
inductive V where
  | non | bl (b : Bool) | int (i : Int) | str (x : Str) | byt (b : Array UInt8) | flt (b : UInt64) | ref (a : Addr) | ty (n : String)
  deriving DecidableEq
def RelV : V → Value → Prop
  | .non, u => u = Value.none
  | .bl b, u => u = Value.bool b
  | .int i, u => ∃ t, u = Value.int i t
  | .str x, u => ∃ t, u = Value.str x t
  | .byt b, u => ∃ t, u = Value.bytes b t
  | .flt b, u => ∃ t, u = Value.float b t
  | .ref a, u => u = Value.ref a
  | .ty n, u => u = Value.type n
abbrev Vals : List V → List Value → Prop := Paired RelV
theorem Vals.length {xs : List V} {us : List Value} (r : Vals xs us) : xs.length = us.length := Paired.length r
theorem Vals.get : ∀ {xs : List V} {us : List Value} {i : Nat} {x : V}, Vals xs us → xs[i]? = some x → ∃ u, us[i]? = some u ∧ RelV x u
  | _, _, _, _, .nil, e => by simp at e
  | _, _, 0, _, .cons r _, e => by simp at e; subst e; exact ⟨_, rfl, r⟩
  | _, _, i + 1, x, .cons _ t, e => by
    obtain ⟨u, h1, h2⟩ := Vals.get (i := i) (x := x) t (by simpa using e)
    exact ⟨u, by simpa using h1, h2⟩
theorem Vals.set {x : V} {u : Value} (r : RelV x u) : ∀ {xs : List V} {us : List Value} (i : Nat), Vals xs us → Vals (xs.set i x) (us.set i u)
  | _, _, _, .nil => .nil
  | _, _, 0, .cons _ t => .cons r t
  | _, _, i + 1, .cons q t => .cons q (Vals.set r i t)
theorem Vals.append : ∀ {xs ys : List V} {us ws : List Value}, Vals xs us → Vals ys ws → Vals (xs ++ ys) (us ++ ws)
  | _, _, _, _, .nil, s => s
  | _, _, _, _, .cons r t, s => .cons r (Vals.append t s)
theorem Vals.take : ∀ {xs : List V} {us : List Value} (n : Nat), Vals xs us → Vals (xs.take n) (us.take n)
  | _, _, 0, _ => .nil
  | _, _, _ + 1, .nil => .nil
  | _, _, n + 1, .cons r t => .cons r (Vals.take n t)
theorem Vals.drop : ∀ {xs : List V} {us : List Value} (n : Nat), Vals xs us → Vals (xs.drop n) (us.drop n)
  | _, _, 0, r => r
  | _, _, _ + 1, .nil => .nil
  | _, _, n + 1, .cons _ t => Vals.drop n t
def RelO : Option V → Option Value → Prop
  | some v, some u => RelV v u
  | none, none => True
  | _, _ => False
def KV {κ : Type} : List (κ × V) → List (κ × Value) → Prop := Paired fun (p : κ × V) (q : κ × Value) => p.1 = q.1 ∧ RelV p.2 q.2
def kV : Key → V
  | .inl i => .int i
  | .inr x => .str x
inductive HO where
  | lst (xs : List V)
  | tup (xs : List V)
  | dK (kvs : List (Key × V)) | dT (kvs : List (List Key × V))
  | set (S : Int → Bool) (n : Nat)
  | ins (C dx : Addr) (fs : List (Str × V))
  | own (x : Addr)
  | xd (fs : List (Str × V))
  | met (f x : Addr)
  | rng (lo hi : Int)
  | frz (o : Obj) (u : HO)
  | tbl (ps : Array Value)
  | ext (φ : Heap → Prop)
abbrev Hp := Addr → Option HO
def upd (H : Hp) (a : Addr) (o : HO) : Hp := fun b => if b = a then some o else H b
theorem upd_same {H : Hp} {a : Addr} {o : HO} : upd H a o a = some o := by unfold upd; rw [if_pos rfl]
theorem upd_ne {H : Hp} {a b : Addr} {o : HO} (h : b ≠ a) : upd H a o b = H b := by unfold upd; rw [if_neg h]
theorem ne_of {H : Hp} {a b : Addr} {o u : HO} (h : H a = some o) (h' : H b = some u) (d : o ≠ u) : a ≠ b := by
  intro e; subst e; rw [h] at h'; exact d (Option.some.inj h')
theorem ne_of_none {H : Hp} {a b : Addr} {o : HO} (h : H a = some o) (h' : H b = none) : a ≠ b := by
  intro e; subst e; rw [h] at h'; cases h'
section
variable (P : Program) (w : World)
def ObjOk (H : Hp) (h : Heap) (a : Addr) : HO → Prop
  | .lst xs => xs.length ≤ sizeLine ∧ ∃ (its : List Value) (n : Nat), Vals xs its ∧ h.get? a = some { cls := .type "list", data := .seq its.toArray n }
  | .tup xs => xs.length ≤ sizeLine ∧ ∃ its : List Value, Vals xs its ∧ IsTup h a its.toArray
  | .dK kvs => kvs.length ≤ sizeLine ∧ (a == sysModules) = false ∧ ∃ vs, KV kvs vs ∧ h.DictOf (mixKind P w) a vs
  | .dT kvs => kvs.length ≤ sizeLine ∧ (a == sysModules) = false ∧ ∃ xs : List (List Key × Addr × Value),
      Paired (fun (p : List Key × V) (q : List Key × Addr × Value) => p.1 = q.1 ∧ H q.2.1 = some (.tup (p.1.map kV)) ∧ RelV p.2 q.2.2) kvs xs ∧
      ∃ o es ep, h.get? a = some o ∧ o.ExactDict ∧ o.data = .dict es ep ∧ es.toList = xs.map (entryOfKey (tupleKind (mixKind P w))) ∧ (xs.map (·.1)).Nodup
  | .set S n => h.SetOf (intKind P w) a S n
  | .ins C dx fs => H dx = some (.own a) ∧ fs.length ≤ 1000 ∧ dx ≠ a ∧ h.get? a = some (PySem.W.instObj C dx) ∧
      ∃ mA, h.Ns1 dx mA ∧ (∀ f, RelO (fs.lookup f) (mA f)) ∧ PySem.Within mA (fs.map (·.1))
  | .own _ => ∃ o, h.get? a = some o
  | .xd fs => ∃ mA, h.Ns1 a mA ∧ ∀ f, RelO (fs.lookup f) (mA f)
  | .rng lo hi => ∃ t u v, h.get? a = some { cls := .type "range", data := .fields #[.int lo t, .int hi u, .int 1 v] }
  | .frz o u => h.get? a = some o ∧ ObjOk H h a u
  | .tbl ps => h.get? a = some { cls := .none, data := .fields ps }
  | .met f x => h.get? a = some (PySem.W.methodObj (.ref f) (.ref x))
  | .ext φ => φ h ∧ (∃ o, h.get? a = some o) ∧ ∀ h1 h2 : Heap, φ h1 → (∀ o, h1.get? a = some o → h2.get? a = some o) → φ h2
def HOk (H : Hp) (h : Heap) : Prop := ∀ a o, H a = some o → ObjOk P w H h a o
end
section
variable {P : Program} {w : World} {H H' : Hp} {h h' : Heap} {a : Addr} {o : HO}
theorem ObjOk.lt (x : ObjOk P w H h a o) : a < h.objs.size := by
  cases o with
  | lst xs => obtain ⟨_, _, _, _, e⟩ := x; exact Heap.lt_size e
  | tup xs => obtain ⟨_, _, _, p⟩ := x; exact p.lt
  | dK kvs => obtain ⟨_, _, _, _, o, _, _, e, _⟩ := x; exact Heap.lt_size e
  | dT kvs => obtain ⟨_, _, _, _, o, _, _, e, _⟩ := x; exact Heap.lt_size e
  | set S n => obtain ⟨o, _, _, _, e, _⟩ := x; exact Heap.lt_size e
  | ins C dx fs => obtain ⟨_, _, _, e, _⟩ := x; exact Heap.lt_size e
  | own y => obtain ⟨_, e⟩ := x; exact Heap.lt_size e
  | xd fs => obtain ⟨_, ⟨_, _, _, e, _⟩, _⟩ := x; exact Heap.lt_size e
  | rng lo hi => obtain ⟨_, _, _, e⟩ := x; exact Heap.lt_size e
  | frz ob u => obtain ⟨e, _⟩ := x; exact Heap.lt_size e
  | tbl ps => exact Heap.lt_size (show h.get? a = some _ from x)
  | met f y => exact Heap.lt_size (show h.get? a = some _ from x)
  | ext φ => obtain ⟨_, ⟨_, e⟩, _⟩ := x; exact Heap.lt_size e
theorem Paired.mapP {α β : Type} {F G : α → β → Prop} : ∀ {l₁ : List α} {l₂ : List β}, Paired F l₁ l₂ → (∀ a b, F a b → G a b) → Paired G l₁ l₂
  | _, _, .nil, _ => .nil
  | _, _, .cons r t, f => .cons (f _ _ r) (Paired.mapP t f)
theorem ObjOk.stay (x : ObjOk P w H h a o) (k : ∀ b u, (b = a ∨ H b = some (.own a)) → h.get? b = some u → h'.get? b = some u)
    (ho : ∀ b, H b = some (.own a) → H' b = some (.own a)) (ht : ∀ b xs, H b = some (.tup xs) → H' b = some (.tup xs)) : ObjOk P w H' h' a o := by
  induction o with
  | lst xs => obtain ⟨z, its, n, r, e⟩ := x; exact ⟨z, its, n, r, k _ _ (.inl rfl) e⟩
  | tup xs => obtain ⟨z, its, r, ob, e, c⟩ := x; exact ⟨z, its, r, ob, k _ _ (.inl rfl) e, c⟩
  | dK kvs => obtain ⟨z, y, vs, r, ob, es, ep, e, c⟩ := x; exact ⟨z, y, vs, r, ob, es, ep, k _ _ (.inl rfl) e, c⟩
  | dT kvs =>
    obtain ⟨z, y, xs, r, ob, es, ep, e, c⟩ := x
    exact ⟨z, y, xs, Paired.mapP r fun p q z => ⟨z.1, ht _ _ z.2.1, z.2.2⟩, ob, es, ep, k _ _ (.inl rfl) e, c⟩
  | set S n => obtain ⟨ob, es, ep, t, e, c⟩ := x; exact ⟨ob, es, ep, t, k _ _ (.inl rfl) e, c⟩
  | ins C dx fs =>
    obtain ⟨d, z, ne, e, mA, ⟨od, es, ep, e2, c⟩, r⟩ := x
    exact ⟨ho _ d, z, ne, k _ _ (.inl rfl) e, mA, ⟨od, es, ep, k _ _ (.inr d) e2, c⟩, r⟩
  | own y => obtain ⟨ob, e⟩ := x; exact ⟨ob, k _ _ (.inl rfl) e⟩
  | xd fs => obtain ⟨mA, ⟨od, es, ep, e, c⟩, r⟩ := x; exact ⟨mA, ⟨od, es, ep, k _ _ (.inl rfl) e, c⟩, r⟩
  | rng lo hi => obtain ⟨t, u, v, e⟩ := x; exact ⟨t, u, v, k _ _ (.inl rfl) e⟩
  | frz ob u ih => obtain ⟨e, q⟩ := x; exact ⟨k _ _ (.inl rfl) e, ih q⟩
  | tbl ps =>
    have e : h.get? a = some { cls := .none, data := .fields ps } := x
    show h'.get? a = some { cls := .none, data := .fields ps }
    exact k a _ (.inl rfl) e
  | met f y =>
    have e : h.get? a = some (PySem.W.methodObj (.ref f) (.ref y)) := x
    show h'.get? a = some (PySem.W.methodObj (.ref f) (.ref y))
    exact k a _ (.inl rfl) e
  | ext φ => obtain ⟨p, ⟨o, e⟩, st⟩ := x; exact ⟨st _ _ p fun o q => k _ _ (.inl rfl) q, ⟨o, k _ _ (.inl rfl) e⟩, st⟩
theorem HOk.lt (x : HOk P w H h) (e : H a = some o) : a < h.objs.size := (x a o e).lt
theorem HOk.fresh (x : HOk P w H h) (e : h.objs.size ≤ a) : H a = none := by
  cases q : H a with
  | none => rfl
  | some u => exact absurd (Nat.lt_of_lt_of_le (x.lt q) e) (Nat.lt_irrefl _)
theorem HOk.kept (x : HOk P w H h) (k : ∀ b u, h.get? b = some u → h'.get? b = some u) : HOk P w H h' := fun a o e =>
  (x a o e).stay (fun b u _ q => k b u q) (fun _ q => q) fun _ _ q => q
theorem HOk.laid (x : HOk P w H h) (k : ∀ b u, h.get? b = some u → h'.get? b = some u) (hp : h.objs.size ≤ a) (new : ObjOk P w (upd H a o) h' a o) : HOk P w (upd H a o) h' := fun b u e => by
  have hn := x.fresh hp
  by_cases hb : b = a
  · subst hb; rw [upd_same] at e; cases e; exact new
  · rw [upd_ne hb] at e
    exact (x b u e).stay (fun c v _ q => k c v q) (fun c q => by rw [upd_ne (ne_of_none q hn)]; exact q) fun c xs q => by rw [upd_ne (ne_of_none q hn)]; exact q
end
def Rd (H : Hp) (a : Addr) (u : HO) : Prop := H a = some u ∨ ∃ o, H a = some (.frz o u)
theorem Rd.ok {P : Program} {w : World} {H : Hp} {h : Heap} {a : Addr} {u : HO} (r : Rd H a u) (x : HOk P w H h) : ObjOk P w H h a u := by
  rcases r with r | ⟨o, r⟩
  · exact x a u r
  · obtain ⟨_, q⟩ := x a _ r
    exact q
def Mut : Option HO → Prop
  | some (.lst _) => True
  | some (.dK _) => True
  | some (.dT _) => True
  | some (.set _ _) => True
  | some (.ins _ _ _) => True
  | some (.ext _) => True
  | _ => False
section
variable {P : Program} {w : World} {H : Hp} {h h' : Heap} {x e : Addr} {o' : HO}
theorem HOk.write (ok : HOk P w H h) (mu : Mut (H x)) (he : e = x ∨ H e = some (.own x)) (k : ∀ b u, b ≠ e → h.get? b = some u → h'.get? b = some u) (heo : ∃ u, h'.get? e = some u)
    (new : ObjOk P w (upd H x o') h' x o') : HOk P w (upd H x o') h' := fun b u q => by
  have nown : ∀ c y, H c = some (.own y) → c ≠ x := fun c y r z => by subst z; rw [r] at mu; exact mu
  have ntup : ∀ c xs, H c = some (.tup xs) → c ≠ x := fun c xs r z => by subst z; rw [r] at mu; exact mu
  by_cases hb : b = x
  · subst hb; rw [upd_same] at q; cases q; exact new
  · rw [upd_ne hb] at q
    by_cases hbe : b = e
    · have q' : H b = some (.own x) := by
        rcases he with z | z
        · exact absurd (hbe.trans z) hb
        · rw [hbe]; exact z
      rw [q] at q'; cases q'
      obtain ⟨v, hv⟩ := heo
      exact ⟨v, by rw [hbe]; exact hv⟩
    · refine (ok b u q).stay (fun c v hc r => k c v ?_ r) (fun c r => by rw [upd_ne (nown c b r)]; exact r) fun c xs r => by rw [upd_ne (ntup c xs r)]; exact r
      rcases hc with rfl | hc
      · exact hbe
      · rintro rfl
        rcases he with z | z
        · exact nown c b hc z
        · rw [hc] at z; cases z; exact hb rfl
end
structure Un (fs ex : List Addr) (H H' : Hp) (h h' : Heap) : Prop where
  keep : ∀ b o, h.get? b = some o → H b = none → b ∉ fs → b ∉ ex → h'.get? b = some o
  slot : ∀ b o, h.get? b = some o → H b = none → b ∈ fs → b ∉ ex → ∃ sl, h'.get? b = some { o with slots := sl }
  free : ∀ b o, h.get? b = some o → H b = none → b ∉ ex → H' b = none
  there : ∀ b o, h.get? b = some o → b ∉ ex → ∃ o', h'.get? b = some o'
  tups : ∀ b xs, H b = some (.tup xs) → H' b = some (.tup xs)
  frzs : ∀ b o u, H b = some (.frz o u) → H' b = some (.frz o u)
  tbls : ∀ b ps, H b = some (.tbl ps) → ∃ more, H' b = some (.tbl (ps ++ more))
section
variable {fs fs' ex ex' : List Addr} {H H1 H2 : Hp} {h h1 h2 h' : Heap} {a x e : Addr} {o : HO}
theorem Un.any (u : Un fs ex H H1 h h1) {b : Addr} {ob : Obj} (q : h.get? b = some ob) (n : H b = none) (hx : b ∉ ex) : ∃ sl, h1.get? b = some { ob with slots := sl } := by
  by_cases hb : b ∈ fs
  · exact u.slot b ob q n hb hx
  · exact ⟨ob.slots, u.keep b ob q n hb hx⟩
theorem Un.kept (k : ∀ b u, h.get? b = some u → h'.get? b = some u) : Un fs ex H H h h' :=
  ⟨fun b ob q _ _ _ => k b ob q, fun b ob q _ _ _ => ⟨ob.slots, k b ob q⟩, fun _ _ _ n _ => n, fun b ob q _ => ⟨ob, k b ob q⟩, fun _ _ q => q, fun _ _ _ q => q, fun _ ps q => ⟨#[], by rw [q]; simp⟩⟩
theorem Un.refl : Un fs ex H H h h := Un.kept fun _ _ q => q
theorem Un.laid (k : ∀ b u, h.get? b = some u → h'.get? b = some u) (hp : h.objs.size ≤ a) (hn : H a = none) : Un fs ex H (upd H a o) h h' where
  keep := fun b u q _ _ _ => k b u q
  slot := fun b u q _ _ _ => ⟨u.slots, k b u q⟩
  free := fun b u q n _ => by rw [upd_ne (Nat.ne_of_lt (Nat.lt_of_lt_of_le (Heap.lt_size q) hp))]; exact n
  there := fun b u q _ => ⟨u, k b u q⟩
  tups := fun b xs q => by rw [upd_ne (ne_of_none q hn)]; exact q
  frzs := fun b u xs q => by rw [upd_ne (ne_of_none q hn)]; exact q
  tbls := fun b ps q => ⟨#[], by rw [upd_ne (ne_of_none q hn), q]; simp⟩
theorem Un.write (mu : Mut (H x)) (he : e = x ∨ H e = some (.own x)) (k : ∀ b u, b ≠ e → h.get? b = some u → h'.get? b = some u) (heo : ∃ u, h'.get? e = some u) : Un fs ex H (upd H x o) h h' := by
  have hx : ∀ b, H b = none → b ≠ x := fun b n z => by subst z; rw [n] at mu; exact mu
  have hb : ∀ b, H b = none → b ≠ e := fun b n z => by
    subst z
    rcases he with r | r
    · exact hx b n r
    · rw [n] at r; cases r
  have hm : ∀ b u, H b = some u → ¬ Mut (some u) → b ≠ x := fun b u q nm z => by subst z; rw [q] at mu; exact nm mu
  refine ⟨fun b u q n _ _ => k b u (hb b n) q, fun b u q n _ _ => ⟨u.slots, k b u (hb b n) q⟩, fun b u q n _ => by rw [upd_ne (hx b n)]; exact n, fun b u q _ => ?_,
    fun b xs q => by rw [upd_ne (hm b _ q fun z => z)]; exact q, fun b u xs q => by rw [upd_ne (hm b _ q fun z => z)]; exact q, fun b ps q => ⟨#[], by rw [upd_ne (hm b _ q fun z => z), q]; simp⟩⟩
  by_cases hbe : b = e
  · subst hbe; exact heo
  · exact ⟨u, k b u hbe q⟩
end
def trk (h : Heap) (H : Hp) : List Addr := (List.range h.objs.size).filter fun a => (H a).isSome
def hidT (h : Heap) (H : Hp) : Heap := PySem.W.hideAll h (trk h H)
theorem hidT_size (h : Heap) (H : Hp) : (hidT h H).objs.size = h.objs.size := PySem.W.hideAll_size _ _
theorem hidT_get {h : Heap} {H : Hp} {b : Addr} {o : Obj} (e : h.get? b = some o) (n : H b = none) : (hidT h H).get? b = some o :=
  PySem.W.hideAll_get _ e fun hm => by
    have q : (H b).isSome = true := (List.mem_filter.mp hm).2
    rw [n] at q; simp at q
theorem of_hidT {h : Heap} {H : Hp} {b : Addr} {o : Obj} (e : (hidT h H).get? b = some o) : h.get? b = some o ∧ H b = none := by
  have e' : h.get? b = some o := PySem.W.of_hideAll (trk h H) e
  refine ⟨e', ?_⟩
  cases q : H b with
  | none => rfl
  | some x =>
    have hm : b ∈ trk h H := List.mem_filter.mpr ⟨List.mem_range.mpr (Heap.lt_size e'), by simp [q]⟩
    have z : (hidT h H).get? b = none := PySem.W.hideAll_none (trk h H) hm
    rw [z] at e; cases e
def allNews (g h : Heap) (L : Addr) : List (Addr × Obj) := (List.range h.objs.size).filterMap fun a => if a = L ∨ (g.get? a).isSome = true then none else (h.get? a).map fun o => (a, o)
def rest (g h : Heap) (L d : Addr) : List (Addr × Obj) := (allNews g h L).filter fun p => decide (p.1 ≠ d)
end L2
namespace L2
open PySem PySem.Spec PyProof.Rows
structure Mod (K : PySem.W.Frag) (mg : Str → Option Value) (base : Heap) : Prop where
  kin : K.In base
  glob : base.Ns mainGlobals mg
  blt : ∃ mb, base.Ns builtinsNs mb ∧ ∀ x : Str, x ≠ "__name__" → mb x = bootBuiltins x
  nolimit : base.NoLimit
structure Cx where
  prog : Program
  w : World
  K : PySem.W.Frag
  mg : Str → Option Value
  base : Heap
  A : Around
  N : List Str
  s₀ : Shared
  H₀ : Hp
  env : Env
  outer : List Env
  stack : List Env
  ex : List Addr
  fn : Str → Bool
  calm : Bool
  pn : List (Addr × Obj)
  xe : Value → Shared → Prop
def frs (l : List Env) : List Addr := l.filterMap (·.frame)
abbrev Cx.fs (X : Cx) : List Addr := frs X.outer
def Vis (sc : Scope) (x : Str) : Prop := sc.names.lookup x = some .local ∨ sc.names.lookup x = some .cell ∨ sc.names.lookup x = some .free
def Loc (sc : Scope) (x : Str) : Prop := sc.names.lookup x = some .local ∨ sc.names.lookup x = some .cell
def Look (env : Env) (h : Heap) (m : Str → Option Value) (x : Str) (u : Value) : Prop :=
  (env.kindOf x = some .local ∧ m x = some u) ∨ ((env.kindOf x = some .cell ∨ env.kindOf x = some .free) ∧ ∃ c, env.cells.lookup x = some c ∧ h.IsCell c (some u))
structure Cx.Ok (X : Cx) : Prop where
  mod : Mod X.K X.mg X.base
  kind : X.env.scope.kind = .function
  glob : X.env.globals = mainGlobals
  blt : X.env.builtins = builtinsNs
  above : X.s₀.heap.objs.size ≤ X.env.locals
  inj : ∀ x y c, X.env.cells.lookup x = some c → X.env.cells.lookup y = some c → x = y
  has : ∀ x, (X.env.kindOf x = some .cell ∨ X.env.kindOf x = some .free) → ∃ c, X.env.cells.lookup x = some c
  cab : ∀ x c, X.fn x = true → X.env.cells.lookup x = some c → X.s₀.heap.objs.size ≤ c
  hd : X.calm = true → X.A.handled = none
  frames : X.A.frames = some X.stack
  stk : X.stack = X.outer ∨ (X.stack = X.env :: X.outer ∧ X.env.frame = some X.env.locals)
  exf : ∀ b ∈ X.ex, b ≠ X.env.locals ∧ ∀ x c, X.env.cells.lookup x = some c → c ≠ b
  bs : ∀ b o, X.base.get? b = some o → X.s₀.heap.get? b = some o ∧ X.H₀ b = none
  bsz : X.base.objs.size ≤ X.s₀.heap.objs.size
  noex : ∀ b o, X.base.get? b = some o → b ∉ X.ex
  exfs : ∀ b ∈ X.ex, b ∉ X.fs
  funs : X.s₀.heap.FunFrames X.base X.outer
  frf : ∀ b ∈ X.fs, X.H₀ b = none
structure Inv (X : Cx) (pins : List (Addr × Obj)) (σ : List (Option V)) (H : Hp) (s : Shared) : Prop where
  ok : X.Ok
  os : s.os = X.s₀.os
  bare : AllBare s.gens
  base : Un X.fs X.ex X.H₀ H X.s₀.heap s.heap
  loc : ∃ m, s.heap.Ns X.env.locals m ∧ ∀ (i : Nat) (x : Str) (v : V), X.N[i]? = some x → σ[i]? = some (some v) → Vis X.env.scope x → ∃ u, RelV v u ∧ Look X.env s.heap m x u
  cell : ∀ x c, X.env.cells.lookup x = some c → ∃ v, s.heap.IsCell c v
  free : H X.env.locals = none
  freeC : ∀ x c, X.env.cells.lookup x = some c → H c = none
  pin : ∀ p ∈ X.pn ++ pins, s.heap.get? p.1 = some p.2 ∧ H p.1 = none ∧ p.1 ≠ X.env.locals ∧ p.1 ∉ X.fs ∧ ∀ v, p.2.data ≠ .cell v
  hok : HOk X.prog X.w H s.heap
  len : σ.length = X.N.length
section
variable {X : Cx} {pins : List (Addr × Obj)} {σ : List (Option V)} {H H' : Hp} {s : Shared} {h' : Heap}
theorem Cx.Ok.nofr (ok : X.Ok) {b : Addr} {o : Obj} (e : X.base.get? b = some o) : b ∉ X.fs := fun hb => by
  have := (ok.funs.mem hb).1
  rw [e] at this; cases this
theorem Inv.bs (I : Inv X pins σ H s) : ∀ b o, X.base.get? b = some o → s.heap.get? b = some o ∧ H b = none := fun b o e =>
  ⟨I.base.keep b o (I.ok.bs b o e).1 (I.ok.bs b o e).2 (I.ok.nofr e) (I.ok.noex b o e), I.base.free b o (I.ok.bs b o e).1 (I.ok.bs b o e).2 (I.ok.noex b o e)⟩
theorem Inv.bk (I : Inv X pins σ H s) : ∀ b o, X.base.get? b = some o → s.heap.get? b = some o := fun b o e => (I.bs b o e).1
theorem Inv.mod (I : Inv X pins σ H s) : Mod X.K X.mg X.base := I.ok.mod
theorem Inv.kIn (I : Inv X pins σ H s) : X.K.In s.heap := I.ok.mod.kin.keeps I.bk
theorem Inv.lt (I : Inv X pins σ H s) : X.env.locals < s.heap.objs.size := let ⟨_, hn, _⟩ := I.loc; hn.lt
theorem Inv.sz (I : Inv X pins σ H s) : X.s₀.heap.objs.size ≤ s.heap.objs.size := Nat.le_trans I.ok.above (Nat.le_of_lt I.lt)
theorem Inv.nofs (I : Inv X pins σ H s) {a : Addr} (h : s.heap.objs.size ≤ a) : a ∉ X.fs := fun hb => by
  obtain ⟨_, o, ho, _⟩ := I.ok.funs.mem hb
  exact absurd (Nat.lt_of_lt_of_le (Heap.lt_size ho) (Nat.le_trans I.sz h)) (Nat.lt_irrefl _)
theorem Inv.cne (I : Inv X pins σ H s) : ∀ x c, X.env.cells.lookup x = some c → c ≠ X.env.locals := fun x c e z => by
  obtain ⟨v, o, ho, hd⟩ := I.cell x c e
  obtain ⟨m, ⟨o', es, ep, ho', hd', _⟩, _⟩ := I.loc
  rw [z, ho'] at ho; cases ho; rw [hd'] at hd; cases hd
theorem Inv.funs (I : Inv X pins σ H s) : s.heap.FunFrames X.base X.outer := by
  have all : ∀ (l : List Env), (∀ b ∈ frs l, b ∈ X.fs) → X.s₀.heap.FunFrames X.base l → s.heap.FunFrames X.base l := by
    intro l
    induction l with
    | nil => intro _ _; trivial
    | cons env r ih =>
      intro hs hl
      obtain ⟨hk, ⟨L, o, hf, hn, ho, hd⟩, hr⟩ := hl
      have hL : L ∈ X.fs := hs L (by unfold frs; rw [List.filterMap_cons, hf]; exact List.mem_cons_self)
      obtain ⟨sl, e⟩ := I.base.slot L o ho (I.ok.frf L hL) hL fun z => I.ok.exfs L z hL
      exact ⟨hk, ⟨L, _, hf, hn, e, hd⟩, ih (fun b hb => hs b (by unfold frs; rw [List.filterMap_cons, hf]; exact List.mem_cons_of_mem _ hb)) hr⟩
  exact all X.outer (fun _ hb => hb) I.ok.funs
theorem Inv.stack (I : Inv X pins σ H s) : s.heap.FunFrames X.base X.stack := by
  rcases I.ok.stk with e | ⟨e, hf⟩
  · rw [e]; exact I.funs
  · rw [e]
    obtain ⟨m, hn, _⟩ := I.loc
    refine .cons (by rw [I.ok.kind]; decide) hf hn ?_ I.funs
    exact Heap.get?_none_of_le (Nat.le_trans I.ok.bsz I.ok.above)
theorem Inv.stkSub (I : Inv X pins σ H s) : ∀ b ∈ frs X.stack, b ∈ X.env.locals :: X.fs := fun b hb => by
  rcases I.ok.stk with e | ⟨e, hf⟩
  · rw [e] at hb; exact List.mem_cons_of_mem _ hb
  · rw [e] at hb
    unfold frs at hb
    rw [List.filterMap_cons, hf] at hb
    exact hb
theorem Inv.stkFree (I : Inv X pins σ H s) : ∀ b ∈ frs X.stack, H b = none := fun b hb => by
  rcases List.mem_cons.mp (I.stkSub b hb) with e | hb
  · rw [e]; exact I.free
  · obtain ⟨_, o, ho, _⟩ := I.ok.funs.mem hb
    exact I.base.free b o ho (I.ok.frf b hb) fun z => I.ok.exfs b z hb
theorem Inv.step {g' : Array GenState} {t' : Nat} {d' : Drawn} {ch : List Addr} (I : Inv X pins σ H s)
    (hch : ∀ b ∈ ch, (b ∈ X.ex ∨ X.s₀.heap.objs.size ≤ b) ∧ b ≠ X.env.locals ∧ (∀ x c, X.env.cells.lookup x = some c → c ≠ b) ∧ ∀ p ∈ X.pn ++ pins, p.1 ≠ b)
    (keep : ∀ b o, b ≠ X.env.locals → b ∉ X.fs → b ∉ ch → s.heap.get? b = some o → H b = none → h'.get? b = some o)
    (slot : ∀ b o, b ≠ X.env.locals → b ∈ X.fs → b ∉ ch → s.heap.get? b = some o → H b = none → ∃ sl, h'.get? b = some { o with slots := sl }) (free : ∀ b o, b ∉ ch → s.heap.get? b = some o → H b = none → H' b = none)
    (there : ∀ b o, b ∉ ch → s.heap.get? b = some o → ∃ o', h'.get? b = some o')
    (tups : ∀ b xs, H b = some (.tup xs) → H' b = some (.tup xs)) (frzs : ∀ b o u, H b = some (.frz o u) → H' b = some (.frz o u)) (tbls : ∀ b ps, H b = some (.tbl ps) → ∃ more, H' b = some (.tbl (ps ++ more)))
    (ns : ∀ m, s.heap.Ns X.env.locals m → h'.Ns X.env.locals m) (hok : HOk X.prog X.w H' h') (hg : AllBare g') :
    Inv X pins σ H' { s with heap := h', gens := g', drawn := d', toks := t' } := by
  have neL : ∀ b o, X.s₀.heap.get? b = some o → b ≠ X.env.locals := fun b o e => Nat.ne_of_lt (Nat.lt_of_lt_of_le (Heap.lt_size e) I.ok.above)
  have neC : ∀ b o, X.s₀.heap.get? b = some o → b ∉ X.ex → b ∉ ch := fun b o e hx hb => by
    rcases (hch b hb).1 with z | z
    · exact hx z
    · exact absurd (Nat.lt_of_lt_of_le (Heap.lt_size e) z) (Nat.lt_irrefl _)
  have cellK : ∀ x c, X.env.cells.lookup x = some c → ∀ v, s.heap.IsCell c v → h'.IsCell c v := fun x c e v ⟨o, ho, hd⟩ => by
    have nch : c ∉ ch := fun z => (hch c z).2.2.1 x c e rfl
    by_cases hc : c ∈ X.fs
    · obtain ⟨sl, q⟩ := slot c o (I.cne x c e) hc nch ho (I.freeC x c e)
      exact ⟨_, q, hd⟩
    · exact ⟨o, keep c o (I.cne x c e) hc nch ho (I.freeC x c e), hd⟩
  refine ⟨I.ok, I.os, hg, ⟨fun b o e n hb hx => ?_, fun b o e n hb hx => ?_, fun b o e n hx => ?_, fun b o e hx => ?_, fun b xs e => tups b xs (I.base.tups b xs e), fun b o xs e => frzs b o xs (I.base.frzs b o xs e), fun b ps e => ?_⟩, ?_, fun x c e => ?_, ?_, fun x c e => ?_, fun p hp => ?_, hok, I.len⟩
  · exact keep b o (neL b o e) hb (neC b o e hx) (I.base.keep b o e n hb hx) (I.base.free b o e n hx)
  · obtain ⟨sl, e1⟩ := I.base.slot b o e n hb hx
    obtain ⟨sl', e2⟩ := slot b _ (neL b o e) hb (neC b o e hx) e1 (I.base.free b o e n hx)
    exact ⟨sl', e2⟩
  · obtain ⟨o', e1⟩ := I.base.there b o e hx
    exact free b o' (neC b o e hx) e1 (I.base.free b o e n hx)
  · obtain ⟨o', e1⟩ := I.base.there b o e hx
    exact there b o' (neC b o e hx) e1
  · obtain ⟨m1, e1⟩ := I.base.tbls b ps e
    obtain ⟨m2, e2⟩ := tbls b _ e1
    exact ⟨m1 ++ m2, by rw [e2, Array.append_assoc]⟩
  · obtain ⟨m, hn, hl⟩ := I.loc
    refine ⟨m, ns m hn, fun i x v e1 e2 e3 => ?_⟩
    obtain ⟨u, r, l⟩ := hl i x v e1 e2 e3
    refine ⟨u, r, ?_⟩
    rcases l with l | ⟨k, c, e, z⟩
    · exact .inl l
    · exact .inr ⟨k, c, e, cellK x c e _ z⟩
  · obtain ⟨v, z⟩ := I.cell x c e
    exact ⟨v, cellK x c e v z⟩
  · obtain ⟨m, ⟨o, _, _, ho, _⟩, _⟩ := I.loc
    exact free _ o (fun z => (hch _ z).2.1 rfl) ho I.free
  · obtain ⟨v, o, ho, hd⟩ := I.cell x c e
    exact free c o (fun z => (hch c z).2.2.1 x c e rfl) ho (I.freeC x c e)
  · obtain ⟨e, n, ne, nf, d⟩ := I.pin p hp
    have nch : p.1 ∉ ch := fun z => (hch p.1 z).2.2.2 p hp rfl
    exact ⟨keep p.1 p.2 ne nf nch e n, free p.1 p.2 nch e n, ne, nf, d⟩
theorem Inv.un {t' : Nat} (I : Inv X pins σ H s) (u : Un X.fs [] H H' s.heap h') (hok : HOk X.prog X.w H' h') : Inv X pins σ H' { s with heap := h', toks := t' } := by
  obtain ⟨m, ⟨o, es, ep, ho, r⟩, _⟩ := id I.loc
  obtain ⟨sl, hL⟩ := u.any ho I.free (by simp)
  exact I.step (g' := s.gens) (d' := s.drawn) (ch := []) (fun _ z => nomatch z) (fun b o _ hb _ e n => u.keep b o e n hb (by simp)) (fun b o _ hb _ e n => u.slot b o e n hb (by simp)) (fun b o _ e n => u.free b o e n (by simp)) (fun b o _ e => u.there b o e (by simp)) u.tups u.frzs u.tbls (fun m' hm => by
    obtain ⟨o', es', ep', ho', r'⟩ := hm
    rw [ho] at ho'; cases ho'
    exact ⟨_, es', ep', hL, r'⟩) hok I.bare
theorem Inv.call {g' : Array GenState} {t' : Nat} {d' : Drawn} {ch : List Addr} (I : Inv X pins σ H s) (u : Un (frs X.stack) ch H H' s.heap h') (hok : HOk X.prog X.w H' h') (hg : AllBare g')
    (hch : ∀ b ∈ ch, (b ∈ X.ex ∨ X.s₀.heap.objs.size ≤ b) ∧ b ≠ X.env.locals ∧ (∀ x c, X.env.cells.lookup x = some c → c ≠ b) ∧ ∀ p ∈ X.pn ++ pins, p.1 ≠ b) :
    Inv X pins σ H' { s with heap := h', gens := g', drawn := d', toks := t' } := by
  obtain ⟨m, ⟨o, es, ep, ho, r⟩, _⟩ := id I.loc
  obtain ⟨sl, hL⟩ := u.any ho I.free fun z => (hch _ z).2.1 rfl
  exact I.step (ch := ch) hch (fun b o hL hb hc e n => u.keep b o e n (fun z => (List.mem_cons.mp (I.stkSub b z)).elim hL hb) hc) (fun b o _ _ hc e n => u.any e n hc) (fun b o hc e n => u.free b o e n hc) (fun b o hc e => u.there b o e hc) u.tups u.frzs u.tbls (fun m' hm => by
    obtain ⟨o', es', ep', ho', r'⟩ := hm
    rw [ho] at ho'; cases ho'
    exact ⟨_, es', ep', hL, r'⟩) hok hg
theorem Inv.turned {t' : Nat} {it : Addr} (I : Inv X pins σ H s) (k : ∀ b o, b ≠ it → s.heap.get? b = some o → h'.get? b = some o) (hn : H it = none) (hL : it ≠ X.env.locals)
    (h1 : it ∈ X.ex ∨ X.s₀.heap.objs.size ≤ it) (h2 : ∀ x c, X.env.cells.lookup x = some c → c ≠ it) (h3 : ∀ p ∈ X.pn ++ pins, p.1 ≠ it) : Inv X pins σ H { s with heap := h', toks := t' } := by
  have nit : ∀ b u, H b = some u → b ≠ it := fun b u e z => by rw [z, hn] at e; cases e
  refine I.step (g' := s.gens) (d' := s.drawn) (ch := [it]) (fun b hb => ?_) (fun b o _ _ hc e _ => k b o (fun z => hc (by simp [z])) e) (fun b o _ _ hc e _ => ⟨o.slots, k b o (fun z => hc (by simp [z])) e⟩) (fun _ _ _ _ n => n)
    (fun b o hc e => ⟨o, k b o (fun z => hc (by simp [z])) e⟩) (fun _ _ e => e) (fun _ _ _ e => e) (fun b ps e => ⟨#[], by rw [e]; simp⟩) (fun m hm => ?_) (fun b u e => ?_) I.bare
  · have e : b = it := by simpa using hb
    subst e
    exact ⟨h1, hL, h2, h3⟩
  · obtain ⟨o, es, ep, ho, r⟩ := hm
    exact ⟨o, es, ep, k _ o (Ne.symm hL) ho, r⟩
  · refine (I.hok b u e).stay (fun c v hc q => k c v ?_ q) (fun _ q => q) fun _ _ q => q
    rcases hc with z | z
    · rw [z]; exact nit b u e
    · exact nit c _ z
theorem Inv.tok (I : Inv X pins σ H s) (t : Nat) : Inv X pins σ H { s with toks := t } := I.un (h' := s.heap) (t' := t) Un.refl I.hok
theorem Inv.kept {t' : Nat} (I : Inv X pins σ H s) (k : ∀ b u, s.heap.get? b = some u → h'.get? b = some u) : Inv X pins σ H { s with heap := h', toks := t' } := I.un (Un.kept k) (I.hok.kept k)
theorem Inv.laid {a : Addr} {o : HO} {t' : Nat} (I : Inv X pins σ H s) (k : ∀ b u, s.heap.get? b = some u → h'.get? b = some u) (hp : s.heap.objs.size ≤ a) (new : ObjOk X.prog X.w (upd H a o) h' a o) :
    Inv X pins σ (upd H a o) { s with heap := h', toks := t' } := I.un (Un.laid k hp (I.hok.fresh hp)) (I.hok.laid k hp new)
theorem Inv.write {x e : Addr} {o : HO} {t' : Nat} (I : Inv X pins σ H s) (mu : Mut (H x)) (he : e = x ∨ H e = some (.own x)) (k : ∀ b u, b ≠ e → s.heap.get? b = some u → h'.get? b = some u) (heo : ∃ u, h'.get? e = some u)
    (new : ObjOk X.prog X.w (upd H x o) h' x o) : Inv X pins σ (upd H x o) { s with heap := h', toks := t' } := I.un (Un.write mu he k heo) (I.hok.write mu he k heo new)
theorem Inv.pins_of {pins' : List (Addr × Obj)} (I : Inv X pins σ H s) (h : ∀ p ∈ pins', s.heap.get? p.1 = some p.2 ∧ H p.1 = none ∧ p.1 ≠ X.env.locals ∧ p.1 ∉ X.fs ∧ ∀ v, p.2.data ≠ .cell v) : Inv X pins' σ H s :=
  ⟨I.ok, I.os, I.bare, I.base, I.loc, I.cell, I.free, I.freeC, fun p hp => (List.mem_append.mp hp).elim (fun z => I.pin p (List.mem_append_left _ z)) (h p), I.hok, I.len⟩
theorem nodup_ix {N : List Str} (hN : N.Nodup) {i j : Nat} {x : Str} (a : N[i]? = some x) (b : N[j]? = some x) : i = j := by
  obtain ⟨h1, e1⟩ := List.getElem?_eq_some_iff.mp a
  obtain ⟨h2, e2⟩ := List.getElem?_eq_some_iff.mp b
  exact (List.getElem_inj hN).mp (e1.trans e2.symm)
theorem store_ok2 {M : Model} {A : Around} {E : Value → Shared → Prop} {i : Nat} {x : Str} {v : V} {u : Value} {Q : Unit → Shared → Prop} (I : Inv X pins σ H s) (hN : X.N.Nodup) (hi : X.N[i]? = some x) (hx : Loc X.env.scope x) (r : RelV v u)
    (h : ∀ s', Inv X pins (σ.set i (some v)) H s' → (∃ a, Heap.SameBut a s.heap s'.heap ∧ (a = X.env.locals ∨ X.env.cells.lookup x = some a)) → Q () s') (hf : X.fn x = true ∨ X.env.scope.names.lookup x = some .local := by first | exact .inl rfl | exact .inr rfl | assumption) : wpAny M A (storeName X.env x u) Q E s := by
  obtain ⟨m, hn, hl⟩ := id I.loc
  have hcls : (X.env.scope.kind == .class || (X.env.scope.kind == .module && X.env.locals != X.env.globals)) = false := by rw [I.ok.kind]; rfl
  have hiσ : i < σ.length := by rw [I.len]; exact (List.getElem?_eq_some_iff.mp hi).1
  have cne := I.cne
  have tracked : ∀ {a : Addr} {h' : Heap}, (∃ o, s.heap.get? a = some o ∧ H a = none) → Heap.SameBut a s.heap h' → HOk X.prog X.w H h' := fun {a h'} ha hs b ob e => by
    obtain ⟨_, _, hfree⟩ := ha
    refine (I.hok b ob e).stay (fun c w' hc q => (hs.2 c ?_).trans q) (fun _ q => q) fun _ _ q => q
    rintro rfl
    rcases hc with rfl | hc
    · rw [hfree] at e; cases e
    · rw [hfree] at hc; cases hc
  rcases hx with hk | hk
  · refine wpAny_storeName_local hk hn (fun h' hn' hs => ?_) hcls
    obtain ⟨oL, _, _, hoL, _⟩ := id hn
    refine h _ ⟨I.ok, I.os, I.bare, ⟨fun b o e n hb hx => ?_, fun b o e n hb hx => ?_, I.base.free, fun b o e hx => ?_, I.base.tups, I.base.frzs, I.base.tbls⟩, ⟨_, hn', fun j y v' e1 e2 e3 => ?_⟩, fun y c e => ?_, I.free, I.freeC, fun p hp => ?_, tracked ⟨oL, hoL, I.free⟩ hs, by simpa using I.len⟩ ⟨_, hs, .inl rfl⟩
    · exact (hs.2 b (Nat.ne_of_lt (Nat.lt_of_lt_of_le (Heap.lt_size e) I.ok.above))).trans (I.base.keep b o e n hb hx)
    · obtain ⟨sl, e1⟩ := I.base.slot b o e n hb hx
      exact ⟨sl, (hs.2 b (Nat.ne_of_lt (Nat.lt_of_lt_of_le (Heap.lt_size e) I.ok.above))).trans e1⟩
    · obtain ⟨o', e1⟩ := I.base.there b o e hx
      exact ⟨o', (hs.2 b (Nat.ne_of_lt (Nat.lt_of_lt_of_le (Heap.lt_size e) I.ok.above))).trans e1⟩
    · by_cases hj : j = i
      · subst hj
        rw [hi] at e1; cases e1
        rw [List.getElem?_set_self hiσ] at e2
        cases e2
        exact ⟨u, r, .inl ⟨hk, by simp⟩⟩
      · rw [List.getElem?_set_ne (Ne.symm hj)] at e2
        obtain ⟨u', r', q⟩ := hl j y v' e1 e2 e3
        refine ⟨u', r', ?_⟩
        rcases q with ⟨k, e⟩ | ⟨k, c, e, z⟩
        · refine .inl ⟨k, ?_⟩
          have : y ≠ x := fun e => hj (nodup_ix hN e1 (e ▸ hi))
          simp [this, e]
        · exact .inr ⟨k, c, e, z.sameBut hs (cne y c e)⟩
    · obtain ⟨w', z⟩ := I.cell y c e
      exact ⟨w', z.sameBut hs (cne y c e)⟩
    · obtain ⟨e, n, ne, nf, d⟩ := I.pin p hp
      exact ⟨(hs.2 p.1 ne).trans e, n, ne, nf, d⟩
  · have hfn : X.fn x = true := by
      rcases hf with z | z
      · exact z
      · rw [z] at hk; cases hk
    obtain ⟨c, hc⟩ := I.ok.has x (.inl hk)
    obtain ⟨w', z⟩ := I.cell x c hc
    refine wpAny_storeName_cell I.ok.kind hk hc z (fun h' hc' hs => ?_)
    obtain ⟨oc, hoc, hocd⟩ := id z
    refine h { s with heap := h' } ⟨I.ok, I.os, I.bare, ⟨fun b o e n hb hx => ?_, fun b o e n hb hx => ?_, I.base.free, fun b o e hx => ?_, I.base.tups, I.base.frzs, I.base.tbls⟩, ⟨m, hn.sameBut hs (Ne.symm (cne x c hc)), fun j y v' e1 e2 e3 => ?_⟩, fun y c' e => ?_, I.free, I.freeC, fun p hp => ?_, tracked ⟨oc, hoc, I.freeC x c hc⟩ hs, by simpa using I.len⟩ ⟨c, hs, .inr hc⟩
    · exact (hs.2 b (Nat.ne_of_lt (Nat.lt_of_lt_of_le (Heap.lt_size e) (I.ok.cab x c hfn hc)))).trans (I.base.keep b o e n hb hx)
    · obtain ⟨sl, e1⟩ := I.base.slot b o e n hb hx
      exact ⟨sl, (hs.2 b (Nat.ne_of_lt (Nat.lt_of_lt_of_le (Heap.lt_size e) (I.ok.cab x c hfn hc)))).trans e1⟩
    · obtain ⟨o', e1⟩ := I.base.there b o e hx
      exact ⟨o', (hs.2 b (Nat.ne_of_lt (Nat.lt_of_lt_of_le (Heap.lt_size e) (I.ok.cab x c hfn hc)))).trans e1⟩
    · by_cases hj : j = i
      · subst hj
        rw [hi] at e1; cases e1
        rw [List.getElem?_set_self hiσ] at e2
        cases e2
        exact ⟨u, r, .inr ⟨.inl hk, c, hc, hc'⟩⟩
      · rw [List.getElem?_set_ne (Ne.symm hj)] at e2
        obtain ⟨u', r', q⟩ := hl j y v' e1 e2 e3
        refine ⟨u', r', ?_⟩
        rcases q with q | ⟨k, c', e, z'⟩
        · exact .inl q
        · refine .inr ⟨k, c', e, z'.sameBut hs ?_⟩
          rintro rfl
          exact hj (nodup_ix hN e1 (I.ok.inj _ _ _ e hc ▸ hi))
    · by_cases hcc : c' = c
      · subst hcc; exact ⟨_, hc'⟩
      · obtain ⟨w2, z2⟩ := I.cell y c' e
        exact ⟨w2, z2.sameBut hs hcc⟩
    · obtain ⟨e, n, ne, nf, d⟩ := I.pin p hp
      refine ⟨(hs.2 p.1 ?_).trans e, n, ne, nf, d⟩
      intro q
      rw [q, hoc] at e
      have q' : oc = p.2 := Option.some.inj e
      exact d w' (by rw [← q']; exact hocd)
theorem store_ok {M : Model} {A : Around} {E : Value → Shared → Prop} {i : Nat} {x : Str} {v : V} {u : Value} {Q : Unit → Shared → Prop} (I : Inv X pins σ H s) (hN : X.N.Nodup) (hi : X.N[i]? = some x) (hx : Loc X.env.scope x) (r : RelV v u)
    (h : ∀ s', Inv X pins (σ.set i (some v)) H s' → Q () s') (hf : X.fn x = true ∨ X.env.scope.names.lookup x = some .local := by first | exact .inl rfl | exact .inr rfl | assumption) : wpAny M A (storeName X.env x u) Q E s :=
  store_ok2 I hN hi hx r (fun s' I' _ => h s' I') hf
theorem Inv.call' {s' : Shared} {ch : List Addr} (I : Inv X pins σ H s) (ho : s'.os = s.os) (u : Un (frs X.stack) ch H H' s.heap s'.heap) (hok : HOk X.prog X.w H' s'.heap) (hg : AllBare s'.gens)
    (hch : ∀ b ∈ ch, (b ∈ X.ex ∨ X.s₀.heap.objs.size ≤ b) ∧ b ≠ X.env.locals ∧ (∀ x c, X.env.cells.lookup x = some c → c ≠ b) ∧ ∀ p ∈ X.pn ++ pins, p.1 ≠ b) : Inv X pins σ H' s' := by
  obtain ⟨h', g', d', t', o'⟩ := s'
  have e : o' = s.os := ho
  subst e
  exact I.call (g' := g') (t' := t') (d' := d') u hok hg hch
end
abbrev XK := Value → Option Addr → Hp → Prop
abbrev St := List (Option V)
abbrev VK := V → Hp → Prop
abbrev TE := St → Hp → VK → Prop
abbrev TT := St → Hp → (Bool → Hp → Prop) → Prop
abbrev TA := St → Hp → (List V → Hp → Prop) → Prop
structure Ends where
  nx : St → Hp → Prop
  rt : VK
  bk : St → Hp → Prop := fun _ _ => False
  ct : St → Hp → Prop := fun _ _ => False
abbrev TS := Ends → St → Hp → Prop
def EP (X : Cx) (pins : List (Addr × Obj)) (σ : St) (Q : VK) (u : Value) (s' : Shared) : Prop := ∃ v H', Inv X pins σ H' s' ∧ RelV v u ∧ Q v H'
def TP (X : Cx) (pins : List (Addr × Obj)) (σ : St) (Q : Bool → Hp → Prop) (b : Bool) (s' : Shared) : Prop := ∃ H', Inv X pins σ H' s' ∧ Q b H'
def AP (X : Cx) (pins : List (Addr × Obj)) (σ : St) (Q : List V → Hp → Prop) (us : List Value) (s' : Shared) : Prop := ∃ vs H', Inv X pins σ H' s' ∧ Vals vs us ∧ Q vs H'
def SP (X : Cx) (pins : List (Addr × Obj)) (D : Ends) (f : Flow) (s' : Shared) : Prop :=
  match f with
  | .next => ∃ σ' H', Inv X pins σ' H' s' ∧ D.nx σ' H'
  | .brk => ∃ σ' H', Inv X pins σ' H' s' ∧ D.bk σ' H'
  | .cont => ∃ σ' H', Inv X pins σ' H' s' ∧ D.ct σ' H'
  | .ret u => ∃ v σ' H', Inv X pins σ' H' s' ∧ RelV v u ∧ D.rt v H'
def PE (X : Cx) (e : Expr) (t : TE) : Prop :=
  ∀ (pins : List (Addr × Obj)) (s : Shared) (σ : St) (H : Hp) (Q : VK), Inv X pins σ H s → t σ H Q → wpAny (model X.prog X.w) X.A (eval e X.env) (EP X pins σ Q) X.xe s
def PT (X : Cx) (e : Expr) (t : TT) : Prop :=
  ∀ (pins : List (Addr × Obj)) (s : Shared) (σ : St) (H : Hp) (Q : Bool → Hp → Prop), Inv X pins σ H s → t σ H Q → wpAny (model X.prog X.w) X.A (isTrue e X.env (eval e X.env)) (TP X pins σ Q) X.xe s
def PW (X : Cx) (e : Expr) (t : TT) : Prop :=
  ∀ (whole : Sem Value) (pins : List (Addr × Obj)) (s : Shared) (σ : St) (H : Hp) (Q : Bool → Hp → Prop), Inv X pins σ H s → t σ H Q → wpAny (model X.prog X.w) X.A (isTrue e X.env whole) (TP X pins σ Q) X.xe s
theorem PW.pt {X : Cx} {e : Expr} {t : TT} (h : PW X e t) : PT X e t := h _
def PA (X : Cx) (es : List Expr) (t : TA) : Prop :=
  ∀ (pos : Pos) (pins : List (Addr × Obj)) (s : Shared) (σ : St) (H : Hp) (Q : List V → Hp → Prop), Inv X pins σ H s → t σ H Q → wpAny (model X.prog X.w) X.A (spliced (backTo pos (starEach es X.env))) (AP X pins σ Q) X.xe s
def PS (X : Cx) (st : Stmt) (t : TS) : Prop :=
  ∀ (pins : List (Addr × Obj)) (s : Shared) (σ : St) (H : Hp) (D : Ends), Inv X pins σ H s → t D σ H → wpAny (model X.prog X.w) X.A (exec st X.env) (SP X pins D) X.xe s
def PSs (X : Cx) (st : List Stmt) (t : TS) : Prop :=
  ∀ (pins : List (Addr × Obj)) (s : Shared) (σ : St) (H : Hp) (D : Ends), Inv X pins σ H s → t D σ H → wpAny (model X.prog X.w) X.A (execs st X.env) (SP X pins D) X.xe s
theorem thn {α : Type} {t : Sem α} {Q Q' : α → Shared → Prop} {M : Model} {A : Around} {E : Value → Shared → Prop} {s : Shared} (h : wpAny M A t Q E s) (hQ : ∀ a s, Q a s → Q' a s) : wpAny M A t Q' E s := wpAny_mono h hQ fun _ _ x => x
end L2
namespace L2
open PySem PySem.Spec PyProof.Rows
section
variable {X : Cx}
def tVar (i : Nat) : TE := fun σ H Q => ∃ v, σ[i]? = some (some v) ∧ Q v H
def tC (v : V) : TE := fun _ H Q => Q v H
theorem pe_var {i : Nat} {x : Str} {pos : Pos} (hN : X.N[i]? = some x) (hv : Vis X.env.scope x) (hd : (x == ("__debug__" : Str)) = false := by decide) (hcd : (x == ("__classdict__" : Str)) = false := by decide) : PE X (.Name x pos) (tVar i) := by
  intro pins s σ H Q I h
  obtain ⟨v, e, h⟩ := h
  obtain ⟨m, hn, hl⟩ := I.loc
  obtain ⟨u, r, l⟩ := hl i x v hN e hv
  have fin : EP X pins σ Q u s := ⟨v, H, I, r, h⟩
  rcases l with ⟨hk, hm⟩ | ⟨hk, c, hc, hcell⟩
  · exact wpAny_Name (wpAny_loadName_local I.ok.kind hk hn hm fin) hd
  · rcases hk with hk | hk
    · exact wpAny_Name (wpAny_loadName_cell I.ok.kind hk hc hcell fin) hd
    · exact wpAny_Name (wpAny_loadName_free I.ok.kind hk hc hcell fin hcd) hd
theorem pe_int {i j pos} : PE X (.Constant (.int i) j pos) (tC (.int i)) := fun _ _ _ H _ I h => wpAny_Constant_int ⟨.int i, H, I.tok _, ⟨_, rfl⟩, h⟩
theorem pe_bl {b j pos} : PE X (.Constant (.bool b) j pos) (tC (.bl b)) := fun _ _ _ H _ I h => Constant_bool ⟨.bl b, H, I, rfl, h⟩
theorem pe_non {j pos} : PE X (.Constant .none j pos) (tC .non) := fun _ _ _ H _ I h => Constant_none ⟨.non, H, I, rfl, h⟩
theorem pe_str {x j pos} : PE X (.Constant (.str x) j pos) (tC (.str x)) := fun _ _ _ H _ I h => Calls.Constant_str ⟨.str x, H, I.tok _, ⟨_, rfl⟩, h⟩
def Gl (X : Cx) (x : Str) : Prop := X.env.kindOf x = some .globalImplicit
theorem ld_glob {E : Value → Shared → Prop} {pins : List (Addr × Obj)} {s : Shared} {σ : St} {H : Hp} {x : Str} {u : Value} {pos : Pos} {Q : Value → Shared → Prop} (I : Inv X pins σ H s) (hg : Gl X x) (hm : X.mg x = some u) (h : Q u s)
    (hd : (x == ("__debug__" : Str)) = false := by decide) : wpAny (model X.prog X.w) X.A (eval (.Name x pos) X.env) Q E s :=
  Calls.Name_function_global I.ok.kind hg (Calls.loadGlobal_global (by rw [I.ok.glob]; exact I.mod.glob.keeps I.bk) hm h) hd
theorem ld_blt {E : Value → Shared → Prop} {pins : List (Addr × Obj)} {s : Shared} {σ : St} {H : Hp} {x : Str} {u : Value} {pos : Pos} {Q : Value → Shared → Prop} (I : Inv X pins σ H s) (hg : Gl X x) (hm : X.mg x = none) (hv : bootBuiltins x = some u) (h : Q u s)
    (hn : x ≠ "__name__" := by decide) (hd : (x == ("__debug__" : Str)) = false := by decide) : wpAny (model X.prog X.w) X.A (eval (.Name x pos) X.env) Q E s := by
  obtain ⟨mb, h1, h2⟩ := I.mod.blt
  exact Calls.Name_function_global I.ok.kind hg (Calls.loadGlobal_builtin (by rw [I.ok.glob]; exact I.mod.glob.keeps I.bk) hm (by rw [I.ok.blt]; exact h1.keeps I.bk) ((h2 x hn).trans hv) h) hd
theorem pe_glob {x : Str} {v : V} {u : Value} {pos : Pos} (hg : Gl X x) (hm : X.mg x = some u) (r : RelV v u) (hd : (x == ("__debug__" : Str)) = false := by decide) : PE X (.Name x pos) (tC v) :=
  fun _ _ _ H _ I h => ld_glob I hg hm ⟨v, H, I, r, h⟩ hd
theorem pe_bltn {x : Str} {v : V} {u : Value} {pos : Pos} (hg : Gl X x) (hm : X.mg x = none) (hv : bootBuiltins x = some u) (r : RelV v u) (hn : x ≠ "__name__" := by decide) (hd : (x == ("__debug__" : Str)) = false := by decide) : PE X (.Name x pos) (tC v) :=
  fun _ _ _ H _ I h => ld_blt I hg hm hv ⟨v, H, I, r, h⟩ hn hd
def t2I (ta tb : TE) (k : Int → Int → Hp → Prop) : St → Hp → Prop := fun σ H => ta σ H fun x H1 => tb σ H1 fun y H2 => ∃ i j, x = .int i ∧ y = .int j ∧ k i j H2
def tAdd (ta tb : TE) : TE := fun σ H Q => t2I ta tb (fun i j H2 => Q (.int (i + j)) H2) σ H
def tSub (ta tb : TE) : TE := fun σ H Q => t2I ta tb (fun i j H2 => Q (.int (i - j)) H2) σ H
def tMul (ta tb : TE) : TE := fun σ H Q => t2I ta tb (fun i j H2 => (-(2 ^ 64) < i ∧ i < 2 ^ 64) ∧ Q (.int (i * j)) H2) σ H
variable {a b : Expr} {ta tb : TE} {pos : Pos}
def PC (X : Cx) (op : CmpOp) (a b : Expr) (t : TE) : Prop :=
  ∀ (pins : List (Addr × Obj)) (s : Shared) (σ : St) (H : Hp) (Q : VK), Inv X pins σ H s → t σ H Q →
    wpAny (model X.prog X.w) X.A (eval a X.env) (fun v s₁ => wpAny (model X.prog X.w) X.A (eval b X.env) (fun u s₂ => wpAny (model X.prog X.w) X.A (compareOp op v u) (EP X pins σ Q) X.xe s₂) X.xe s₁) X.xe s
def tCmp (p : Int → Int → Bool) (ta tb : TE) : TE := fun σ H Q => t2I ta tb (fun i j H2 => Q (.bl (p i j)) H2) σ H
abbrev tLt : TE → TE → TE := tCmp fun i j => decide (i < j)
abbrev tLe : TE → TE → TE := tCmp fun i j => decide (i ≤ j)
abbrev tGt : TE → TE → TE := tCmp fun i j => decide (j < i)
abbrev tGe : TE → TE → TE := tCmp fun i j => decide (j ≤ i)
abbrev tEqI : TE → TE → TE := tCmp fun i j => decide (i = j)
abbrev tNeI : TE → TE → TE := tCmp fun i j => !decide (i = j)
def tIsN (ta : TE) : TE := fun σ H Q => ta σ H fun x H1 => Q (.bl (decide (x = .non))) H1
def tNotN (ta : TE) : TE := fun σ H Q => ta σ H fun x H1 => Q (.bl (!decide (x = .non))) H1
def tB (t : TE) : TT := fun σ H Q => t σ H fun x H1 => ∃ c, x = .bl c ∧ Q c H1
theorem pe_cmp {op : CmpOp} {t : TE} (h : PC X op a b t) (h1 : behindInMarks op b = false := by first | exact nobehind _ (by decide) (by decide) | rfl) : PE X (.Compare a [op] [b] pos) t := fun pins s σ H Q I hw => wpAny_Compare1 (h pins s σ H Q I hw) h1
theorem pt_cmp {op : CmpOp} {t : TE} (h : PC X op a b t) (h1 : behindInMarks op b = false := by first | exact nobehind _ (by decide) (by decide) | rfl) : PT X (.Compare a [op] [b] pos) (tB t) := by
  intro pins s σ H Q I hw
  refine wpAny_isTrue_Compare1 (thn (h pins s σ H _ I hw) fun v s1 h1 => thn h1 fun u s2 h2 => thn h2 fun c s3 ⟨x, H1, I1, r1, q1⟩ => ?_) h1
  obtain ⟨d, rfl, q⟩ := q1
  cases r1
  exact wpAny_truthy_bool ⟨H1, I1, q⟩
theorem pt_val {e : Expr} {t : TE} (h : PE X e t) (he : ∀ whole, isTrue e X.env whole = (do let v ← whole; standAt e.pos; holding [v] (truthy v)) := by intro _; rfl) : PT X e (tB t) := by
  intro pins s σ H Q I hw
  refine isTrue_plain (thn (h pins s σ H _ I hw) fun v s1 ⟨x, H1, I1, r1, q1⟩ => ?_) (he _)
  obtain ⟨d, rfl, q⟩ := q1
  cases r1
  exact wpAny_truthy_bool ⟨H1, I1, q⟩
variable {tA tB' : TT} {rest : List Expr}
def tAnd (t u : TT) : TT := fun σ H Q => t σ H fun c H1 => if c = true then u σ H1 Q else Q false H1
def tOr (t u : TT) : TT := fun σ H Q => t σ H fun c H1 => if c = true then Q true H1 else u σ H1 Q
def tNot (t : TT) : TT := fun σ H Q => t σ H fun c H1 => Q (!c) H1
theorem pw_and1 (ha : PT X a tA) : PW X (.BoolOp .And [a] pos) tA := by
  intro wh pins s σ H Q I h
  refine isTrue_and (thn (ha pins s σ H Q I h) fun c s1 e => ?_)
  cases c with
  | true => exact isTrue_and_nil e
  | false => exact e
theorem pw_or1 (ha : PT X a tA) : PW X (.BoolOp .Or [a] pos) tA := by
  intro wh pins s σ H Q I h
  refine isTrue_or (thn (ha pins s σ H Q I h) fun c s1 e => ?_)
  cases c with
  | false => exact isTrue_or_nil e
  | true => exact e
theorem pw_and (ha : PT X a tA) (hb : PW X (.BoolOp .And (b :: rest) pos) tB') : PW X (.BoolOp .And (a :: b :: rest) pos) (tAnd tA tB') := by
  intro wh pins s σ H Q I h
  refine isTrue_and (thn (ha pins s σ H _ I h) fun c s1 ⟨H1, I1, q1⟩ => ?_)
  cases c with
  | true => exact hb wh pins s1 σ H1 Q I1 q1
  | false => exact ⟨H1, I1, q1⟩
theorem pw_or (ha : PT X a tA) (hb : PW X (.BoolOp .Or (b :: rest) pos) tB') : PW X (.BoolOp .Or (a :: b :: rest) pos) (tOr tA tB') := by
  intro wh pins s σ H Q I h
  refine isTrue_or (thn (ha pins s σ H _ I h) fun c s1 ⟨H1, I1, q1⟩ => ?_)
  cases c with
  | true => exact ⟨H1, I1, q1⟩
  | false => exact hb wh pins s1 σ H1 Q I1 q1
theorem pt_not (ha : PT X a tA) : PT X (.UnaryOp .Not a pos) (tNot tA) := by
  intro pins s σ H Q I h
  exact isTrue_not (ha pins s σ H (fun c H1 => Q (!c) H1) I h)
def tAndV (ta tb : TE) : TE := fun σ H Q => ta σ H fun x H1 => ∃ c, x = .bl c ∧ if c = true then tb σ H1 Q else Q (.bl false) H1
def tOrV (ta tb : TE) : TE := fun σ H Q => ta σ H fun x H1 => ∃ c, x = .bl c ∧ if c = true then Q (.bl true) H1 else tb σ H1 Q
def tNotV (ta : TE) : TE := fun σ H Q => ta σ H fun x H1 => ∃ c, x = .bl c ∧ Q (.bl (!c)) H1
theorem pe_one {op} {t : TE} (h : PE X a t) : PE X (.BoolOp op [a] pos) t := fun pins s σ H Q I hw => BoolOp_one (h pins s σ H Q I hw)
theorem pe_and (ha : PE X a ta) (hb : PE X (.BoolOp .And (b :: rest) pos) tb) : PE X (.BoolOp .And (a :: b :: rest) pos) (tAndV ta tb) := by
  intro pins s σ H Q I h
  refine BoolOp_and (thn (ha pins s σ H _ I h) fun v s1 ⟨x, H1, I1, r1, q1⟩ => ?_)
  obtain ⟨c, rfl, q1⟩ := q1
  cases r1
  refine wpAny_truthy_bool ?_
  cases c with
  | true => exact hb pins s1 σ H1 Q I1 q1
  | false => exact ⟨.bl false, H1, I1, rfl, q1⟩
theorem pe_not (ha : PE X a ta) : PE X (.UnaryOp .Not a pos) (tNotV ta) := by
  intro pins s σ H Q I h
  refine UnaryOp_ (thn (ha pins s σ H _ I h) fun v s1 ⟨x, H1, I1, r1, q1⟩ => ?_)
  obtain ⟨c, rfl, q1⟩ := q1
  cases r1
  exact not_of (wpAny_truthy_bool ⟨.bl (!c), H1, I1, rfl, q1⟩)
def tIf (t : TT) (ta tb : TE) : TE := fun σ H Q => t σ H fun c H1 => if c = true then ta σ H1 Q else tb σ H1 Q
theorem pe_ifExp {c : Expr} (hc : PT X c tA) (ha : PE X a ta) (hb : PE X b tb) : PE X (.IfExp c a b pos) (tIf tA ta tb) := by
  intro pins s σ H Q I h
  refine wpAny_IfExp (thn (hc pins s σ H _ I h) fun d s1 ⟨H1, I1, q1⟩ => ?_)
  cases d with
  | true => exact ha pins s1 σ H1 Q I1 q1
  | false => exact hb pins s1 σ H1 Q I1 q1
end
end L2
namespace L2
open PySem PySem.Spec PyProof.Rows
def SqL (K : PySem.W.Frag) (H : Hp) (a : Addr) (xs : List V) : Prop :=
  Rd H a (.lst xs) ∨
    ∃ (o : Obj) (its : Array Value) (n : Nat), K.lookup a = some o ∧ o.cls = .type "list" ∧ o.dict = none ∧ o.data = .seq its n ∧ its.size ≤ sizeLine ∧ Vals xs its.toList
def SqT (K : PySem.W.Frag) (H : Hp) (a : Addr) (xs : List V) : Prop :=
  Rd H a (.tup xs) ∨
    ∃ (o : Obj) (its : Array Value) (n : Nat), K.lookup a = some o ∧ o.cls = .type "tuple" ∧ o.data = .seq its n ∧ its.size ≤ sizeLine ∧ Vals xs its.toList
def absV : Value → Option V
  | .none => some .non
  | .bool b => some (.bl b)
  | .int i _ => some (.int i)
  | .str x _ => some (.str x)
  | .bytes b _ => some (.byt b)
  | .float b _ => some (.flt b)
  | .ref a => some (.ref a)
  | .type n => some (.ty n)
  | _ => none
theorem RelV.abs {x : V} {u : Value} (r : RelV x u) : absV u = some x := by
  cases x with
  | non => cases r; rfl
  | bl _ => cases r; rfl
  | int _ => obtain ⟨t, rfl⟩ := r; rfl
  | str _ => obtain ⟨t, rfl⟩ := r; rfl
  | byt _ => obtain ⟨t, rfl⟩ := r; rfl
  | flt _ => obtain ⟨t, rfl⟩ := r; rfl
  | ref _ => cases r; rfl
  | ty _ => cases r; rfl
theorem RelV.inj {x y : V} {u : Value} (r : RelV x u) (q : RelV y u) : x = y := Option.some.inj (r.abs.symm.trans q.abs)
theorem Vals.inj : ∀ {xs ys : List V} {us : List Value}, Vals xs us → Vals ys us → xs = ys
  | _, _, _, .nil, .nil => rfl
  | _, _, _, .cons r t, .cons r' t' => by rw [r.inj r', Vals.inj t t']
section
variable {X : Cx} {pins : List (Addr × Obj)} {σ : St} {H : Hp} {s : Shared} {a : Addr} {xs ys : List V}
theorem SqL.of {K : PySem.W.Frag} (h : H a = some (.lst xs)) : SqL K H a xs := .inl (.inl h)
theorem SqT.of {K : PySem.W.Frag} (h : H a = some (.tup xs)) : SqT K H a xs := .inl (.inl h)
theorem Inv.list (I : Inv X pins σ H s) (h : SqL X.K H a xs) : ∃ its : List Value, Vals xs its ∧ PlainL s.heap a its.toArray ∧ xs.length ≤ sizeLine := by
  rcases h with h | ⟨o, its, n, hk, hc, hd, hs, hz, r⟩
  · obtain ⟨z, its, n, r, e⟩ := h.ok I.hok
    exact ⟨its, r, ⟨_, n, e, rfl, rfl, rfl⟩, z⟩
  · refine ⟨its.toList, r, ⟨o, n, I.kIn a o hk, hc, hd, by simpa using hs⟩, ?_⟩
    have e := r.length
    simp only [Array.length_toList] at e
    omega
theorem Inv.tuple (I : Inv X pins σ H s) (h : SqT X.K H a xs) : ∃ its : List Value, Vals xs its ∧ IsTup s.heap a its.toArray ∧ xs.length ≤ sizeLine := by
  rcases h with h | ⟨o, its, n, hk, hc, hs, hz, r⟩
  · obtain ⟨z, its, r, p⟩ := h.ok I.hok
    exact ⟨its, r, p, z⟩
  · refine ⟨its.toList, r, ⟨o, I.kIn a o hk, hc, n, by simpa using hs⟩, ?_⟩
    have e := r.length
    simp only [Array.length_toList] at e
    omega
theorem Inv.list_inj (I : Inv X pins σ H s) (h : SqL X.K H a xs) (h' : SqL X.K H a ys) : xs = ys := by
  obtain ⟨its, r, ⟨o, n, e, _, _, d⟩, _⟩ := I.list h
  obtain ⟨its', r', ⟨o', n', e', _, _, d'⟩, _⟩ := I.list h'
  rw [e] at e'; cases e'
  rw [d] at d'
  injection d' with d1 _
  have : its = its' := by simpa using congrArg Array.toList d1
  subst this
  exact r.inj r'
theorem Inv.tuple_inj (I : Inv X pins σ H s) (h : SqT X.K H a xs) (h' : SqT X.K H a ys) : xs = ys := by
  obtain ⟨its, r, ⟨o, e, _, n, d⟩, _⟩ := I.tuple h
  obtain ⟨its', r', ⟨o', e', _, n', d'⟩, _⟩ := I.tuple h'
  rw [e] at e'; cases e'
  rw [d] at d'
  injection d' with d1 _
  have : its = its' := by simpa using congrArg Array.toList d1
  subst this
  exact r.inj r'
end
abbrev Cx.wish (X : Cx) (E : Value → Shared → Prop) : Cx := { X with xe := E }
abbrev Cx.nox (X : Cx) : Cx := X.wish fun _ _ => False
theorem Cx.Ok.wish {X : Cx} (ok : X.Ok) (E : Value → Shared → Prop) : (X.wish E).Ok :=
  ⟨ok.mod, ok.kind, ok.glob, ok.blt, ok.above, ok.inj, ok.has, ok.cab, ok.hd, ok.frames, ok.stk, ok.exf, ok.bs, ok.bsz, ok.noex, ok.exfs, ok.funs, ok.frf⟩
theorem Cx.Ok.unwish {X : Cx} {E : Value → Shared → Prop} (ok : (X.wish E).Ok) : X.Ok :=
  ⟨ok.mod, ok.kind, ok.glob, ok.blt, ok.above, ok.inj, ok.has, ok.cab, ok.hd, ok.frames, ok.stk, ok.exf, ok.bs, ok.bsz, ok.noex, ok.exfs, ok.funs, ok.frf⟩
section
variable {X : Cx} {pins : List (Addr × Obj)} {σ : St} {H : Hp} {s : Shared} {E : Value → Shared → Prop}
theorem Inv.wish (I : Inv X pins σ H s) (E : Value → Shared → Prop) : Inv (X.wish E) pins σ H s := ⟨I.ok.wish E, I.os, I.bare, I.base, I.loc, I.cell, I.free, I.freeC, I.pin, I.hok, I.len⟩
theorem Inv.unwish (I : Inv (X.wish E) pins σ H s) : Inv X pins σ H s := ⟨I.ok.unwish, I.os, I.bare, I.base, I.loc, I.cell, I.free, I.freeC, I.pin, I.hok, I.len⟩
theorem SP.unwish {D : Ends} {f : Flow} {s' : Shared} (h : SP (X.wish E) pins D f s') : SP X pins D f s' := by
  cases f with
  | next => obtain ⟨σ', H', I, q⟩ := h; exact ⟨σ', H', I.unwish, q⟩
  | brk => obtain ⟨σ', H', I, q⟩ := h; exact ⟨σ', H', I.unwish, q⟩
  | cont => obtain ⟨σ', H', I, q⟩ := h; exact ⟨σ', H', I.unwish, q⟩
  | ret u => obtain ⟨v, σ', H', I, r, q⟩ := h; exact ⟨v, σ', H', I.unwish, r, q⟩
theorem PSs.nox {st : List Stmt} {t : TS} (h : PSs X.nox st t) : PSs X st t := fun pins s σ H D I hw =>
  wpAny_mono (h pins s σ H D (I.wish _) hw) (fun _ _ q => q.unwish) fun _ _ z => False.elim z
end
section
variable {X : Cx} {st : Stmt} {rest : List Stmt} {t u : TS} {e : Expr} {te : TE} {pos : Pos}
def tNext : TS := fun D σ H => D.nx σ H
def tSeq (t u : TS) : TS := fun D σ H => t { D with nx := u D } σ H
theorem pss_nil : PSs X [] tNext := fun _ _ σ H _ I h => wpAny_execs_nil ⟨σ, H, I, h⟩
theorem pss_cons (h1 : PS X st t) (h2 : PSs X rest u) : PSs X (st :: rest) (tSeq t u) := by
  intro pins s σ H D I h
  refine wpAny_execs_cons (thn (h1 pins s σ H { D with nx := u D } I h) fun f s1 q => ?_)
  cases f with
  | next =>
    obtain ⟨σ', H', I', q⟩ := q
    exact h2 pins s1 σ' H' D I' q
  | ret v => exact q
  | brk => exact q
  | cont => exact q
theorem pss_one (h1 : PS X st t) : PSs X [st] t := by
  intro pins s σ H D I h
  refine wpAny_execs_cons (thn (h1 pins s σ H D I h) fun f s1 q => ?_)
  cases f with
  | next => exact wpAny_execs_nil q
  | ret v => exact q
  | brk => exact q
  | cont => exact q
def tBreak : TS := fun D σ H => D.bk σ H
def tCont : TS := fun D σ H => D.ct σ H
theorem Inv.quiet {pins : List (Addr × Obj)} {σ : St} {H : Hp} {s : Shared} (I : Inv X pins σ H s) : interactive X.env = false := by simp [interactive, I.ok.kind]
def tDrop (te : TE) : TS := fun D σ H => te σ H fun _ H1 => D.nx σ H1
theorem ps_expr (he : PE X e te) (hs : swapsWith e none pos.line X.env = pure false := by rfl) : PS X (.Expr e pos) (tDrop te) := by
  intro pins s σ H D I h
  exact wpAny_Expr_any (thn (he pins s σ H _ I h) fun v s1 ⟨x, H1, I1, r1, q1⟩ => ⟨σ, H1, I1, q1⟩) I.quiet hs
def tRet (te : TE) : TS := fun D σ H => te σ H D.rt
theorem ps_ret (he : PE X e te) : PS X (.Return (some e) pos) (tRet te) := by
  intro pins s σ H D I h
  exact wpAny_Return_some (thn (he pins s σ H _ I h) fun v s1 ⟨x, H1, I1, r1, q1⟩ => ⟨x, σ, H1, I1, r1, q1⟩)
def tRetN : TS := fun D _ H => D.rt .non H
def tIfS (c : TT) (t u : TS) : TS := fun D σ H => c σ H fun b H1 => if b = true then t D σ H1 else u D σ H1
theorem ps_if {c : Expr} {a b : List Stmt} {tc : TT} (hc : PT X c tc) (ha : PSs X a t) (hb : PSs X b u) : PS X (.If c a b pos) (tIfS tc t u) := by
  intro pins s σ H D I h
  refine wpAny_If (thn (hc pins s σ H _ I h) fun d s1 ⟨H1, I1, q1⟩ => ?_)
  cases d with
  | true => exact ha pins s1 σ H1 D I1 q1
  | false => exact hb pins s1 σ H1 D I1 q1
def tNever : TS := fun _ _ _ => False
theorem ps_never : PS X st tNever := fun _ _ _ _ _ _ h => h.elim
end
abbrev TG := V → St → Hp → (St → Hp → Prop) → Prop
abbrev TGs := List V → St → Hp → (St → Hp → Prop) → Prop
def PG (X : Cx) (target : Expr) (t : TG) : Prop :=
  ∀ (pins : List (Addr × Obj)) (s : Shared) (σ : St) (H : Hp) (v : V) (u : Value) (Q : St → Hp → Prop), Inv X pins σ H s → RelV v u → t v σ H Q →
    wpAny (model X.prog X.w) X.A (assign target X.env u) (fun _ s' => ∃ σ' H', Inv X pins σ' H' s' ∧ Q σ' H') X.xe s
def PGs (X : Cx) (ts : List Expr) (t : TGs) : Prop :=
  ∀ (pins : List (Addr × Obj)) (s : Shared) (σ : St) (H : Hp) (vs : List V) (us : List Value) (Q : St → Hp → Prop), Inv X pins σ H s → Vals vs us → t vs σ H Q →
    wpAny (model X.prog X.w) X.A (assignInOrder ((assignEach ts X.env).map (·.2)) us) (fun _ s' => ∃ σ' H', Inv X pins σ' H' s' ∧ Q σ' H') X.xe s
abbrev TSet := V → V → V → Hp → (Hp → Prop) → Prop
def PSet (X : Cx) (t : TSet) : Prop :=
  ∀ (pins : List (Addr × Obj)) (s : Shared) (σ : St) (H : Hp) (o i v : V) (ov iv u : Value) (Q : Hp → Prop), Inv X pins σ H s → RelV o ov → RelV i iv → RelV v u → t o i v H Q →
    wpAny (model X.prog X.w) X.A (setItem ov iv u) (fun _ s' => ∃ H', Inv X pins σ H' s' ∧ Q H') X.xe s
abbrev TIp := V → V → Hp → VK → Prop
def PIp (X : Cx) (op : Operator) (t : TIp) : Prop :=
  ∀ (pins : List (Addr × Obj)) (s : Shared) (σ : St) (H : Hp) (x y : V) (v u : Value) (Q : VK), Inv X pins σ H s → RelV x v → RelV y u → t x y H Q →
    wpAny (model X.prog X.w) X.A (inplaceOp op v u) (EP X pins σ Q) X.xe s
section
variable {X : Cx} {pos : Pos}
def gName (i : Nat) : TG := fun v σ H Q => Q (σ.set i (some v)) H
theorem pg_name {i : Nat} {x : Str} (hN : X.N.Nodup) (hi : X.N[i]? = some x) (hx : Loc X.env.scope x) (hf : X.fn x = true ∨ X.env.scope.names.lookup x = some .local := by first | exact .inl rfl | exact .inr rfl | assumption) : PG X (.Name x pos) (gName i) := by
  intro pins s σ H v u Q I r h
  exact wpAny_assign_Name (store_ok I hN hi hx r (fun s' I' => ⟨_, H, I', h⟩) hf)
def gNil : TGs := fun vs σ H Q => vs = [] ∧ Q σ H
def gCons (t : TG) (u : TGs) : TGs := fun vs σ H Q => ∃ v r, vs = v :: r ∧ t v σ H fun σ' H' => u r σ' H' Q
theorem pgs_nil : PGs X [] gNil := by
  intro pins s σ H vs us Q I r h
  obtain ⟨e, h⟩ := h
  subst e
  cases r
  exact assignInOrder_nil ⟨σ, H, I, h⟩
theorem pgs_cons {e : Expr} {es : List Expr} {t : TG} {u : TGs} (h1 : PG X e t) (h2 : PGs X es u)
    (hs : (assignEach (e :: es) X.env).map (·.2) = assign e X.env :: (assignEach es X.env).map (·.2) := by rfl) : PGs X (e :: es) (gCons t u) := by
  intro pins s σ H vs us Q I r h
  obtain ⟨v, vr, e1, h⟩ := h
  subst e1
  cases r with
  | cons r rr =>
    rw [hs]
    refine assignInOrder_cons (thn (h1 pins s σ H _ _ _ I r h) fun _ s1 ⟨σ1, H1, I1, q1⟩ => ?_)
    exact h2 pins s1 σ1 H1 _ _ Q I1 rr q1
def gTup (K : PySem.W.Frag) (n : Nat) (t : TGs) : TG := fun v σ H Q => ∃ a xs, v = .ref a ∧ SqT K H a xs ∧ xs.length = n ∧ t xs σ H Q
theorem pg_tup {es : List Expr} {k : Nat} {t : TGs} {n : Nat} (hc : X.calm = true) (h : PGs X es t)
    (hn : (assignEach es X.env).length = n := by rfl) (hst : (assignEach es X.env).findIdx? (·.1) = none := by rfl) : PG X (.Tuple es k pos) (gTup X.K n t) := by
  intro pins s σ H v u Q I r hw
  obtain ⟨a, xs, e1, hq, hl, hw⟩ := hw
  subst e1
  cases r
  obtain ⟨its, rv, ht, hz⟩ := I.tuple hq
  refine assign_Tuple_tuple (I.ok.hd hc) ht (by simp [hn, ← hl, rv.length]) hst fun h' hx => ?_
  have I1 : Inv X pins σ H { s with heap := h' } := I.kept (t' := s.toks) fun b o e => hx b o (Nat.ne_of_lt (Heap.lt_size e)) e
  exact h pins _ σ H xs _ Q I1 (by simpa using rv) hw
def gSub (to ti : TE) (t : TSet) : TG := fun v σ H Q => to σ H fun o H1 => ti σ H1 fun i H2 => t o i v H2 fun H3 => Q σ H3
theorem pg_sub {o i : Expr} {to ti : TE} {t : TSet} (ho : PE X o to) (hi : PE X i ti) (hs : PSet X t)
    (ha : ∀ v, assign (.Subscript o i pos) X.env v = (do
      let ov ← holding [v] (eval o X.env)
      let iv ← holding [v, ov] (eval i X.env)
      standAt pos
      holding [v, ov, iv] (setItem ov iv v)
      release [v, ov, iv] []) := by intro _; rfl) : PG X (.Subscript o i pos) (gSub to ti t) := by
  intro pins s σ H v u Q I r h
  rw [ha]
  refine wpAny_bind (wpAny_holding (thn (ho pins s σ H _ I h) fun ov s1 ⟨x, H1, I1, r1, q1⟩ => ?_))
  refine wpAny_bind (wpAny_holding (thn (hi pins s1 σ H1 _ I1 q1) fun iv s2 ⟨y, H2, I2, r2, q2⟩ => ?_))
  refine wpAny_bind (wpAny_standAt (wpAny_bind (wpAny_holding (thn (hs pins s2 σ H2 x y v ov iv u _ I2 r1 r2 r q2) fun _ s3 ⟨H3, I3, q3⟩ => ?_))))
  exact wpAny_release ⟨σ, H3, I3, q3⟩
def tAsg (te : TE) (g : TG) : TS := fun D σ H => te σ H fun x H1 => g x σ H1 D.nx
theorem ps_asg {tg e : Expr} {te : TE} {g : TG} (he : PE X e te) (hg : PG X tg g) (hs : swapsWithSole [tg] e pos.line X.env = pure false := by rfl) (hw : swappedStores [tg] e X.env = pure none := by rfl)
    (h1 : (assignEach [tg] X.env).map (·.2) = [assign tg X.env] := by rfl) : PS X (.Assign [tg] e pos) (tAsg te g) := by
  intro pins s σ H D I h
  refine wpAny_Assign_stores (thn (he pins s σ H _ I h) fun v s1 ⟨x, H1, I1, r1, q1⟩ => ?_) hs hw
  rw [h1]
  exact thn (hg pins s1 σ H1 x v _ I1 r1 q1) fun _ s2 q => q
theorem ps_set {i : Nat} {x : Str} {e : Expr} {te : TE} {pos' : Pos} (hN : X.N.Nodup) (hi : X.N[i]? = some x) (hx : Loc X.env.scope x) (he : PE X e te) (hs : swapsWith e (some (.Name x pos')) pos.line X.env = pure false := by rfl) (hf : X.fn x = true ∨ X.env.scope.names.lookup x = some .local := by first | exact .inl rfl | exact .inr rfl | assumption) :
    PS X (.Assign [.Name x pos'] e pos) (tAsg te (gName i)) := by
  intro pins s σ H D I h
  refine wpAny_Assign_Name (thn (he pins s σ H _ I h) fun v s1 ⟨y, H1, I1, r1, q1⟩ => ?_) hs
  exact store_ok I1 hN hi hx r1 (fun s2 I2 => ⟨_, H1, I2, q1⟩) hf
def tPar (i j : Nat) (ta : TA) : TS := fun D σ H => ta σ H fun vs H1 => ∃ v w, vs = [v, w] ∧ D.nx ((σ.set i (some v)).set j (some w)) H1
def tAug (i : Nat) (te : TE) (ti : TIp) : TS := fun D σ H => ∃ x, σ[i]? = some (some x) ∧ te σ H fun y H1 => ti x y H1 fun z H2 => D.nx (σ.set i (some z)) H2
def tAugS (to ti te : TE) (tget : V → V → Hp → VK → Prop) (tip : TIp) (tset : TSet) : TS := fun D σ H => to σ H fun o H1 => ti σ H1 fun i H2 => tget o i H2 fun x H3 => te σ H3 fun y H4 => tip x y H4 fun z H5 => tset o i z H5 fun H6 => D.nx σ H6
def PGet (X : Cx) (t : V → V → Hp → VK → Prop) : Prop :=
  ∀ (pins : List (Addr × Obj)) (s : Shared) (σ : St) (H : Hp) (o i : V) (ov iv : Value) (Q : VK), Inv X pins σ H s → RelV o ov → RelV i iv → t o i H Q →
    wpAny (model X.prog X.w) X.A (getItem ov iv) (EP X pins σ Q) X.xe s
def ipI (f : Int → Int → Int) : TIp := fun x y H Q => ∃ i j, x = .int i ∧ y = .int j ∧ Q (.int (f i j)) H
end
section
variable {X : Cx} {pos : Pos}
def tWhile (c : TT) (tb : TS) : TS := fun D σ H => ∃ W : Nat → St → Hp → Prop, (∃ m, W m σ H) ∧ ∀ m σ H, W m σ H →
  c σ H fun b H1 => if b = true then ∃ N : St → Hp → Prop, (∀ σ' H', N σ' H' → ∃ m', m' < m ∧ W m' σ' H') ∧ tb { D with nx := N, ct := N, bk := D.nx } σ H1 else D.nx σ H1
end
structure It where
  go : Nat → Hp → Prop
  yld : Nat → Hp → V → Hp → Prop
  stop : Nat → Hp → Prop
def FpOk (X : Cx) (pins : List (Addr × Obj)) (H : Hp) (b : Addr) : Prop :=
  H b = none ∧ b ≠ X.env.locals ∧ b ∉ X.fs ∧ (b ∈ X.ex ∨ X.s₀.heap.objs.size ≤ b) ∧ (∀ x c, X.env.cells.lookup x = some c → c ≠ b) ∧ ∀ p ∈ X.pn ++ pins, p.1 ≠ b
theorem Inv.fpOk {X : Cx} {pins : List (Addr × Obj)} {σ : St} {H H' : Hp} {s : Shared} {b : Addr} (I : Inv X pins σ H s) (hb : s.heap.objs.size ≤ b) (hn : H' b = none) : FpOk X pins H' b := by
  refine ⟨hn, Nat.ne_of_gt (Nat.lt_of_lt_of_le I.lt hb), I.nofs hb, .inr (Nat.le_trans I.sz hb), fun x c e z => ?_, fun p hp z => ?_⟩
  · obtain ⟨v, q⟩ := I.cell x c e
    exact absurd (Nat.lt_of_lt_of_le q.lt (by rw [z]; exact hb)) (Nat.lt_irrefl _)
  · exact absurd (Nat.lt_of_lt_of_le (Heap.lt_size (I.pin p hp).1) (by rw [z]; exact hb)) (Nat.lt_irrefl _)
structure Turn (P : Program) (w : World) (K : PySem.W.Frag) (tg : Expr) (J : It) (fp : List Addr) (it : Addr) (tn : Nat → Heap → Prop) : Prop where
  mem : it ∈ fp
  obj : ∀ i h, tn i h → ∀ b ∈ fp, ∃ o, h.get? b = some o ∧ ∀ v, o.data ≠ .cell v
  keep : ∀ i h h', tn i h → (∀ b ∈ fp, ∀ o, h.get? b = some o → h'.get? b = some o) → tn i h'
  item : ∀ (X : Cx), X.prog = P → X.w = w → X.K = K → X.calm = true → ∀ (i : Nat) (pins : List (Addr × Obj)) (s : Shared) (σ : St) (H : Hp) (E : Value → Shared → Prop), Inv X pins σ H s → (∀ b ∈ fp, FpOk X pins H b) → tn i s.heap → J.go i H →
    wpAny (model P w) X.A (pyNext (.ref it)) (fun r s1 => ∃ u, r = some u ∧
      wpAny (model P w) X.A (letOwnedTupleGo tg (.ref it) u) (fun _ s2 => ∃ x H', Inv X pins σ H' s2 ∧ RelV x u ∧ J.yld i H x H' ∧ tn (i + 1) s2.heap ∧ ∀ b ∈ fp, H' b = none) E s1) E s
  done : ∀ (X : Cx), X.prog = P → X.w = w → X.K = K → X.calm = true → ∀ (i : Nat) (pins : List (Addr × Obj)) (s : Shared) (σ : St) (H : Hp) (E : Value → Shared → Prop), Inv X pins σ H s → (∀ b ∈ fp, FpOk X pins H b) → tn i s.heap → J.stop i H →
    wpAny (model P w) X.A (pyNext (.ref it)) (fun r s1 => r = none ∧ Inv X pins σ H s1) E s
  self : ∀ (A : Around) (i : Nat) (s : Shared) (Q : Value → Shared → Prop) (E : Value → Shared → Prop), tn i s.heap → Q (.ref it) s → wpAny (model P w) A (pyIter (.ref it)) Q E s
abbrev TI := St → Hp → (It → Hp → Prop) → Prop
def PIE (X : Cx) (pins : List (Addr × Obj)) (σ : St) (tg : Expr) (R : It → Hp → Prop) (itv : Value) (s2 : Shared) : Prop :=
  ∃ (it : Addr) (fp : List Addr) (tn : Nat → Heap → Prop) (J : It) (H' : Hp), itv = .ref it ∧ Inv X pins σ H' s2 ∧ Turn X.prog X.w X.K tg J fp it tn ∧ tn 0 s2.heap ∧ (∀ b ∈ fp, FpOk X pins H' b) ∧ R J H'
def PI (X : Cx) (tg iter : Expr) (wi : TI) : Prop :=
  ∀ (pins : List (Addr × Obj)) (s : Shared) (σ : St) (H : Hp) (R : It → Hp → Prop), Inv X pins σ H s → wi σ H R →
    wpAny (model X.prog X.w) X.A (eval iter X.env) (fun v s1 => wpAny (model X.prog X.w) X.A (pyIter v) (PIE X pins σ tg R) X.xe s1) X.xe s
theorem go_of {M : Model} {A : Around} {E : Value → Shared → Prop} {s : Shared} {tg : Expr} {it : Addr} {u : Value} {o : Obj} {n : String} {vs : Array Value} {Q : Unit → Shared → Prop} (ho : s.heap.get? it = some o) (hc : o.cls = .type n) (hd : o.data = .fields vs)
    (hn : ["enumerate", "zip", "dict_itemiterator", "dict_reverseitemiterator", "odict_iterator", "itertools.zip_longest", "itertools.pairwise"].contains n = false) (hQ : Q () s) : wpAny M A (letOwnedTupleGo tg (.ref it) u) Q E s := by
  unfold letOwnedTupleGo
  cases tg <;> first
    | exact wpAny_pure hQ
    | (cases u <;> first
        | exact wpAny_pure hQ
        | (refine wpAny_bind (wpAny_load ho ?_)
           rw [hc, hd]
           show wpAny M A (if (["enumerate", "zip", "dict_itemiterator", "dict_reverseitemiterator", "odict_iterator", "itertools.zip_longest", "itertools.pairwise"].contains n && vs[0]? == some (rawInt _)) = true then _ else _) Q E s
           rw [if_neg (by intro h; rw [hn, Bool.false_and] at h; cases h)]
           exact wpAny_pure hQ))
def Itl (K : PySem.W.Frag) (a : Addr) : It :=
  ⟨fun i H => ∃ xs x, SqL K H a xs ∧ xs[i]? = some x, fun i H x H' => H' = H ∧ ∀ xs, SqL K H a xs → xs[i]? = some x, fun i H => ∃ xs, SqL K H a xs ∧ xs.length ≤ i⟩
def Itt (K : PySem.W.Frag) (a : Addr) : It :=
  ⟨fun i H => ∃ xs x, SqT K H a xs ∧ xs[i]? = some x, fun i H x H' => H' = H ∧ ∀ xs, SqT K H a xs → xs[i]? = some x, fun i H => ∃ xs, SqT K H a xs ∧ xs.length ≤ i⟩
def Itr (lo : Int) (n : Nat) : It := ⟨fun i _ => i < n, fun i H x H' => H' = H ∧ x = .int (lo + i), fun i _ => n ≤ i⟩
theorem turn_list {P : Program} {w : World} {K : PySem.W.Frag} {tg : Expr} (a it : Addr) : Turn P w K tg (Itl K a) [it] it (fun i h => h.IsListIter it a i) where
  mem := by simp
  obj := fun i h st b hb => by
    have e : b = it := by simpa using hb
    subst e
    obtain ⟨o, e, c, d⟩ := st
    exact ⟨o, e, fun v z => by rw [d] at z; cases z⟩
  keep := fun i h h' st k => st.at fun o e => k it (by simp) o e
  item := by
    intro X hP hw hK hc i pins s σ H E I hf st hg
    subst hP hw hK
    obtain ⟨xs, x, hq, hx⟩ := hg
    obtain ⟨its, rv, p, hz⟩ := I.list hq
    obtain ⟨u, hu, ru⟩ := rv.get hx
    obtain ⟨f0, f1, f2, f3, f4, f5⟩ := hf it (by simp)
    refine wpAny_pyNext_list_item st p.isList (x := u) (by simpa using hu) fun h' st' sb => ?_
    have I1 : Inv X pins σ H { s with heap := h' } := I.turned (t' := s.toks) (fun b o hb e => (sb.2 b hb).trans e) f0 f1 f3 f4 f5
    obtain ⟨o, e, c, d⟩ := id st'
    exact ⟨u, rfl, go_of (s := { s with heap := h' }) e c d (by decide) ⟨x, H, I1, ru, ⟨rfl, fun ys hy => by rw [I.list_inj hy hq]; exact hx⟩, st', fun b hb => (hf b hb).1⟩⟩
  done := by
    intro X hP hw hK hc i pins s σ H E I hf st hg
    subst hP hw hK
    obtain ⟨xs, hq, hx⟩ := hg
    obtain ⟨its, rv, p, hz⟩ := I.list hq
    obtain ⟨f0, f1, f2, f3, f4, f5⟩ := hf it (by simp)
    have hl := rv.length
    exact wpAny_pyNext_list_end (I.ok.hd hc) st p.isList (by simp; omega) fun h' eb => ⟨rfl, I.turned (t' := s.toks) (fun b o hb e => eb b o hb e) f0 f1 f3 f4 f5⟩
  self := fun _ _ _ _ _ st h => wpAny_pyIter_listiter st h
theorem turn_tuple {P : Program} {w : World} {K : PySem.W.Frag} {tg : Expr} (a it : Addr) : Turn P w K tg (Itt K a) [it] it (fun i h => h.IsTupleIter it a i) where
  mem := by simp
  obj := fun i h st b hb => by
    have e : b = it := by simpa using hb
    subst e
    obtain ⟨o, e, c, d⟩ := st
    exact ⟨o, e, fun v z => by rw [d] at z; cases z⟩
  keep := fun i h h' st k => st.at fun o e => k it (by simp) o e
  item := by
    intro X hP hw hK hc i pins s σ H E I hf st hg
    subst hP hw hK
    obtain ⟨xs, x, hq, hx⟩ := hg
    obtain ⟨its, rv, p, hz⟩ := I.tuple hq
    obtain ⟨u, hu, ru⟩ := rv.get hx
    obtain ⟨f0, f1, f2, f3, f4, f5⟩ := hf it (by simp)
    refine wpAny_pyNext_tuple_item st (show s.heap.IsTuple a its.toArray from p) (x := u) (by simpa using hu) fun h' st' sb => ?_
    have I1 : Inv X pins σ H { s with heap := h' } := I.turned (t' := s.toks) (fun b o hb e => (sb.2 b hb).trans e) f0 f1 f3 f4 f5
    obtain ⟨o, e, c, d⟩ := id st'
    exact ⟨u, rfl, go_of (s := { s with heap := h' }) e c d (by decide) ⟨x, H, I1, ru, ⟨rfl, fun ys hy => by rw [I.tuple_inj hy hq]; exact hx⟩, st', fun b hb => (hf b hb).1⟩⟩
  done := by
    intro X hP hw hK hc i pins s σ H E I hf st hg
    subst hP hw hK
    obtain ⟨xs, hq, hx⟩ := hg
    obtain ⟨its, rv, p, hz⟩ := I.tuple hq
    obtain ⟨f0, f1, f2, f3, f4, f5⟩ := hf it (by simp)
    have hl := rv.length
    exact wpAny_pyNext_tuple_end (I.ok.hd hc) st (show s.heap.IsTuple a its.toArray from p) (by simp; omega) fun h' eb => ⟨rfl, I.turned (t' := s.toks) (fun b o hb e => eb b o hb e) f0 f1 f3 f4 f5⟩
  self := fun _ _ _ _ _ st h => wpAny_pyIter_tupleiter st h
theorem turn_range {P : Program} {w : World} {K : PySem.W.Frag} {tg : Expr} (it : Addr) (lo : Int) (n : Nat) : Turn P w K tg (Itr lo n) [it] it (fun i h => IsRangeIter h it (lo + (i : Nat) * 1) ((n : Int) - (i : Nat)) 1) where
  mem := by simp
  obj := fun i h st b hb => by
    have e : b = it := by simpa using hb
    subst e
    exact ⟨_, st, fun v z => by
      have z' : Data.fields _ = Data.cell v := z
      cases z'⟩
  keep := fun i h h' st k => k it (by simp) _ st
  item := by
    intro X hP hw hK hc i pins s σ H E I hf st hg
    subst hP hw hK
    obtain ⟨f0, f1, f2, f3, f4, f5⟩ := hf it (by simp)
    have W := Walks.range (prog := X.prog) (w := X.w) (I.ok.hd hc) it lo 1 n
    refine W.item i s _ _ hg st fun v h' tk hv st' kk => ?_
    obtain ⟨t, rfl⟩ := hv
    have I1 : Inv X pins σ H { s with heap := h', toks := tk } := I.turned (fun b o hb e => kk b o (by simpa using hb) e) f0 f1 f3 f4 f5
    refine ⟨_, rfl, go_of (s := { s with heap := h', toks := tk }) (n := "range_iterator") st' rfl rfl (by decide) ⟨.int (lo + i), H, I1, ⟨t, ?_⟩, ⟨rfl, rfl⟩, st', fun b hb => (hf b hb).1⟩⟩
    rw [Int.mul_one]
  done := by
    intro X hP hw hK hc i pins s σ H E I hf st hg
    subst hP hw hK
    obtain ⟨f0, f1, f2, f3, f4, f5⟩ := hf it (by simp)
    exact wpAny_pyNext_range_end (I.ok.hd hc) st (by have : n ≤ i := hg; omega) fun h' eb => ⟨rfl, I.turned (t' := s.toks) (fun b o hb e => eb b o hb e) f0 f1 f3 f4 f5⟩
  self := fun _ _ _ _ _ st h => wpAny_pyIter_rangeiter st h
end L2
namespace L2
open PySem PySem.Spec PyProof.Rows
section
variable {X : Cx} {tg : Expr}
def iList (K : PySem.W.Frag) (tl : TE) : TI := fun σ H R => tl σ H fun x H1 => ∃ a, x = .ref a ∧ (∃ xs, SqL K H1 a xs) ∧ R (Itl K a) H1
def iTup (K : PySem.W.Frag) (tl : TE) : TI := fun σ H R => tl σ H fun x H1 => ∃ a, x = .ref a ∧ (∃ xs, SqT K H1 a xs) ∧ R (Itt K a) H1
theorem pi_list {l : Expr} {tl : TE} (hl : PE X l tl) : PI X tg l (iList X.K tl) := by
  intro pins s σ H R I h
  refine thn (hl pins s σ H _ I h) fun v s1 ⟨x, H1, I1, r1, q1⟩ => ?_
  obtain ⟨a, e, ⟨xs, hq⟩, q⟩ := q1
  subst e
  cases r1
  obtain ⟨its, rv, p, hz⟩ := I1.list hq
  refine wpAny_pyIter_list p.isList ?_
  refine ⟨s1.heap.objs.size, [s1.heap.objs.size], _, _, H1, rfl, I1.kept (t' := s1.toks) fun b o e => Heap.get?_push_of_some _ e, turn_list a _, ⟨_, Heap.get?_push_size _ rfl, rfl, rfl⟩, fun b hb => ?_, q⟩
  have e : b = s1.heap.objs.size := by simpa using hb
  subst e
  exact I1.fpOk (Nat.le_refl _) (I1.hok.fresh (Nat.le_refl _))
theorem pi_tup {l : Expr} {tl : TE} (hl : PE X l tl) : PI X tg l (iTup X.K tl) := by
  intro pins s σ H R I h
  refine thn (hl pins s σ H _ I h) fun v s1 ⟨x, H1, I1, r1, q1⟩ => ?_
  obtain ⟨a, e, ⟨xs, hq⟩, q⟩ := q1
  subst e
  cases r1
  obtain ⟨its, rv, p, hz⟩ := I1.tuple hq
  refine wpAny_pyIter_tuple (show s1.heap.IsTuple a its.toArray from p) ?_
  refine ⟨s1.heap.objs.size, [s1.heap.objs.size], _, _, H1, rfl, I1.kept (t' := s1.toks) fun b o e => Heap.get?_push_of_some _ e, turn_tuple a _, ⟨_, Heap.get?_push_size _ rfl, rfl, rfl⟩, fun b hb => ?_, q⟩
  have e : b = s1.heap.objs.size := by simpa using hb
  subst e
  exact I1.fpOk (Nat.le_refl _) (I1.hok.fresh (Nat.le_refl _))
theorem range_it {pins : List (Addr × Obj)} {σ : St} {H : Hp} {s : Shared} {R : It → Hp → Prop} {E : Value → Shared → Prop} {lo hi : Int} {t u v : Tok} {tk : Nat} (I : Inv X pins σ H s) (h1 : -(2 ^ 62) ≤ lo) (h2 : lo < 2 ^ 62) (h3 : -(2 ^ 62) ≤ hi) (h4 : hi < 2 ^ 62)
    (q : R (Itr lo (hi - lo).toNat) H) : wpAny (model X.prog X.w) X.A (pyIter (.ref s.heap.objs.size)) (PIE X pins σ tg R) E { s with heap := s.heap.push { cls := .type "range", data := .fields #[.int lo t, .int hi u, .int 1 v] }, toks := tk } := by
  refine wpAny_pyIter_range (IsRange.new ..) (small_one h1 h2 h3 h4) ?_
  have I1 : Inv X pins σ H { s with heap := s.heap.push { cls := .type "range", data := .fields #[.int lo t, .int hi u, .int 1 v] }, toks := tk } := I.kept fun b o e => Heap.get?_push_of_some _ e
  refine ⟨(s.heap.push { cls := .type "range", data := .fields #[.int lo t, .int hi u, .int 1 v] }).objs.size, [(s.heap.push { cls := .type "range", data := .fields #[.int lo t, .int hi u, .int 1 v] }).objs.size], _, _, H, rfl,
    I1.kept (t' := tk) fun b o e => Heap.get?_push_of_some _ e, turn_range _ lo (hi - lo).toNat, ?_, fun b hb => ?_, q⟩
  · have e1 : lo + ((0 : Nat) : Int) * 1 = lo := by simp
    have e2 : (((hi - lo).toNat : Nat) : Int) - ((0 : Nat) : Int) = Builtin.Range.rangeSize lo hi 1 := by rw [rangeSize_one]; split <;> omega
    show IsRangeIter _ _ (lo + ((0 : Nat) : Int) * 1) ((((hi - lo).toNat : Nat) : Int) - ((0 : Nat) : Int)) 1
    rw [e1, e2]
    exact Heap.get?_push_size _ rfl
  · have e : b = (s.heap.push { cls := .type "range", data := .fields #[.int lo t, .int hi u, .int 1 v] }).objs.size := by simpa using hb
    subst e
    exact I1.fpOk (Nat.le_refl _) (I1.hok.fresh (Nat.le_refl _))
def iRng1 (ta : TA) : TI := fun σ H R => ta σ H fun vs H1 => ∃ j : Int, vs = [.int j] ∧ -(2 ^ 62) ≤ j ∧ j < 2 ^ 62 ∧ R (Itr 0 j.toNat) H1
def iRng2 (ta : TA) : TI := fun σ H R => ta σ H fun vs H1 => ∃ i j : Int, vs = [.int i, .int j] ∧ (-(2 ^ 62) ≤ i ∧ i < 2 ^ 62 ∧ -(2 ^ 62) ≤ j ∧ j < 2 ^ 62) ∧ R (Itr i (j - i).toNat) H1
theorem pi_range1 {a : Expr} {ta : TA} {p pos : Pos} (hg : Gl X "range") (hm : X.mg "range" = none) (ha : PA X [a] ta) (hs : starEach [a] X.env = [(false, eval a X.env)] := by rfl) : PI X tg (.Call (.Name "range" p) [a] [] pos) (iRng1 ta) := by
  intro pins s σ H R I h
  refine Call_ (ld_blt I hg hm boot_range (PyProof.Rows.callWith_type1 (thn (ha pos pins s σ H _ I h) fun us s1 ⟨vs, H1, I1, r1, q1⟩ => ?_) hs rfl))
  obtain ⟨j, e, q1, q2, q⟩ := q1
  subst e
  cases r1 with
  | cons r rr =>
    cases rr
    obtain ⟨t, rfl⟩ := r
    exact call_range_1 (range_it I1 (by omega) (by omega) q1 q2 (by simpa using q))
def tFor (wi : TI) (g : TG) (tb : TS) : TS := fun D σ H => wi σ H fun J H1 => ∃ W : Nat → Nat → St → Hp → Prop, (∃ m, W 0 m σ H1) ∧ ∀ i m σ H, W i m σ H →
  (J.stop i H ∧ D.nx σ H) ∨ (J.go i H ∧ ∃ N : St → Hp → Prop, (∀ σ' H', N σ' H' → ∃ m', m' < m ∧ W (i + 1) m' σ' H') ∧ ∀ x H', J.yld i H x H' → g x σ H' fun σ2 H2 => tb { D with nx := N, ct := N, bk := D.nx } σ2 H2)
def pinsAt (fp : List Addr) (h : Heap) : List (Addr × Obj) := fp.filterMap fun b => (h.get? b).map fun o => (b, o)
theorem mem_pinsAt {fp : List Addr} {h : Heap} {b : Addr} {o : Obj} (hb : b ∈ fp) (e : h.get? b = some o) : (b, o) ∈ pinsAt fp h := List.mem_filterMap.mpr ⟨b, hb, by rw [e]; rfl⟩
theorem of_pinsAt {fp : List Addr} {h : Heap} {p : Addr × Obj} (hp : p ∈ pinsAt fp h) : p.1 ∈ fp ∧ h.get? p.1 = some p.2 := by
  obtain ⟨b, hb, e⟩ := List.mem_filterMap.mp hp
  cases q : h.get? b with
  | none => rw [q] at e; cases e
  | some o =>
    rw [q] at e
    have e' : (b, o) = p := Option.some.inj e
    subst e'
    exact ⟨hb, q⟩
theorem Inv.pinned {pins : List (Addr × Obj)} {σ : St} {H : Hp} {s : Shared} {fp : List Addr} (I : Inv X pins σ H s) (hf : ∀ b ∈ fp, FpOk X pins H b) (ho : ∀ b ∈ fp, ∃ o, s.heap.get? b = some o ∧ ∀ v, o.data ≠ .cell v) : Inv X (pins ++ pinsAt fp s.heap) σ H s :=
  I.pins_of fun p hp => (List.mem_append.mp hp).elim (fun z => I.pin p (List.mem_append_right _ z)) fun z => by
    obtain ⟨hb, e⟩ := of_pinsAt z
    obtain ⟨f0, f1, f2, _⟩ := hf p.1 hb
    obtain ⟨o, e', d⟩ := ho p.1 hb
    rw [e] at e'; cases e'
    exact ⟨e, f0, f1, f2, d⟩
theorem Inv.unpinned {pins pl : List (Addr × Obj)} {σ : St} {H : Hp} {s : Shared} (I : Inv X (pins ++ pl) σ H s) : Inv X pins σ H s := I.pins_of fun p hp => I.pin p (List.mem_append_right _ (List.mem_append_left _ hp))
theorem ps_for {iter : Expr} {body : List Stmt} {wi : TI} {g : TG} {tb : TS} {pos : Pos} (hp : PassesOwn (model X.prog X.w) X.A X.env X.xe) (hc : X.calm = true) (hi : PI X tg iter wi) (hg : PG X tg g) (hb : PSs X body tb)
    (hs : ∀ x, foldedSetIterable iter X.env x = pure x := by intro _; rfl) : PS X (.For tg iter body [] pos) (tFor wi g tb) := by
  intro pins s σ H D I h
  refine wpAny_For (thn (hi pins s σ H _ I h) fun v s1 h1 => thn h1 fun itv s2 h2 => ?_) hs
  obtain ⟨it, fp, tn, J, H2, e, I2, T, st2, f2, W, ⟨m0, w0⟩, turn⟩ := h2
  subst e
  have stat : ∀ {H' : Hp}, (∀ b ∈ fp, H' b = none) → ∀ b ∈ fp, FpOk X pins H' b := fun hn b hb => ⟨hn b hb, (f2 b hb).2⟩
  refine codeAny_forLoop_any (fun n s' => ∃ i σ' H', Inv X pins σ' H' s' ∧ tn i s'.heap ∧ (∀ b ∈ fp, H' b = none) ∧ W i n σ' H') ?_ m0 ⟨0, σ, H2, I2, st2, fun b hb => (f2 b hb).1, w0⟩
  rintro n s3 ⟨i, σ3, H3, I3, st3, fr3, w3⟩
  rcases turn i n σ3 H3 w3 with ⟨stop, qn⟩ | ⟨go, N, hN, step⟩
  · refine wpAny_passesOwn hp (thn (T.done X rfl rfl rfl hc i pins s3 σ3 H3 X.xe I3 (stat fr3) st3 stop) fun r s4 ⟨hr, I4⟩ => ?_)
    subst hr
    exact wpAny_execs_nil ⟨σ3, H3, I4, qn⟩
  · refine wpAny_passesOwn hp (thn (T.item X rfl rfl rfl hc i pins s3 σ3 H3 X.xe I3 (stat fr3) st3 go) fun r s4 ⟨u, hr, h4⟩ => ?_)
    subst hr
    refine wpAny_passesOwn hp (thn h4 fun _ s5 ⟨x, H5, I5, r5, y5, st5, fr5⟩ => ?_)
    have I5' := I5.pinned (stat fr5) (T.obj _ _ st5)
    refine wpAny_passesOwn hp (thn (hg _ s5 σ3 H5 x u _ I5' r5 (step x H5 y5)) fun _ s6 ⟨σ6, H6, I6, q6⟩ => ?_)
    refine wpAny_passesOwn hp (thn (hb _ s6 σ6 H6 _ I6 q6) fun f s7 q7 => ?_)
    have again : ∀ {σ7 : St} {H7 : Hp}, Inv X (pins ++ pinsAt fp s5.heap) σ7 H7 s7 → N σ7 H7 → ∃ m, m < n ∧ ∃ i σ' H', Inv X pins σ' H' s7 ∧ tn i s7.heap ∧ (∀ b ∈ fp, H' b = none) ∧ W i m σ' H' := fun {σ7 H7} I7 n7 => by
      obtain ⟨m', hm, w7⟩ := hN σ7 H7 n7
      refine ⟨m', hm, i + 1, σ7, H7, I7.unpinned, T.keep _ _ _ st5 fun b hb o e => (I7.pin (b, o) (List.mem_append_right _ (List.mem_append_right _ (mem_pinsAt hb e)))).1, fun b hb => ?_, w7⟩
      obtain ⟨o, e, d⟩ := T.obj _ _ st5 b hb
      exact (I7.pin (b, o) (List.mem_append_right _ (List.mem_append_right _ (mem_pinsAt hb e)))).2.1
    cases f with
    | next => obtain ⟨σ7, H7, I7, n7⟩ := q7; exact again I7 n7
    | cont => obtain ⟨σ7, H7, I7, n7⟩ := q7; exact again I7 n7
    | brk => obtain ⟨σ7, H7, I7, q7⟩ := q7; exact ⟨σ7, H7, I7.unpinned, q7⟩
    | ret v => obtain ⟨x7, σ7, H7, I7, r7, q7⟩ := q7; exact ⟨x7, σ7, H7, I7.unpinned, r7, q7⟩
end
theorem for_list {K : PySem.W.Frag} {a : Addr} {xs : List V} {g : TG} {tb : TS} {D : Ends} {σ : St} {H : Hp} (Pv : Nat → St → Hp → Prop) (h0 : Pv 0 σ H) (hl : ∀ i σ H, i ≤ xs.length → Pv i σ H → SqL K H a xs)
    (hs : ∀ i x σ H, xs[i]? = some x → Pv i σ H → g x σ H fun σ2 H2 => tb { D with nx := Pv (i + 1), ct := Pv (i + 1), bk := D.nx } σ2 H2) (hd : ∀ σ H, Pv xs.length σ H → D.nx σ H) :
    ∃ W : Nat → Nat → St → Hp → Prop, (∃ m, W 0 m σ H) ∧ ∀ i m σ H, W i m σ H →
      ((Itl K a).stop i H ∧ D.nx σ H) ∨ ((Itl K a).go i H ∧ ∃ N : St → Hp → Prop, (∀ σ' H', N σ' H' → ∃ m', m' < m ∧ W (i + 1) m' σ' H') ∧ ∀ x H', (Itl K a).yld i H x H' → g x σ H' fun σ2 H2 => tb { D with nx := N, ct := N, bk := D.nx } σ2 H2) := by
  refine ⟨fun i m σ H => m = xs.length - i ∧ i ≤ xs.length ∧ Pv i σ H, ⟨xs.length, by simp, Nat.zero_le _, h0⟩, ?_⟩
  rintro i m σ H ⟨rfl, hi, p⟩
  have q := hl i σ H hi p
  by_cases hlt : i < xs.length
  · refine .inr ⟨⟨xs, xs[i], q, by simp [hlt]⟩, Pv (i + 1), fun σ' H' p' => ⟨xs.length - (i + 1), by omega, rfl, hlt, p'⟩, fun x H' y => ?_⟩
    obtain ⟨e, y⟩ := y
    subst e
    exact hs i x σ _ (y xs q) p
  · have e : i = xs.length := by omega
    subst e
    exact .inl ⟨⟨xs, q, Nat.le_refl _⟩, hd σ H p⟩
theorem for_tup {K : PySem.W.Frag} {a : Addr} {xs : List V} {g : TG} {tb : TS} {D : Ends} {σ : St} {H : Hp} (Pv : Nat → St → Hp → Prop) (h0 : Pv 0 σ H) (hl : ∀ i σ H, i ≤ xs.length → Pv i σ H → SqT K H a xs)
    (hs : ∀ i x σ H, xs[i]? = some x → Pv i σ H → g x σ H fun σ2 H2 => tb { D with nx := Pv (i + 1), ct := Pv (i + 1), bk := D.nx } σ2 H2) (hd : ∀ σ H, Pv xs.length σ H → D.nx σ H) :
    ∃ W : Nat → Nat → St → Hp → Prop, (∃ m, W 0 m σ H) ∧ ∀ i m σ H, W i m σ H →
      ((Itt K a).stop i H ∧ D.nx σ H) ∨ ((Itt K a).go i H ∧ ∃ N : St → Hp → Prop, (∀ σ' H', N σ' H' → ∃ m', m' < m ∧ W (i + 1) m' σ' H') ∧ ∀ x H', (Itt K a).yld i H x H' → g x σ H' fun σ2 H2 => tb { D with nx := N, ct := N, bk := D.nx } σ2 H2) := by
  refine ⟨fun i m σ H => m = xs.length - i ∧ i ≤ xs.length ∧ Pv i σ H, ⟨xs.length, by simp, Nat.zero_le _, h0⟩, ?_⟩
  rintro i m σ H ⟨rfl, hi, p⟩
  have q := hl i σ H hi p
  by_cases hlt : i < xs.length
  · refine .inr ⟨⟨xs, xs[i], q, by simp [hlt]⟩, Pv (i + 1), fun σ' H' p' => ⟨xs.length - (i + 1), by omega, rfl, hlt, p'⟩, fun x H' y => ?_⟩
    obtain ⟨e, y⟩ := y
    subst e
    exact hs i x σ _ (y xs q) p
  · have e : i = xs.length := by omega
    subst e
    exact .inl ⟨⟨xs, q, Nat.le_refl _⟩, hd σ H p⟩
theorem for_range {lo : Int} {n : Nat} {g : TG} {tb : TS} {D : Ends} {σ : St} {H : Hp} (Pv : Nat → St → Hp → Prop) (h0 : Pv 0 σ H)
    (hs : ∀ i σ H, i < n → Pv i σ H → g (.int (lo + i)) σ H fun σ2 H2 => tb { D with nx := Pv (i + 1), ct := Pv (i + 1), bk := D.nx } σ2 H2) (hd : ∀ σ H, Pv n σ H → D.nx σ H) :
    ∃ W : Nat → Nat → St → Hp → Prop, (∃ m, W 0 m σ H) ∧ ∀ i m σ H, W i m σ H →
      ((Itr lo n).stop i H ∧ D.nx σ H) ∨ ((Itr lo n).go i H ∧ ∃ N : St → Hp → Prop, (∀ σ' H', N σ' H' → ∃ m', m' < m ∧ W (i + 1) m' σ' H') ∧ ∀ x H', (Itr lo n).yld i H x H' → g x σ H' fun σ2 H2 => tb { D with nx := N, ct := N, bk := D.nx } σ2 H2) := by
  refine ⟨fun i m σ H => m = n - i ∧ i ≤ n ∧ Pv i σ H, ⟨n, by simp, Nat.zero_le _, h0⟩, ?_⟩
  rintro i m σ H ⟨rfl, hi, p⟩
  by_cases hlt : i < n
  · refine .inr ⟨hlt, Pv (i + 1), fun σ' H' p' => ⟨n - (i + 1), by omega, rfl, hlt, p'⟩, fun x H' y => ?_⟩
    obtain ⟨e, y⟩ := y
    subst e y
    exact hs i σ _ hlt p
  · have e : i = n := by omega
    subst e
    exact .inl ⟨Nat.le_refl _, hd σ H p⟩
end L2
namespace L2
open PySem PySem.Spec PyProof.Rows
abbrev R2 := V → V → Hp → VK → Prop
def OpR (X : Cx) (f : Value → Value → Sem Value) (r : R2) : Prop :=
  ∀ (pins : List (Addr × Obj)) (s : Shared) (σ : St) (H : Hp) (x y : V) (v u : Value) (Q : VK), Inv X pins σ H s → RelV x v → RelV y u → r x y H Q →
    wpAny (model X.prog X.w) X.A (f v u) (EP X pins σ Q) X.xe s
def UnR (X : Cx) (f : Value → Sem Value) (r : V → Hp → VK → Prop) : Prop :=
  ∀ (pins : List (Addr × Obj)) (s : Shared) (σ : St) (H : Hp) (x : V) (v : Value) (Q : VK), Inv X pins σ H s → RelV x v → r x H Q →
    wpAny (model X.prog X.w) X.A (f v) (EP X pins σ Q) X.xe s
def CallR (X : Cx) (f : Value) (r : List V → Hp → VK → Prop) : Prop :=
  ∀ (pins : List (Addr × Obj)) (s : Shared) (σ : St) (H : Hp) (xs : List V) (us : List Value) (Q : VK), Inv X pins σ H s → Vals xs us → r xs H Q →
    wpAny (model X.prog X.w) X.A (call f us) (EP X pins σ Q) X.xe s
def TruR (X : Cx) (r : V → Hp → (Bool → Hp → Prop) → Prop) : Prop :=
  ∀ (pins : List (Addr × Obj)) (s : Shared) (σ : St) (H : Hp) (x : V) (v : Value) (Q : Bool → Hp → Prop), Inv X pins σ H s → RelV x v → r x H Q →
    wpAny (model X.prog X.w) X.A (truthy v) (TP X pins σ Q) X.xe s
def tOp (r : R2) (ta tb : TE) : TE := fun σ H Q => ta σ H fun x H1 => tb σ H1 fun y H2 => r x y H2 Q
def tUn (r : V → Hp → VK → Prop) (ta : TE) : TE := fun σ H Q => ta σ H fun x H1 => r x H1 Q
def rI (C : Int → Int → Prop) (g : Int → Int → V) : R2 := fun x y H Q => ∃ i j, x = .int i ∧ y = .int j ∧ C i j ∧ Q (g i j) H
def rI0 (g : Int → Int → V) : R2 := fun x y H Q => ∃ i j, x = .int i ∧ y = .int j ∧ Q (g i j) H
def rU (g : Int → V) : V → Hp → VK → Prop := fun x H Q => ∃ i, x = .int i ∧ Q (g i) H
section
variable {X : Cx} {a b c : Expr} {ta tb tc : TE} {pos : Pos}
theorem binT (ha : PE X a ta) (hb : PE X b tb) {pins : List (Addr × Obj)} {s : Shared} {σ : St} {H : Hp} {R : V → V → Hp → Prop} (I : Inv X pins σ H s)
    (h : ta σ H fun x H1 => tb σ H1 fun y H2 => R x y H2) {Q : Value → Shared → Prop} {f : Value → Value → Sem Value}
    (hf : ∀ v u s2 x y H2, Inv X pins σ H2 s2 → RelV x v → RelV y u → R x y H2 → wpAny (model X.prog X.w) X.A (f v u) Q X.xe s2) :
    wpAny (model X.prog X.w) X.A (eval a X.env) (fun v s₁ => wpAny (model X.prog X.w) X.A (eval b X.env) (fun u s₂ => wpAny (model X.prog X.w) X.A (f v u) Q X.xe s₂) X.xe s₁) X.xe s := by
  refine thn (ha pins s σ H _ I h) fun v s1 ⟨x, H1, I1, r1, q1⟩ => ?_
  refine thn (hb pins s1 σ H1 _ I1 q1) fun u s2 ⟨y, H2, I2, r2, q2⟩ => ?_
  exact hf v u s2 x y H2 I2 r1 r2 q2
theorem pe_op {op : Operator} {r : R2} (ho : OpR X (binaryOp op) r) (ha : PE X a ta) (hb : PE X b tb) : PE X (.BinOp a op b pos) (tOp r ta tb) := by
  intro pins s σ H Q I h
  exact wpAny_BinOp (binT ha hb I h fun v u s2 x y H2 I2 rx ry q => ho pins s2 σ H2 x y v u Q I2 rx ry q)
theorem pe_un {op : UnaryOp} {r : V → Hp → VK → Prop} (ho : UnR X (unaryOp op) r) (ha : PE X a ta) : PE X (.UnaryOp op a pos) (tUn r ta) := by
  intro pins s σ H Q I h
  exact UnaryOp_ (thn (ha pins s σ H _ I h) fun v s1 ⟨x, H1, I1, r1, q1⟩ => ho pins s1 σ H1 x v Q I1 r1 q1)
theorem opI {f : Value → Value → Sem Value} {C : Int → Int → Prop} {g : Int → Int → Int}
    (rule : ∀ (i j : Int) (t u : Tok) (s : Shared) (Q : Value → Shared → Prop) (E : Value → Shared → Prop), C i j → Q (.int (g i j) s.toks) { s with toks := s.toks + 1 } → wpAny (model X.prog X.w) X.A (f (.int i t) (.int j u)) Q E s) :
    OpR X f (rI C fun i j => .int (g i j)) := by
  intro pins s σ H x y v u Q I rx ry h
  obtain ⟨i, j, rfl, rfl, hc, q⟩ := h
  obtain ⟨t, rfl⟩ := rx
  obtain ⟨t', rfl⟩ := ry
  exact rule i j t t' s _ _ hc ⟨.int (g i j), H, I.tok _, ⟨_, rfl⟩, q⟩
theorem opI0 {f : Value → Value → Sem Value} {g : Int → Int → Int}
    (rule : ∀ (i j : Int) (t u : Tok) (s : Shared) (Q : Value → Shared → Prop) (E : Value → Shared → Prop), Q (.int (g i j) s.toks) { s with toks := s.toks + 1 } → wpAny (model X.prog X.w) X.A (f (.int i t) (.int j u)) Q E s) :
    OpR X f (rI0 fun i j => .int (g i j)) := by
  intro pins s σ H x y v u Q I rx ry h
  obtain ⟨i, j, rfl, rfl, q⟩ := h
  obtain ⟨t, rfl⟩ := rx
  obtain ⟨t', rfl⟩ := ry
  exact rule i j t t' s _ _ ⟨.int (g i j), H, I.tok _, ⟨_, rfl⟩, q⟩
theorem opB0 {f : Value → Value → Sem Value} {g : Int → Int → Bool}
    (rule : ∀ (i j : Int) (t u : Tok) (s : Shared) (Q : Value → Shared → Prop) (E : Value → Shared → Prop), Q (.bool (g i j)) s → wpAny (model X.prog X.w) X.A (f (.int i t) (.int j u)) Q E s) :
    OpR X f (rI0 fun i j => .bl (g i j)) := by
  intro pins s σ H x y v u Q I rx ry h
  obtain ⟨i, j, rfl, rfl, q⟩ := h
  obtain ⟨t, rfl⟩ := rx
  obtain ⟨t', rfl⟩ := ry
  exact rule i j t t' s _ _ ⟨.bl (g i j), H, I, rfl, q⟩
def CDiv (i j : Int) : Prop := 0 < j ∧ j < 1073741824
def CDivN (i j : Int) : Prop := j ≠ 0 ∧ j.natAbs < 1073741824
def CPow (i j : Int) : Prop := 0 ≤ j ∧ j ≤ 1000000 ∧ i.natAbs < 2 ^ 64
def CMul (i j : Int) : Prop := (-(2 ^ 64) < i ∧ i < 2 ^ 64) ∨ (-(2 ^ 64) < j ∧ j < 2 ^ 64)
theorem CMul.ok {i j : Int} (h : CMul i j) : IntMulOk i j := by
  rcases h with ⟨h1, h2⟩ | ⟨h1, h2⟩
  · exact .of_left (intBits_le_64 h1 h2)
  · exact .of_right (intBits_le_64 h1 h2)
theorem two_pow_nn (k : Nat) : (0 : Int) ≤ 2 ^ k := by
  rw [two_pow_cast]
  exact Int.natCast_nonneg _
theorem op_add : OpR X (binaryOp .Add) (rI0 fun i j => .int (i + j)) := opI0 fun _ _ _ _ _ _ _ q => add_int q
theorem op_sub : OpR X (binaryOp .Sub) (rI0 fun i j => .int (i - j)) := opI0 fun _ _ _ _ _ _ _ q => sub_int q
theorem op_mul : OpR X (binaryOp .Mult) (rI CMul fun i j => .int (i * j)) := opI fun _ _ _ _ _ _ _ hc q => mul_int q hc.ok
theorem op_mod : OpR X (binaryOp .Mod) (rI (fun _ j => 0 < j) fun i j => .int (i % j)) := opI fun i j _ _ _ _ _ hc q => by
  have h1 : (0 : Int) < j := hc
  exact mod_int' (by omega) (by rw [Int.fmod_eq_emod_of_nonneg i (by omega)]; exact q)
theorem op_shl : OpR X (binaryOp .LShift) (rI CPow fun i j => .int (i * 2 ^ j.toNat)) := opI fun _ _ _ _ _ _ _ hc q => lshift_int_small hc.1 hc.2.1 hc.2.2 q
theorem op_shr : OpR X (binaryOp .RShift) (rI (fun _ j => 0 ≤ j) fun i j => .int (i / 2 ^ j.toNat)) := opI fun i j _ _ _ _ _ hc q =>
  rshift_int hc (by rw [Int.fdiv_eq_ediv_of_nonneg i (two_pow_nn _)]; exact q)
theorem op_and : OpR X (binaryOp .BitAnd) (rI0 fun i j => .int (Builtin.bitAnd i j)) := opI0 fun _ _ _ _ _ _ _ q => and_int q
theorem unI {f : Value → Sem Value} {g : Int → Int}
    (rule : ∀ (i : Int) (t : Tok) (s : Shared) (Q : Value → Shared → Prop) (E : Value → Shared → Prop), Q (.int (g i) s.toks) { s with toks := s.toks + 1 } → wpAny (model X.prog X.w) X.A (f (.int i t)) Q E s) :
    UnR X f (rU fun i => .int (g i)) := by
  intro pins s σ H x v Q I rx h
  obtain ⟨i, rfl, q⟩ := h
  obtain ⟨t, rfl⟩ := rx
  exact rule i t s _ _ ⟨.int (g i), H, I.tok _, ⟨_, rfl⟩, q⟩
theorem un_neg : UnR X (unaryOp .USub) (rU fun i => .int (-i)) := unI fun _ _ _ _ _ q => neg_int q
end
def scal : V → V → Bool
  | .non, .non => true | .non, .int _ => true | .int _, .non => true | .non, .bl _ => true | .bl _, .non => true | .non, .str _ => true | .str _, .non => true
  | .int _, .int _ => true | .bl _, .bl _ => true | .str _, .str _ => true | .byt _, .byt _ => true
  | .int _, .str _ => true | .str _, .int _ => true | .bl _, .str _ => true | .str _, .bl _ => true
  | _, _ => false
def rEq : R2 := fun x y H Q => scal x y = true ∧ Q (.bl (decide (x = y))) H
def rNe : R2 := fun x y H Q => scal x y = true ∧ Q (.bl (!decide (x = y))) H
theorem dec_int {i j : Int} : decide (V.int i = V.int j) = (i == j) := by
  rw [Bool.eq_iff_iff]
  simp
theorem dec_bl {i j : Bool} : decide (V.bl i = V.bl j) = (i == j) := by
  rw [Bool.eq_iff_iff]
  simp
theorem dec_str {i j : Str} : decide (V.str i = V.str j) = (i == j) := by
  rw [Bool.eq_iff_iff]
  simp
theorem dec_byt {i j : Array UInt8} : decide (V.byt i = V.byt j) = (i.toList == j.toList) := by
  rw [Bool.eq_iff_iff]
  cases i
  cases j
  simp
section
variable {X : Cx} {a b c : Expr} {ta tb tc : TE} {pos : Pos}
theorem fin_bl {pins : List (Addr × Obj)} {σ : St} {H : Hp} {s : Shared} {Q : VK} {k k' : Bool} (I : Inv X pins σ H s) (q : Q (.bl k) H) (e : k = k') : EP X pins σ Q (.bool k') s := by
  subst e
  exact ⟨.bl k, H, I, rfl, q⟩
theorem op_eq : OpR X (compareOp .Eq) rEq := by
  intro pins s σ H x y v u Q I rx ry h
  obtain ⟨hs, q⟩ := h
  cases x with
  | non =>
    cases rx
    cases y with
    | non => cases ry; exact PySem.EqNone.eq_none_none (fin_bl I q (by simp))
    | bl j => cases ry; exact PySem.EqNone.eq_none_bool (fin_bl I q (by simp))
    | int j => obtain ⟨t', rfl⟩ := ry; exact PySem.EqNone.eq_none_int (fin_bl I q (by simp))
    | str j => obtain ⟨t', rfl⟩ := ry; exact PySem.EqNone.eq_none_str (fin_bl I q (by simp))
    | _ => exact absurd (show false = true from hs) Bool.false_ne_true
  | bl i =>
    cases rx
    cases y with
    | non => cases ry; exact PySem.EqNone.eq_bool_none (fin_bl I q (by simp))
    | bl j => cases ry; exact eq_bool (fin_bl I q dec_bl)
    | str j => obtain ⟨t', rfl⟩ := ry; exact PySem.EqMixed.eq_bool_str (fin_bl I q (by simp))
    | _ => exact absurd (show false = true from hs) Bool.false_ne_true
  | int i =>
    obtain ⟨t, rfl⟩ := rx
    cases y with
    | non => cases ry; exact PySem.EqNone.eq_int_none (fin_bl I q (by simp))
    | int j => obtain ⟨t', rfl⟩ := ry; exact eq_int (fin_bl I q dec_int)
    | str j => obtain ⟨t', rfl⟩ := ry; exact PySem.EqMixed.eq_int_str (fin_bl I q (by simp))
    | _ => exact absurd (show false = true from hs) Bool.false_ne_true
  | str i =>
    obtain ⟨t, rfl⟩ := rx
    cases y with
    | non => cases ry; exact PySem.EqNone.eq_str_none (fin_bl I q (by simp))
    | bl j => cases ry; exact PySem.EqMixed.eq_str_bool (fin_bl I q (by simp))
    | int j => obtain ⟨t', rfl⟩ := ry; exact PySem.EqMixed.eq_str_int (fin_bl I q (by simp))
    | str j => obtain ⟨t', rfl⟩ := ry; exact eq_str (fin_bl I q dec_str)
    | _ => exact absurd (show false = true from hs) Bool.false_ne_true
  | byt i =>
    obtain ⟨t, rfl⟩ := rx
    cases y with
    | byt j => obtain ⟨t', rfl⟩ := ry; exact PySem.W.eq_bytes (fin_bl I q dec_byt)
    | _ => exact absurd (show false = true from hs) Bool.false_ne_true
  | _ => cases y <;> exact absurd (show false = true from hs) Bool.false_ne_true
theorem op_ne : OpR X (compareOp .NotEq) rNe := by
  intro pins s σ H x y v u Q I rx ry h
  obtain ⟨hs, q⟩ := h
  cases x with
  | non =>
    cases rx
    cases y with
    | non => cases ry; exact PySem.EqNone.ne_none_none (fin_bl I q (by simp))
    | bl j => cases ry; exact PySem.EqNone.ne_none_bool (fin_bl I q (by simp))
    | int j => obtain ⟨t', rfl⟩ := ry; exact PySem.EqNone.ne_none_int (fin_bl I q (by simp))
    | str j => obtain ⟨t', rfl⟩ := ry; exact PySem.EqNone.ne_none_str (fin_bl I q (by simp))
    | _ => exact absurd (show false = true from hs) Bool.false_ne_true
  | bl i =>
    cases rx
    cases y with
    | non => cases ry; exact PySem.EqNone.ne_bool_none (fin_bl I q (by simp))
    | bl j => cases ry; exact ne_bool (fin_bl I q (congrArg not dec_bl))
    | str j => obtain ⟨t', rfl⟩ := ry; exact PySem.EqMixed.ne_bool_str (fin_bl I q (by simp))
    | _ => exact absurd (show false = true from hs) Bool.false_ne_true
  | int i =>
    obtain ⟨t, rfl⟩ := rx
    cases y with
    | non => cases ry; exact PySem.EqNone.ne_int_none (fin_bl I q (by simp))
    | int j => obtain ⟨t', rfl⟩ := ry; exact ne_int (fin_bl I q (congrArg not dec_int))
    | str j => obtain ⟨t', rfl⟩ := ry; exact PySem.EqMixed.ne_int_str (fin_bl I q (by simp))
    | _ => exact absurd (show false = true from hs) Bool.false_ne_true
  | str i =>
    obtain ⟨t, rfl⟩ := rx
    cases y with
    | non => cases ry; exact PySem.EqNone.ne_str_none (fin_bl I q (by simp))
    | bl j => cases ry; exact PySem.EqMixed.ne_str_bool (fin_bl I q (by simp))
    | int j => obtain ⟨t', rfl⟩ := ry; exact PySem.EqMixed.ne_str_int (fin_bl I q (by simp))
    | str j => obtain ⟨t', rfl⟩ := ry; exact ne_str (fin_bl I q (congrArg not dec_str))
    | _ => exact absurd (show false = true from hs) Bool.false_ne_true
  | byt i =>
    obtain ⟨t, rfl⟩ := rx
    cases y with
    | byt j => obtain ⟨t', rfl⟩ := ry; exact PySem.W.ne_bytes (fin_bl I q (congrArg not dec_byt))
    | _ => exact absurd (show false = true from hs) Bool.false_ne_true
  | _ => cases y <;> exact absurd (show false = true from hs) Bool.false_ne_true
theorem op_lt : OpR X (compareOp .Lt) (rI0 fun i j => .bl (decide (i < j))) := opB0 fun _ _ _ _ _ _ _ q => lt_int q
theorem op_le : OpR X (compareOp .LtE) (rI0 fun i j => .bl (decide (i ≤ j))) := opB0 fun _ _ _ _ _ _ _ q => le_int q
theorem op_gt : OpR X (compareOp .Gt) (rI0 fun i j => .bl (decide (j < i))) := opB0 fun _ _ _ _ _ _ _ q => gt_int q
theorem op_isN : OpR X (compareOp .Is) (fun x y H Q => y = .non ∧ Q (.bl (decide (x = .non))) H) := by
  intro pins s σ H x y v u Q I rx ry h
  obtain ⟨rfl, q⟩ := h
  cases ry
  refine is_none_gen (fin_bl I q ?_)
  cases x <;> first
    | (cases rx; rfl)
    | (obtain ⟨t, rfl⟩ := rx; rfl)
def isObj : HO → Bool
  | .lst _ => true
  | .ins _ _ _ => true
  | _ => false
theorem nomark (b : Expr) {op : CmpOp} (h : op ≠ .In := by decide) (h2 : op ≠ .NotIn := by decide) : behindInMarks op b = false := by
  have e1 : (op == CmpOp.In) = false := by cases op <;> first | rfl | exact absurd rfl h
  have e2 : (op == CmpOp.NotIn) = false := by cases op <;> first | rfl | exact absurd rfl h2
  cases b <;> simp [behindInMarks, e1, e2]
theorem pe_cmpR {op : CmpOp} {r : R2} (ho : OpR X (compareOp op) r) (ha : PE X a ta) (hb : PE X b tb) (hm : behindInMarks op b = false) : PE X (.Compare a [op] [b] pos) (tOp r ta tb) := by
  intro pins s σ H Q I h
  exact wpAny_Compare1 (binT ha hb I h fun v u s2 x y H2 I2 rx ry q => ho pins s2 σ H2 x y v u Q I2 rx ry q) hm
def tTest (t : TE) : TT := fun σ H Q => t σ H fun x H' => ∃ k, x = .bl k ∧ Q k H'
theorem pt_cmpR {op : CmpOp} {r : R2} (ho : OpR X (compareOp op) r) (ha : PE X a ta) (hb : PE X b tb) (hm : behindInMarks op b = false) : PT X (.Compare a [op] [b] pos) (tTest (tOp r ta tb)) := by
  intro pins s σ H Q I h
  refine wpAny_isTrue_Compare1 (thn (ha pins s σ H _ I h) fun v s1 ⟨x, H1, I1, r1, q1⟩ => thn (hb pins s1 σ H1 _ I1 q1) fun u s2 ⟨y, H2, I2, r2, q2⟩ =>
    thn (ho pins s2 σ H2 x y v u _ I2 r1 r2 q2) fun c s3 ⟨z, H3, I3, r3, k, e, q3⟩ => ?_) hm
  subst e
  cases r3
  exact wpAny_truthy_bool ⟨H3, I3, q3⟩
def tChain (r r' : R2) (ta tb tc : TE) : TE := fun σ H Q => ta σ H fun x H1 => tb σ H1 fun y H2 => r x y H2 fun z H3 => ∃ k, z = .bl k ∧
  (if k = true then tc σ H3 fun w' H4 => r' y w' H4 Q else Q (.bl false) H3)
theorem pe_chain {op op' : CmpOp} {r r' : R2} (ho : OpR X (compareOp op) r) (ho' : OpR X (compareOp op') r') (ha : PE X a ta) (hb : PE X b tb) (hc : PE X c tc)
    (hm : lastMarks [op, op'] [b, c] = false := by with_unfolding_all rfl) : PE X (.Compare a [op, op'] [b, c] pos) (tChain r r' ta tb tc) := by
  intro pins s σ H Q I h
  refine Compare_chain (thn (ha pins s σ H _ I h) fun v s1 ⟨x, H1, I1, r1, q1⟩ => chain_link (thn (hb pins s1 σ H1 _ I1 q1) fun u s2 ⟨y, H2, I2, r2, q2⟩ =>
    thn (ho pins s2 σ H2 x y v u _ I2 r1 r2 q2) fun d s3 ⟨z, H3, I3, r3, k, e, q3⟩ => ?_)) hm
  subst e
  cases r3
  refine wpAny_truthy_bool ?_
  cases k with
  | false => exact ite_ff ⟨.bl false, H3, I3, rfl, q3⟩
  | true => exact ite_tt (chain_last (thn (hc pins s3 σ H3 _ I3 q3) fun w' s4 ⟨z', H4, I4, r4, q4⟩ => ho' pins s4 σ H4 y z' u w' Q I4 r2 r4 q4))
def TruV (K : PySem.W.Frag) (x : V) (H : Hp) (k : Bool) : Prop :=
  match x with
  | .non => k = false
  | .bl b => k = b
  | .int i => k = (i != 0)
  | .str y => y.length ≤ sizeLine ∧ k = ((y.length : Int) != 0)
  | .byt y => y.size ≤ sizeLine ∧ k = ((y.size : Int) != 0)
  | .ref p => (∃ xs, SqL K H p xs ∧ k = !xs.isEmpty) ∨ (∃ xs, SqT K H p xs ∧ k = !xs.isEmpty) ∨ ∃ kvs, H p = some (.dK kvs) ∧ k = !kvs.isEmpty
  | _ => False
theorem line63 : (sizeLine : Nat) < 2 ^ 63 := by rw [sizeLine_eq]; decide
def PlainIxT (b : Expr) : Prop := ∀ o i, subscripted b false o i = operate [o, i] (getItem o i)
theorem vals1 {x : V} {us : List Value} (r : Vals [x] us) : ∃ u, us = [u] ∧ RelV x u := by
  cases r with
  | cons r1 r2 => cases r2; exact ⟨_, rfl, r1⟩
theorem vals2 {x y : V} {us : List Value} (r : Vals [x, y] us) : ∃ u w', us = [u, w'] ∧ RelV x u ∧ RelV y w' := by
  cases r with
  | cons r1 r2 =>
    cases r2 with
    | cons r3 r4 => cases r4; exact ⟨_, _, rfl, r1, r3⟩
theorem call_int1 : CallR X (.type "int") (fun xs H Q => (∃ i, xs = [.int i] ∧ Q (.int i) H) ∨ ∃ k, xs = [.bl k] ∧ Q (.int (if k then 1 else 0)) H) := by
  intro pins s σ H xs us Q I r h
  rcases h with ⟨i, rfl, q⟩ | ⟨k, rfl, q⟩
  · obtain ⟨u, rfl, t, rfl⟩ := vals1 r
    exact call_int_int ⟨.int i, H, I, ⟨_, rfl⟩, q⟩
  · obtain ⟨u, rfl, r1⟩ := vals1 r
    cases r1
    exact call_int_bool ⟨.int (if k then 1 else 0), H, I.tok _, ⟨_, rfl⟩, q⟩
def LenV (K : PySem.W.Frag) (x : V) (H : Hp) (n : Nat) : Prop :=
  match x with
  | .str y => y.length ≤ sizeLine ∧ n = y.length
  | .byt y => y.size ≤ sizeLine ∧ n = y.size
  | .ref p => (∃ xs, SqL K H p xs ∧ n = xs.length) ∨ ∃ xs, SqT K H p xs ∧ n = xs.length
  | _ => False
end
end L2
namespace L2
open PySem PySem.Spec PyProof.Rows
structure ObjM (h : Heap) (x dx C : Addr) (mA : Str → Option Value) : Prop where
  obj : h.get? x = some (PySem.W.instObj C dx)
  ns : h.Ns1 dx mA
  ne : dx ≠ x
theorem lookIn_ns {h : Heap} {dx : Addr} {mA : Str → Option Value} (n : h.Ns1 dx mA) : ∃ od, h.get? dx = some od ∧ ∀ name, PySem.W.lookIn name od = some (mA name) := by
  obtain ⟨o, es, ep, ho, hd, hk, _, hm⟩ := n
  refine ⟨o, ho, fun name => ?_⟩
  have e := hm name
  unfold nsFind findBy at e
  rw [← Array.find?_toList] at e
  unfold PySem.W.lookIn
  rw [hd]
  dsimp only
  split
  · rename_i y q
    rw [q] at e
    exact congrArg some e
  · rename_i q
    rw [q] at e
    have a : es.toList.any (·.refKey) = false := by
      rw [List.any_eq_false]
      intro y hy
      obtain ⟨z, t, hkey⟩ := hk y (Array.mem_toList_iff.mp hy)
      simp [DictEntry.refKey, hkey]
    have a' : ¬ es.toList.any (·.refKey) = true := by rw [a]; exact Bool.false_ne_true
    rw [if_neg a']
    exact congrArg some e
theorem ObjM.look {h : Heap} {x dx C : Addr} {mA : Str → Option Value} (I : ObjM h x dx C mA) : ∃ od, PySem.W.InstAt h x (PySem.W.instObj C dx) C (some od) ∧ ∀ name, PySem.W.lookIn name od = some (mA name) :=
  let ⟨od, ho, hl⟩ := lookIn_ns I.ns
  ⟨od, ⟨I.obj, rfl, rfl, ho⟩, hl⟩
section
variable {prog : Program} {w : World} {A : Around} {E : Value → Shared → Prop} {s : Shared} {K : PySem.W.Frag} {x dx C f : Addr} {mA : Str → Option Value} {name : Str} {v : Value}
theorem get_map {expr : Bool} {Q : Value → Shared → Prop} (X : K.In s.heap) (I : ObjM s.heap x dx C mA) (hg : PySem.W.plainGet K C name = true) (hh : PySem.W.hasDictIn K C = true)
    (ha : PySem.W.findIn K (.ref C) name = some none) (hv : mA name = some v) (hv' : PySem.W.handedIn v = true) (h : Q v { s with toks := s.toks + 1 }) :
    wpAny (model prog w) A (getAttr (.ref x) name expr) Q E s := by
  obtain ⟨od, J, hl⟩ := I.look
  exact PySem.W.get_value X J (PySem.W.plainGet_of hg).1 (PySem.W.findObj_own hh ha rfl (by rw [hl, hv])) hv' h
theorem get_meth {pl : Sem Bool} {Q : Value × List Value → Shared → Prop} (X : K.In s.heap) (I : ObjM s.heap x dx C mA) (hg : PySem.W.plainGet K C name = true)
    (hf : PySem.W.findIn K (.ref C) name = some (some (.ref f))) (ht : PySem.W.isFn K (.ref f) = true) (hv : mA name = none) (h : Q (.ref f, [.ref x]) s) :
    wpAny (model prog w) A (getMethod (.ref x) name pl) Q E s := by
  obtain ⟨od, J, hl⟩ := I.look
  exact PySem.W.method_fn X J (PySem.W.plainGet_of hg).1 (PySem.W.plainGet_of hg).2 hf (beq_iff_eq.mp ht) (by show (PySem.W.lookIn name od).map (·.isSome) = some false; rw [hl, hv]; rfl) h
theorem set_map {ns : List Str} {Q : Unit → Shared → Prop} (X : K.In s.heap) (I : ObjM s.heap x dx C mA)
    (hs : PySem.W.findIn K (.ref C) "__setattr__" = some (some (.builtin "object.__setattr__"))) (hp : PySem.W.plainOver K C = true) (ht : PySem.W.takerIn K C name = some none) (hh : PySem.W.hasDictIn K C = true)
    (hw : PySem.Within mA ns) (hsz : ns.length ≤ sizeLine)
    (h : ∀ h', ObjM h' x dx C (fun y => if y = name then some v else mA y) → Heap.SameBut dx s.heap h' → Q () { s with heap := h', toks := s.toks + 2 }) :
    wpAny (model prog w) A (setAttr (.ref x) name v) Q E s := by
  obtain ⟨od, J, hl⟩ := I.look
  refine PySem.W.set_plain X J hs (PySem.W.osa_open (s := { s with toks := s.toks + 1 }) (r := none) X J hp ht fun b => ?_)
  obtain ⟨cd, hc, hd'⟩ := PySem.W.any_some hh
  have hx : s.heap.get? x = some ⟨.ref C, some dx, .plain, #[]⟩ := I.obj
  refine wpAny_bind (wpAny_pure (wpAny_bind (wpAny_bind (wpAny_loadPart hx (wpAny_bind (PySem.W.Looks.here (s := { s with toks := s.toks + 1 }) (PySem.W.looks_clsIn X hc) ?_))))))
  rw [hd']
  refine wpAny_pure (a := some dx) (wpAny_bind (wpAny_pure (wpAny_bind ?_)))
  refine wpAny_nsSet1 (s := { s with toks := s.toks + 1 }) I.ns fun h' hn2 hs2 => ?_
  obtain ⟨oD, esD, epD, hoD, hdD, hcD⟩ := hn2.count (PySem.Within.cons name v hw)
  refine wpAny_bind (wpAny_lookBehind hoD (by rw [hdD]; exact pastItsLine_dict (Nat.le_trans hcD (by rw [List.length_cons]; omega))) ?_)
  exact wpAny_pure (h _ ⟨(hs2.2 _ (Ne.symm I.ne)).trans I.obj, hn2, I.ne⟩ hs2)
theorem make_map {R : Result → Shared → Prop} {vs : List Value} {kw : List (Str × Value)} (X : K.In s.heap) (hm : PySem.W.makesIn K C = true)
    (hi : PySem.W.findIn K (.ref C) "__init__" = some (some (.ref f))) (hf : PySem.W.typeIn K (.ref f) = some (.type "function"))
    (h : codeAny (model prog w) (A.under (.builtin "type.__call__" ⟨.ref C :: vs, kw⟩)) (.call (.ref f) ⟨.ref (s.heap.objs.size + 1) :: vs, kw⟩) (PySem.W.InitBack (s.heap.objs.size + 1) R)
      { s with heap := (s.heap.push PySem.W.emptyDict).push (PySem.W.instObj C s.heap.objs.size) }) :
    codeAny (model prog w) A (.call (.ref C) ⟨vs, kw⟩) R s := by
  obtain ⟨hh, g, d, t, os⟩ := s
  exact PySem.W.make_core (PySem.W.makes_of X hm) (PySem.W.looks_findIn X hi) (fun self => PySem.W.bind_fn X self hf) (.inl rfl) h
end
def putF (f : Str) (v : V) : List (Str × V) → List (Str × V)
  | [] => [(f, v)]
  | (g, x) :: r => if g = f then (g, v) :: r else (g, x) :: putF f v r
theorem lookup_putF (f g : Str) (v : V) : ∀ fs : List (Str × V), (putF f v fs).lookup g = if g = f then some v else fs.lookup g
  | [] => by
    show List.lookup g [(f, v)] = _
    by_cases h : g = f
    · have hb : (g == f) = true := beq_iff_eq.mpr h
      simp only [List.lookup, hb, if_pos h]
    · have hb : (g == f) = false := beq_eq_false_iff_ne.mpr h
      simp only [List.lookup, hb, if_neg h]
  | (k, x) :: r => by
    have ih := lookup_putF f g v r
    rw [show putF f v ((k, x) :: r) = (if k = f then (k, v) :: r else (k, x) :: putF f v r) from rfl]
    by_cases hk : k = f
    · rw [if_pos hk]
      by_cases h : g = k
      · have hb : (g == k) = true := beq_iff_eq.mpr h
        simp only [List.lookup, hb, if_pos (h.trans hk)]
      · have hb : (g == k) = false := beq_eq_false_iff_ne.mpr h
        simp only [List.lookup, hb, if_neg (fun e : g = f => h (e.trans hk.symm))]
    · rw [if_neg hk]
      by_cases h : g = k
      · have hb : (g == k) = true := beq_iff_eq.mpr h
        simp only [List.lookup, hb, if_neg (fun e : g = f => hk (h.symm.trans e))]
      · have hb : (g == k) = false := beq_eq_false_iff_ne.mpr h
        simp only [List.lookup, hb]
        exact ih
theorem keys_putF (f : Str) (v : V) : ∀ fs : List (Str × V), f ∈ (putF f v fs).map (·.1) ∧ ∀ g, g ∈ fs.map (·.1) → g ∈ (putF f v fs).map (·.1)
  | [] => ⟨by simp [putF], fun g h => by simp at h⟩
  | (k, x) :: r => by
    obtain ⟨i1, i2⟩ := keys_putF f v r
    rw [show putF f v ((k, x) :: r) = (if k = f then (k, v) :: r else (k, x) :: putF f v r) from rfl]
    by_cases hk : k = f
    · rw [if_pos hk]
      subst hk
      exact ⟨by simp, fun g h => by simpa using h⟩
    · rw [if_neg hk]
      refine ⟨?_, fun g h => ?_⟩
      · rw [List.map_cons]
        exact List.mem_cons_of_mem _ i1
      · rw [List.map_cons] at h ⊢
        rcases List.mem_cons.mp h with e | e
        · exact List.mem_cons.mpr (.inl e)
        · exact List.mem_cons_of_mem _ (i2 g e)
theorem length_putF (f : Str) (v : V) : ∀ fs : List (Str × V), (putF f v fs).length ≤ fs.length + 1
  | [] => by simp [putF]
  | (k, x) :: r => by
    have ih := length_putF f v r
    rw [show putF f v ((k, x) :: r) = (if k = f then (k, v) :: r else (k, x) :: putF f v r) from rfl]
    by_cases hk : k = f
    · rw [if_pos hk, List.length_cons, List.length_cons]; omega
    · rw [if_neg hk, List.length_cons, List.length_cons]; omega
theorem RelO.some_of {v : V} {o : Option Value} (r : RelO (some v) o) : ∃ u, o = some u ∧ RelV v u := by
  cases o with
  | none => exact (show False from r).elim
  | some u => exact ⟨u, rfl, r⟩
theorem RelO.none_of {o : Option Value} (r : RelO none o) : o = none := by
  cases o with
  | none => rfl
  | some u => exact (show False from r).elim
theorem handed_of {v : V} {u : Value} (r : RelV v u) : PySem.W.handedIn u = true := by
  cases v with
  | non => cases (show u = Value.none from r); rfl
  | bl b => cases (show u = Value.bool b from r); rfl
  | int i => obtain ⟨t, e⟩ := (show ∃ t, u = Value.int i t from r); cases e; rfl
  | str x => obtain ⟨t, e⟩ := (show ∃ t, u = Value.str x t from r); cases e; rfl
  | byt b => obtain ⟨t, e⟩ := (show ∃ t, u = Value.bytes b t from r); cases e; rfl
  | flt b => obtain ⟨t, e⟩ := (show ∃ t, u = Value.float b t from r); cases e; rfl
  | ref a => cases (show u = Value.ref a from r); rfl
  | ty n => cases (show u = Value.type n from r); rfl
section
variable {P : Program} {w : World} {H H' : Hp} {h h' : Heap} {a C dx : Addr} {fs fs' : List (Str × V)}
theorem ins_get (hok : HOk P w H h) (e : H a = some (.ins C dx fs)) : ∃ mA, ObjM h a dx C mA ∧ (∀ f, RelO (fs.lookup f) (mA f)) ∧ PySem.Within mA (fs.map (·.1)) ∧ fs.length ≤ 1000 ∧ H dx = some (.own a) := by
  obtain ⟨d, z, ne, ob, mA, n, r, q⟩ := (show ObjOk P w H h a (.ins C dx fs) from hok a _ e)
  exact ⟨mA, ⟨ob, n, ne⟩, r, q, z, d⟩
end
structure Cls (K : PySem.W.Frag) (C : Addr) : Prop where
  pg : PySem.W.plainGet K C Str.empty = true
  hd : PySem.W.hasDictIn K C = true
  po : PySem.W.plainOver K C = true
  sa : PySem.W.findIn K (.ref C) "__setattr__" = some (some (.builtin "object.__setattr__"))
theorem Cls.get {K : PySem.W.Frag} {C : Addr} (c : Cls K C) (f : Str) : PySem.W.plainGet K C f = true := c.pg
def NoAttr (K : PySem.W.Frag) (C : Addr) (f : Str) : Prop := PySem.W.findIn K (.ref C) f = some none
theorem NoAttr.taker {K : PySem.W.Frag} {C : Addr} {f : Str} (n : NoAttr K C f) : PySem.W.takerIn K C f = some none := by
  unfold PySem.W.takerIn
  rw [show PySem.W.findIn K (.ref C) f = some none from n]
  rfl
structure Con (K : PySem.W.Frag) (C : Addr) (f : Str) (v : V) (u : Value) : Prop where
  at_ : PySem.W.findIn K (.ref C) f = some (some u)
  rel : RelV v u
  get : PySem.W.specialIn K u "__get__" = some none
  cp : PySem.W.copiedNames.contains f = false
structure Meth (K : PySem.W.Frag) (C : Addr) (m : Str) (f : Addr) : Prop where
  at_ : PySem.W.findIn K (.ref C) m = some (some (.ref f))
  fn : PySem.W.isFn K (.ref f) = true
  kp : PySem.W.keepIn K (.ref f) = true
section
variable {X : Cx} {pins : List (Addr × Obj)} {σ : St} {H : Hp} {s : Shared} {a C dx : Addr} {fs : List (Str × V)} {f : Str} {v : V} {A : Around} {E : Value → Shared → Prop}
theorem getattr_ok {b : Bool} {Q : Value → Shared → Prop} (I : Inv X pins σ H s) (e : H a = some (.ins C dx fs)) (c : Cls X.K C) (n : NoAttr X.K C f) (l : fs.lookup f = some v)
    (h : ∀ u s', Inv X pins σ H s' → RelV v u → Q u s') : wpAny (model X.prog X.w) A (getAttr (.ref a) f b) Q E s := by
  obtain ⟨mA, O, r, _, _, _⟩ := ins_get I.hok e
  obtain ⟨u, hu, ru⟩ := RelO.some_of (v := v) (o := mA f) (by rw [← l]; exact r f)
  exact get_map I.kIn O (c.get f) c.hd n hu (handed_of ru) (h u _ (I.tok _) ru)
theorem getmeth_ok {m : Str} {g : Addr} {pl : Sem Bool} {Q : Value × List Value → Shared → Prop} (I : Inv X pins σ H s) (e : H a = some (.ins C dx fs)) (c : Cls X.K C) (k : Meth X.K C m g) (l : fs.lookup m = none)
    (h : Q (.ref g, [.ref a]) s) : wpAny (model X.prog X.w) A (getMethod (.ref a) m pl) Q E s := by
  obtain ⟨mA, O, r, _, _, _⟩ := ins_get I.hok e
  have hn : mA m = none := RelO.none_of (by rw [← l]; exact r m)
  exact get_meth I.kIn O (c.get m) k.at_ k.fn hn h
theorem setattr_ok {y : V} {u : Value} {Q : Unit → Shared → Prop} (I : Inv X pins σ H s) (e : H a = some (.ins C dx fs)) (c : Cls X.K C) (n : NoAttr X.K C f) (hl : fs.length < 1000) (ry : RelV y u)
    (h : ∀ s', Inv X pins σ (upd H a (.ins C dx (putF f y fs))) s' → Q () s') : wpAny (model X.prog X.w) A (setAttr (.ref a) f u) Q E s := by
  obtain ⟨mA, O, r, wi, _, ho⟩ := ins_get I.hok e
  have hz : (fs.map (·.1)).length ≤ sizeLine := by rw [List.length_map, sizeLine_eq]; omega
  refine set_map I.kIn O c.sa c.po n.taker c.hd wi hz fun h' O' sb => h _ ?_
  have hd : ∃ o, h'.get? dx = some o := let ⟨o, _, _, e', _⟩ := O'.ns; ⟨o, e'⟩
  refine I.write (x := a) (e := dx) (by rw [e]; exact True.intro) (.inr ho) (fun b q hb z => (sb.2 b hb).trans z) hd ?_
  refine ⟨by rw [upd_ne O.ne]; exact ho, ?_, O.ne, O'.obj, _, O'.ns, fun g => ?_, fun g hg => ?_⟩
  · have := length_putF f y fs; omega
  · show RelO ((putF f y fs).lookup g) (if g = f then some u else mA g)
    rw [lookup_putF]
    by_cases q : g = f
    · rw [if_pos q, if_pos q]; exact ry
    · rw [if_neg q, if_neg q]; exact r g
  · by_cases q : g = f
    · rw [q]; exact (keys_putF f y fs).1
    · refine (keys_putF f y fs).2 g (wi g fun z => hg ?_)
      show (if g = f then some u else mA g) = none
      rw [if_neg q]; exact z
theorem Inv.made (I : Inv X pins σ H s) : Inv X pins σ (upd (upd H s.heap.objs.size (.own (s.heap.objs.size + 1))) (s.heap.objs.size + 1) (.ins C s.heap.objs.size []))
    { s with heap := (s.heap.push PySem.W.emptyDict).push (PySem.W.instObj C s.heap.objs.size) } := by
  have e1 : (s.heap.push PySem.W.emptyDict).get? s.heap.objs.size = some PySem.W.emptyDict := Heap.get?_push_size s.heap rfl
  have e2 : ((s.heap.push PySem.W.emptyDict).push (PySem.W.instObj C s.heap.objs.size)).get? (s.heap.objs.size + 1) = some (PySem.W.instObj C s.heap.objs.size) := by
    have := Heap.get?_push_size (s.heap.push PySem.W.emptyDict) (o := PySem.W.instObj C s.heap.objs.size) rfl
    rwa [Heap.size_push] at this
  have e3 : (s.heap.push PySem.W.emptyDict).Ns s.heap.objs.size (fun _ => none) := ⟨PySem.W.emptyDict, #[], _, e1, rfl, (fun e he => absurd he (by simp)), fun _ => rfl⟩
  have I1 := I.laid (a := s.heap.objs.size) (o := .own (s.heap.objs.size + 1)) (h' := s.heap.push PySem.W.emptyDict) (t' := s.toks) (fun b u q => Heap.get?_push_of_some _ q) (Nat.le_refl _) ⟨_, e1⟩
  refine I1.laid (a := s.heap.objs.size + 1) (o := .ins C s.heap.objs.size []) (t' := s.toks) (fun b u q => Heap.get?_push_of_some _ q) (Nat.le_of_eq (Heap.size_push _ _)) ?_
  have ne : s.heap.objs.size ≠ s.heap.objs.size + 1 := Nat.ne_of_lt (Nat.lt_succ_self _)
  refine ⟨by rw [upd_ne ne, upd_same], Nat.zero_le _, ne, e2, fun _ => none, (Heap.Ns1.of_empty e3).at fun o q => Heap.get?_push_of_some _ q, fun _ => True.intro, fun y hy => absurd rfl hy⟩
theorem attr_of {prog : Program} {w : World} {env : Env} {e : Expr} {f : Str} {pos : Pos} {s : Shared} {Q : Value → Shared → Prop} (hb : attributeBase e f env (eval e env) = eval e env)
    (h : wpAny (model prog w) A (eval e env) (fun o s₁ => wpAny (model prog w) A (getAttr o f true) Q E s₁) E s) : wpAny (model prog w) A (eval (.Attribute e f pos) env) Q E s :=
  Attribute_any_ h (by rw [arm_eval_Attribute, hb])
end
def tFld (K : PySem.W.Frag) (ta : TE) (f : Str) : TE := fun σ H Q => ta σ H fun x H1 => ∃ a C dx fs v, x = .ref a ∧ H1 a = some (.ins C dx fs) ∧ Cls K C ∧ NoAttr K C f ∧ fs.lookup f = some v ∧ Q v H1
def tCon (K : PySem.W.Frag) (ta : TE) (f : Str) : TE := fun σ H Q => ta σ H fun x H1 => ∃ a C dx fs v u, x = .ref a ∧ H1 a = some (.ins C dx fs) ∧ Cls K C ∧ Con K C f v u ∧ fs.lookup f = none ∧ Q v H1
def sFld (K : PySem.W.Frag) (ta tv : TE) (f : Str) : TS := fun D σ H => tv σ H fun y H1 => ta σ H1 fun x H2 => ∃ a C dx fs, x = .ref a ∧ H2 a = some (.ins C dx fs) ∧ Cls K C ∧ NoAttr K C f ∧ fs.length < 1000 ∧
  D.nx σ (upd H2 a (.ins C dx (putF f y fs)))
def InOp (X : Cx) (op : Operator) (rd : V → V → Hp → VK → Prop) : Prop :=
  ∀ (pins : List (Addr × Obj)) (s : Shared) (σ : St) (H : Hp) (x y : V) (u v : Value) (Q : VK), Inv X pins σ H s → RelV x u → RelV y v → rd x y H Q → wpAny (model X.prog X.w) X.A (inplaceOp op u v) (EP X pins σ Q) X.xe s
def sFldAug (K : PySem.W.Frag) (ta tv : TE) (rd : V → V → Hp → VK → Prop) (f : Str) : TS := fun D σ H => ta σ H fun x H1 => ∃ a C dx fs v, x = .ref a ∧ H1 a = some (.ins C dx fs) ∧ Cls K C ∧ NoAttr K C f ∧ fs.lookup f = some v ∧
  tv σ H1 fun y H2 => rd v y H2 fun z H3 => ∃ dx' fs', H3 a = some (.ins C dx' fs') ∧ fs'.length < 1000 ∧ D.nx σ (upd H3 a (.ins C dx' (putF f z fs')))
section
variable {X : Cx} {o e value : Expr} {f : Str} {pos pos' tpos : Pos} {ta tv : TE}
theorem pe_fld (he : PE X e ta) (hb : attributeBase e f X.env (eval e X.env) = eval e X.env) : PE X (.Attribute e f pos) (tFld X.K ta f) := by
  intro pins s σ H Q I h
  refine attr_of hb (thn (he pins s σ H _ I h) fun u s1 ⟨x, H1, I1, rx, a, C, dx, fs, v, ex, ea, c, n, l, q⟩ => ?_)
  subst ex
  obtain rfl : u = Value.ref a := rx
  exact getattr_ok I1 ea c n l fun u' s2 I2 ru => ⟨v, H1, I2, ru, q⟩
theorem ps_fld (ha : PE X o ta) (hv : PE X value tv) (hs : swapsWith value (some (.Attribute o f pos')) pos.line X.env = pure false) : PS X (.Assign [.Attribute o f pos'] value pos) (sFld X.K ta tv f) := by
  intro pins s σ H D I h
  refine plainObj_wpAny_Assign_Attribute (thn (hv pins s σ H _ I h) fun u s1 ⟨y, H1, I1, ry, q⟩ => thn (ha pins s1 σ H1 _ I1 q) fun ov s2 ⟨x, H2, I2, rx, a, C, dx, fs, ex, ea, c, n, l, q2⟩ => ?_) hs
  subst ex
  obtain rfl : ov = Value.ref a := rx
  exact setattr_ok I2 ea c n l ry fun s3 I3 => ⟨σ, _, I3, q2⟩
def rAdd : V → V → Hp → VK → Prop := fun x y H Q => ∃ i j, x = .int i ∧ y = .int j ∧ Q (.int (i + j)) H
def rSub : V → V → Hp → VK → Prop := fun x y H Q => ∃ i j, x = .int i ∧ y = .int j ∧ Q (.int (i - j)) H
end
section
variable {X : Cx} {pins : List (Addr × Obj)} {σ : St} {H : Hp} {s : Shared} {A : Around} {E : Value → Shared → Prop} {Q : Value → Shared → Prop} {c : Value} {b : Bool}
inductive TyOf (K : PySem.W.Frag) (H : Hp) : V → Value → Prop where
  | non : TyOf K H .non (.type "NoneType")
  | bl (x : Bool) : TyOf K H (.bl x) (.type "bool")
  | int (i : Int) : TyOf K H (.int i) (.type "int")
  | str (x : Str) : TyOf K H (.str x) (.type "str")
  | flt (x : UInt64) : TyOf K H (.flt x) (.type "float")
  | lst {a : Addr} {xs : List V} (e : H a = some (.lst xs)) : TyOf K H (.ref a) (.type "list")
  | frz {a : Addr} {o : Obj} {xs : List V} (e : H a = some (.frz o (.lst xs))) : TyOf K H (.ref a) (.type "list")
  | tup {a : Addr} {xs : List V} (e : H a = some (.tup xs)) : TyOf K H (.ref a) (.type "tuple")
  | dK {a : Addr} {kvs : List (Key × V)} (e : H a = some (.dK kvs)) : TyOf K H (.ref a) (.type "dict")
  | dT {a : Addr} {kvs : List (List Key × V)} (e : H a = some (.dT kvs)) : TyOf K H (.ref a) (.type "dict")
  | ins {a C dx : Addr} {fs : List (Str × V)} (e : H a = some (.ins C dx fs)) (cl : Cls K C) (ha : PySem.W.findIn K (.ref C) "__class__" = some (some (.builtin "object.__class__")))
      (hn : PySem.W.specialIn K (.builtin "object.__class__") "__get__" = some (some (.builtin "getset_descriptor.__get__"))) (htk : PySem.W.takesIn K (.builtin "object.__class__") = some true)
      (hm : PySem.W.mroIn K C (.type "object") = some true) : TyOf K H (.ref a) (.ref C)
theorem isinst_ok {x : V} {u t : Value} (I : Inv X pins σ H s) (rx : RelV x u) (ty : TyOf X.K H x t) (e : PySem.W.kitOne X.K t c = some b) (h : ∀ tk, Q (.bool b) { s with toks := tk }) :
    wpAny (model X.prog X.w) A (call (.builtin "isinstance") [u, c]) Q E s := by
  cases ty with
  | non => cases (show u = Value.none from rx); exact PySem.W.kia_one PySem.W.kitx_none I.kIn True.intro e (fun z => nomatch z) h
  | bl y => cases (show u = Value.bool y from rx); exact PySem.W.kia_one PySem.W.kitx_bool I.kIn True.intro e (fun z => nomatch z) h
  | int i => obtain ⟨t, q⟩ := (show ∃ t, u = Value.int i t from rx); cases q; exact PySem.W.kia_one PySem.W.kitx_int I.kIn True.intro e (fun z => nomatch z) h
  | str y => obtain ⟨t, q⟩ := (show ∃ t, u = Value.str y t from rx); cases q; exact PySem.W.kia_one PySem.W.kitx_str I.kIn True.intro e (fun z => nomatch z) h
  | flt y => obtain ⟨t, q⟩ := (show ∃ t, u = Value.float y t from rx); cases q; exact PySem.W.kia_one PySem.W.kitx_float I.kIn True.intro e (fun z => nomatch z) h
  | @lst a xs ea =>
    cases (show u = Value.ref a from rx)
    obtain ⟨_, _, n, _, h1⟩ := (show ObjOk X.prog X.w H s.heap a (.lst xs) from I.hok a _ ea)
    exact PySem.W.kia_one PySem.W.kitx_list I.kIn ⟨_, h1, rfl⟩ e (fun z => nomatch z) h
  | @frz a ob xs ea =>
    cases (show u = Value.ref a from rx)
    obtain ⟨_, _, _, n, _, h1⟩ := (show ObjOk X.prog X.w H s.heap a (.frz ob (.lst xs)) from I.hok a _ ea)
    exact PySem.W.kia_one PySem.W.kitx_list I.kIn ⟨_, h1, rfl⟩ e (fun z => nomatch z) h
  | @tup a xs ea =>
    cases (show u = Value.ref a from rx)
    obtain ⟨_, _, _, p⟩ := (show ObjOk X.prog X.w H s.heap a (.tup xs) from I.hok a _ ea)
    obtain ⟨o, h1, h2, _⟩ := p
    exact PySem.W.kia_one PySem.W.kitx_tuple I.kIn ⟨o, h1, h2⟩ e (fun z => nomatch z) h
  | @dK a kvs ea =>
    cases (show u = Value.ref a from rx)
    obtain ⟨_, _, vs, _, p⟩ := (show ObjOk X.prog X.w H s.heap a (.dK kvs) from I.hok a _ ea)
    obtain ⟨o, es, ep, h1, h2, _⟩ := p
    exact PySem.W.kia_one PySem.W.kitx_dict I.kIn ⟨o, h1, h2.1⟩ e (fun z => nomatch z) h
  | @dT a kvs ea =>
    cases (show u = Value.ref a from rx)
    obtain ⟨_, _, xs, _, o, es, ep, h1, h2, _⟩ := (show ObjOk X.prog X.w H s.heap a (.dT kvs) from I.hok a _ ea)
    exact PySem.W.kia_one PySem.W.kitx_dict I.kIn ⟨o, h1, h2.1⟩ e (fun z => nomatch z) h
  | @ins a C dx fs ea cl ha hn htk hm =>
    cases (show u = Value.ref a from rx)
    obtain ⟨mA, O, _⟩ := ins_get I.hok ea
    obtain ⟨od, J, _⟩ := O.look
    exact PySem.W.kia_one (PySem.W.kitx_own (cl.get _) cl.hd ha hn htk hm) I.kIn J e (fun z => nomatch z) h
end
end L2
namespace L2
open PySem PySem.Spec PyProof.Rows
structure Room (k : Nat) (A : Around) : Prop where
  hd : A.handled = none
  dp : A.depth + 3 * k + 5 < recursionLimit
  un : A.units + 16 * k + 200 < cLine
theorem Room.mono {j k : Nat} {A : Around} (r : Room k A) (h : j ≤ k) : Room j A := ⟨r.hd, by have := r.dp; omega, by have := r.un; omega⟩
theorem Room.deeper {k : Nat} {A : Around} (r : Room (k + 1) A) (env : Env) : Room k (A.deeper env) :=
  ⟨r.hd, by have := r.dp; show A.depth + 1 + 3 * k + 5 < _; omega, by have := r.un; show A.units + 3 + 16 * k + 200 < _; omega⟩
theorem make_depth {A : Around} {C : Addr} {us : List Value} {kw : List (Str × Value)} : (A.under (.builtin "type.__call__" ⟨.ref C :: us, kw⟩)).depth = A.depth + 1 := by
  first | rfl | simp [Around.under, Code.weight, Code.isCreation, Code.isGuard, Code.isCaller, Code.frames, Code.isFrame, guardIds]
theorem make_units {A : Around} {C : Addr} {us : List Value} {kw : List (Str × Value)} : (A.under (.builtin "type.__call__" ⟨.ref C :: us, kw⟩)).units = A.units + 1 := by
  first | rfl | simp [Around.under, Code.cUnits, Code.frames, Code.isFrame]
theorem Room.make {k : Nat} {A : Around} (r : Room (k + 1) A) (C : Addr) (us : List Value) (kw : List (Str × Value)) : Room k (A.under (.builtin "type.__call__" ⟨.ref C :: us, kw⟩)) :=
  ⟨r.hd, by have := r.dp; rw [make_depth]; omega, by have := r.un; rw [make_units]; omega⟩
theorem Room.depth {k : Nat} {A : Around} (r : Room k A) : A.depth < recursionLimit := by have := r.dp; omega
theorem Room.units {k : Nat} {A : Around} (r : Room k A) : A.units + 64 < cLine := by have := r.un; omega
def tNil : TA := fun _ H Q => Q [] H
def tCons (ta : TE) (tr : TA) : TA := fun σ H Q => ta σ H fun x H1 => tr σ H1 fun xs H2 => Q (x :: xs) H2
section
variable {X : Cx} {e : Expr} {es : List Expr} {te : TE} {t : TA} {pos : Pos}
theorem pa_nil : PA X [] tNil := fun _ _ _ _ H Q I h => Calls.spliced_nil ⟨[], H, I, .nil, h⟩
theorem pa_cons (ha : PE X e te) (hr : PA X es t) (hs : starEach (e :: es) X.env = (false, eval e X.env) :: starEach es X.env := by rfl) : PA X (e :: es) (tCons te t) := by
  intro pos pins s σ H Q I h
  rw [hs]
  show wpAny _ _ (spliced ((false, eval e X.env) :: backTo pos (starEach es X.env))) _ _ s
  refine Calls.spliced_cons (thn (ha pins s σ H _ I h) fun u s1 ⟨x, H1, I1, r1, q1⟩ => ?_)
  exact thn (hr pos pins s1 σ H1 _ I1 q1) fun us s2 ⟨xs, H2, I2, r2, q2⟩ => ⟨x :: xs, H2, I2, .cons r1 r2, q2⟩
def tTup (t : TA) : TE := fun σ H Q => t σ H fun xs H1 => xs.length ≤ sizeLine ∧ ∀ p, H1 p = none → Q (.ref p) (upd H1 p (.tup xs))
def tLst (t : TA) : TE := fun σ H Q => t σ H fun xs H1 => xs.length ≤ sizeLine ∧ ∀ p, H1 p = none → Q (.ref p) (upd H1 p (.lst xs))
theorem pe_tup {x1} (h : PA X es t) : PE X (.Tuple es x1 pos) (tTup t) := by
  intro pins s σ H Q I hq
  refine wpAny_Tuple_spliced (thn (h pos pins s σ H _ I hq) fun us s1 ⟨xs, H1, I1, r, z, q⟩ => ⟨by rw [← r.length]; exact z, ?_⟩)
  have hf : H1 s1.heap.objs.size = none := I1.hok.fresh (Nat.le_refl _)
  refine ⟨.ref s1.heap.objs.size, upd H1 s1.heap.objs.size (.tup xs), I1.laid (t' := s1.toks) (fun b u e => Heap.get?_push_of_some _ e) (Nat.le_refl _) ?_, rfl, q _ hf⟩
  exact ⟨z, us, r, ⟨_, Heap.get?_push_size _ rfl, rfl, _, rfl⟩⟩
theorem pe_lst (h : PA X es t) : PE X (.List es pos) (tLst t) := by
  intro pins s σ H Q I hq
  refine wpAny_List_spliced (thn (h pos pins s σ H _ I hq) fun us s1 ⟨xs, H1, I1, r, z, q⟩ => ⟨by rw [← r.length]; exact z, ?_⟩)
  have hf : H1 s1.heap.objs.size = none := I1.hok.fresh (Nat.le_refl _)
  refine ⟨.ref s1.heap.objs.size, upd H1 s1.heap.objs.size (.lst xs), I1.laid (t' := s1.toks) (fun b u e => Heap.get?_push_of_some _ e) (Nat.le_refl _) ?_, rfl, q _ hf⟩
  exact ⟨z, us, 0, r, Heap.get?_push_size _ rfl⟩
end
abbrev Sp := List V → Hp → VK → XK → Prop
abbrev CXT := List Env → Hp → Shared → XK → Value → Shared → Prop
structure Env0 (P : Program) (w : World) (K : PySem.W.Frag) (mg : Str → Option Value) (base : Heap) (A : Around) (outer : List Env) (s : Shared) (H : Hp) : Prop where
  frames : A.frames = some outer
  mod : Mod K mg base
  bs : ∀ b o, base.get? b = some o → s.heap.get? b = some o ∧ H b = none
  bsz : base.objs.size ≤ s.heap.objs.size
  funs : s.heap.FunFrames base outer
  frf : ∀ b ∈ frs outer, H b = none
  hok : HOk P w H s.heap
  bare : AllBare s.gens
def CE (outer : List Env) (P : Program) (w : World) (H : Hp) (s : Shared) (Q : VK) (u : Value) (s' : Shared) : Prop :=
  ∃ v H', s'.os = s.os ∧ AllBare s'.gens ∧ Un (frs outer) [] H H' s.heap s'.heap ∧ HOk P w H' s'.heap ∧ RelV v u ∧ Q v H'
def CR (CX : CXT) (outer : List Env) (P : Program) (w : World) (H : Hp) (s : Shared) (Q : VK) (E : XK) (r : Result) (s' : Shared) : Prop :=
  match r with
  | .ok (.ret u) => CE outer P w H s Q u s'
  | .ok _ => False
  | .error e => CX outer H s E e s'
structure FnOk (P : Program) (w : World) (K : PySem.W.Frag) (mg : Str → Option Value) (base : Heap) (CX : CXT) (k : Nat) (f : Addr) (fd : FuncData) (ps : List Str) (sp : Sp) : Prop where
  len : ∀ vs H Q E, sp vs H Q E → vs.length = ps.length
  run : ∀ (A : Around) (outer : List Env) (s : Shared) (H : Hp) (args : Args) (us : List Value) (vs : List V) (Q : VK) (E : XK), Room k A → Env0 P w K mg base A outer s H → BindsTo s fd args (ps.zip us) → Vals vs us → sp vs H Q E →
    codeAny (model P w) A (.call (.ref f) args) (CR CX outer P w H s Q E) s
theorem FnOk.mono {P : Program} {w : World} {K : PySem.W.Frag} {mg : Str → Option Value} {base : Heap} {CX : CXT} {j k : Nat} {f : Addr} {fd : FuncData} {ps : List Str} {sp : Sp} (F : FnOk P w K mg base CX j f fd ps sp) (h : j ≤ k) :
    FnOk P w K mg base CX k f fd ps sp := ⟨F.len, fun A outer s H args us vs Q E hr => F.run A outer s H args us vs Q E (hr.mono h)⟩
theorem FnOk.imp {P : Program} {w : World} {K : PySem.W.Frag} {mg : Str → Option Value} {base : Heap} {CX : CXT} {k : Nat} {f : Addr} {fd : FuncData} {ps : List Str} {sp sp' : Sp} (F : FnOk P w K mg base CX k f fd ps sp)
    (h : ∀ vs H Q E, sp' vs H Q E → sp vs H Q E) : FnOk P w K mg base CX k f fd ps sp' :=
  ⟨fun vs H Q E q => F.len vs H Q E (h _ _ _ _ q), fun A outer s H args us vs Q E hr he hb hv hs => F.run A outer s H args us vs Q E hr he hb hv (h _ _ _ _ hs)⟩
theorem Env0.make {P : Program} {w : World} {K : PySem.W.Frag} {mg : Str → Option Value} {base : Heap} {A : Around} {outer : List Env} {s : Shared} {H : Hp} (e : Env0 P w K mg base A outer s H) (C : Addr) (us : List Value) (kw : List (Str × Value)) :
    Env0 P w K mg base (A.under (.builtin "type.__call__" ⟨.ref C :: us, kw⟩)) outer s H := ⟨by first | exact e.frames | (simpa [Around.under, Code.envs, Code.isFrame, pushEnvs] using e.frames), e.mod, e.bs, e.bsz, e.funs, e.frf, e.hok, e.bare⟩
section
variable {X : Cx} {pins : List (Addr × Obj)} {σ : St} {H : Hp} {s s' : Shared}
theorem Inv.env0 (I : Inv X pins σ H s) : Env0 X.prog X.w X.K X.mg X.base X.A X.stack s H :=
  ⟨I.ok.frames, I.ok.mod, I.bs, Nat.le_trans I.ok.bsz I.sz, I.stack, I.stkFree, I.hok, I.bare⟩
theorem Inv.after {Q : VK} {u : Value} (I : Inv X pins σ H s) (h : CE X.stack X.prog X.w H s Q u s') : EP X pins σ Q u s' := by
  obtain ⟨v, H', os, bare, un, hok, r, q⟩ := h
  obtain ⟨hh, g, d, t, os'⟩ := s'
  obtain rfl : os' = s.os := os
  exact ⟨v, H', I.call (h' := hh) (g' := g) (d' := d) (t' := t) (ch := []) un hok bare (fun b z => absurd z (by simp)), r, q⟩
end
def tCall (sp : Sp) (dvs : List V) (E : XK) (t : TA) : TE := fun σ H Q => t σ H fun vs H1 => sp (vs ++ dvs) H1 Q E
def tMeth (C : Addr) (m : Str) (sp : Sp) (dvs : List V) (E : XK) (ta : TE) (t : TA) : TE := fun σ H Q => ta σ H fun x H1 => ∃ a dx fs, x = .ref a ∧ H1 a = some (.ins C dx fs) ∧ fs.lookup m = none ∧
  t σ H1 fun vs H2 => sp (x :: (vs ++ dvs)) H2 Q E
def tMake (C : Addr) (sp : Sp) (dvs : List V) (E : XK) (t : TA) : TE := fun σ H Q => t σ H fun vs H1 => ∀ x dx, H1 x = none → H1 dx = none → dx ≠ x →
  sp (.ref x :: (vs ++ dvs)) (upd (upd H1 dx (.own x)) x (.ins C dx [])) (fun v H2 => v = .non ∧ Q (.ref x) H2) E
def Binds (K : PySem.W.Frag) (fd : FuncData) (ps : List Str) (ds : List Value) : Prop :=
  ∀ (s : Shared) (us : List Value), K.In s.heap → (us ++ ds).length = ps.length → BindsTo s fd ⟨us, []⟩ (ps.zip (us ++ ds))
theorem Binds.all {K : PySem.W.Frag} {fd : FuncData} {ps : List Str} (h : ∀ us : List Value, us.length = ps.length → bindArgs fd ⟨us, []⟩ = pure (ps.zip us)) : Binds K fd ps [] := fun s us _ hl => by
  rw [List.append_nil] at hl ⊢
  exact .of_eq (h us hl)
def Passes (CX : CXT) (X : Cx) (E : XK) : Prop := ∀ (pins : List (Addr × Obj)) (σ : St) (H : Hp) (s : Shared) (e : Value) (s' : Shared), Inv X pins σ H s → CX X.stack H s E e s' → X.xe e s'
section
variable {X : Cx} {CX : CXT} {k : Nat} {f C : Addr} {fd : FuncData} {ps : List Str} {sp : Sp} {dvs : List V} {ds : List Value} {E : XK} {x m : Str} {p pos apos : Pos} {e o : Expr} {es : List Expr} {ta : TE} {t : TA}
theorem run_fn {pins : List (Addr × Obj)} {σ : St} {H : Hp} {s : Shared} {Q : VK} {us : List Value} {vs : List V} (F : FnOk X.prog X.w X.K X.mg X.base CX k f fd ps sp) (hr : Room k X.A) (hb : Binds X.K fd ps ds) (hd : Vals dvs ds) (hx : Passes CX X E)
    (I : Inv X pins σ H s) (r : Vals vs us) (h : sp (vs ++ dvs) H Q E) : wpAny (model X.prog X.w) X.A (call (.ref f) us) (EP X pins σ Q) X.xe s := by
  have r2 : Vals (vs ++ dvs) (us ++ ds) := r.append hd
  have hl : (us ++ ds).length = ps.length := by rw [← r2.length]; exact F.len _ _ _ _ h
  refine wpAny_call (codeAny_mono (F.run X.A X.stack s H ⟨us, []⟩ (us ++ ds) (vs ++ dvs) Q E hr I.env0 (hb s us I.kIn hl) r2 h) fun r s' hq => ?_)
  cases r with
  | error e => exact hx pins σ H s e s' I hq
  | ok fl =>
    cases fl with
    | ret u => exact I.after hq
    | next => exact False.elim hq
    | brk => exact False.elim hq
    | cont => exact False.elim hq
theorem pe_call (F : FnOk X.prog X.w X.K X.mg X.base CX k f fd ps sp) (hr : Room k X.A) (hg : Gl X x) (hm : X.mg x = some (.ref f)) (hk : PySem.W.keepIn X.K (.ref f) = true) (hb : Binds X.K fd ps ds) (hd : Vals dvs ds) (hx : Passes CX X E)
    (ha : PA X (e :: es) t) (hdb : (x == ("__debug__" : Str)) = false := by decide) (he : starEach (e :: es) X.env = (false, eval e X.env) :: starEach es X.env := by rfl) (hpl : (backTo pos (starEach es X.env)).any (·.1) = false := by rfl) :
    PE X (.Call (.Name x p) (e :: es) [] pos) (tCall sp dvs E t) := by
  intro pins s σ H Q I h
  refine wpAny_Call_Name_kw (ld_glob I hg hm ?_ hdb)
  refine PySem.W.callWith_K (h₀ := X.base) I.ok.mod.kin hk (thn (ha pos pins s σ H _ I h) fun us s1 ⟨vs, H1, I1, r, q⟩ => ⟨I1.kIn, ?_⟩) he hpl
  exact run_fn F hr hb hd hx I1 r q
theorem pe_meth {pl : Sem Bool} (he : PE X o ta) (c : Cls X.K C) (hm : Meth X.K C m f) (F : FnOk X.prog X.w X.K X.mg X.base CX k f fd ps sp) (hr : Room k X.A) (hb : Binds X.K fd ps ds) (hd : Vals dvs ds) (hx : Passes CX X E) (ha : PA X (e :: es) t)
    (hst : starEach (e :: es) X.env = (false, eval e X.env) :: starEach es X.env := by rfl) (hpl : (backTo pos (starEach es X.env)).any (·.1) = false := by rfl)
    (ht : eval (.Call (.Attribute o m apos) (e :: es) [] pos) X.env = (do
      let ov ← eval o X.env
      standAt apos.atName
      let (f, first) ← holding [ov] (getMethod ov m pl)
      callWith pos f first (backTo pos (starEach (e :: es) X.env)) (backToKw pos (keywordEach [] X.env))) := by rfl) :
    PE X (.Call (.Attribute o m apos) (e :: es) [] pos) (tMeth C m sp dvs E ta t) := by
  intro pins s σ H Q I h
  refine PySem.W.methodCall_KW (pl := pl) (thn (he pins s σ H _ I h) fun u s1 ⟨x, H1, I1, rx, a, dx, fs, ex, ea, l, q⟩ => ?_) ht
  subst ex
  obtain rfl : u = Value.ref a := rx
  refine getmeth_ok I1 ea c hm l ?_
  refine PySem.W.callWith_K (first := [.ref a]) (h₀ := X.base) I.ok.mod.kin hm.kp (thn (ha pos pins s1 σ H1 _ I1 q) fun us s2 ⟨vs, H2, I2, r, q2⟩ => ⟨I2.kIn, ?_⟩) hst hpl
  exact run_fn (us := .ref a :: us) (vs := .ref a :: vs) F hr hb hd hx I2 (.cons rfl r) q2
structure Mk (K : PySem.W.Frag) (C f : Addr) : Prop where
  makes : PySem.W.makesIn K C = true
  init : PySem.W.findIn K (.ref C) "__init__" = some (some (.ref f))
  fn : PySem.W.isFn K (.ref f) = true
  kp : PySem.W.keepIn K (.ref C) = true
theorem run_make {pins : List (Addr × Obj)} {σ : St} {H : Hp} {s : Shared} {Q : VK} {us : List Value} {vs : List V} (M : Mk X.K C f) (F : FnOk X.prog X.w X.K X.mg X.base CX k f fd ps sp) (hr : Room (k + 1) X.A) (hb : Binds X.K fd ps ds) (hd : Vals dvs ds)
    (hx : Passes CX X E) (I : Inv X pins σ H s) (r : Vals vs us)
    (h : ∀ x dx, H x = none → H dx = none → dx ≠ x → sp (.ref x :: (vs ++ dvs)) (upd (upd H dx (.own x)) x (.ins C dx [])) (fun v H2 => v = .non ∧ Q (.ref x) H2) E) :
    wpAny (model X.prog X.w) X.A (call (.ref C) us) (EP X pins σ Q) X.xe s := by
  have hq := h (s.heap.objs.size + 1) s.heap.objs.size (I.hok.fresh (Nat.le_succ _)) (I.hok.fresh (Nat.le_refl _)) (Nat.ne_of_lt (Nat.lt_succ_self _))
  have I2 := Inv.made (C := C) I
  have r2 : Vals (V.ref (s.heap.objs.size + 1) :: (vs ++ dvs)) (Value.ref (s.heap.objs.size + 1) :: (us ++ ds)) := .cons rfl (r.append hd)
  have hl : (Value.ref (s.heap.objs.size + 1) :: us ++ ds).length = ps.length := by
    have e := r2.length
    rw [F.len _ _ _ _ hq] at e
    exact e.symm
  refine wpAny_call (make_map (f := f) I.kIn M.makes M.init (beq_iff_eq.mp M.fn) (codeAny_mono (F.run _ X.stack _ _ ⟨Value.ref (s.heap.objs.size + 1) :: us, []⟩ (Value.ref (s.heap.objs.size + 1) :: (us ++ ds)) _ _ E (hr.make C us [])
    (I2.env0.make C us []) (hb _ (Value.ref (s.heap.objs.size + 1) :: us) I2.kIn hl) r2 hq) fun r s' hq' => ?_))
  cases r with
  | error e => exact hx pins σ _ _ e s' I2 hq'
  | ok fl =>
    cases fl with
    | ret u =>
      obtain ⟨v, H', I3, rv, ev, q3⟩ := I2.after hq'
      subst ev
      exact ⟨rv, ⟨V.ref (s.heap.objs.size + 1), H', I3, rfl, q3⟩⟩
    | next => exact False.elim hq'
    | brk => exact False.elim hq'
    | cont => exact False.elim hq'
theorem pe_make (M : Mk X.K C f) (F : FnOk X.prog X.w X.K X.mg X.base CX k f fd ps sp) (hr : Room (k + 1) X.A) (hg : Gl X x) (hm : X.mg x = some (.ref C)) (hb : Binds X.K fd ps ds) (hd : Vals dvs ds) (hx : Passes CX X E)
    (ha : PA X (e :: es) t) (hdb : (x == ("__debug__" : Str)) = false := by decide) (he : starEach (e :: es) X.env = (false, eval e X.env) :: starEach es X.env := by rfl) (hpl : (backTo pos (starEach es X.env)).any (·.1) = false := by rfl) :
    PE X (.Call (.Name x p) (e :: es) [] pos) (tMake C sp dvs E t) := by
  intro pins s σ H Q I h
  refine wpAny_Call_Name_kw (ld_glob I hg hm ?_ hdb)
  refine PySem.W.callWith_K (h₀ := X.base) I.ok.mod.kin M.kp (thn (ha pos pins s σ H _ I h) fun us s1 ⟨vs, H1, I1, r, q⟩ => ⟨I1.kIn, ?_⟩) he hpl
  exact run_make M F hr hb hd hx I1 r q
theorem pe_make0 (M : Mk X.K C f) (F : FnOk X.prog X.w X.K X.mg X.base CX k f fd ps sp) (hr : Room (k + 1) X.A) (hg : Gl X x) (hm : X.mg x = some (.ref C)) (hb : Binds X.K fd ps ds) (hd : Vals dvs ds) (hx : Passes CX X E)
    (hdb : (x == ("__debug__" : Str)) = false := by decide) : PE X (.Call (.Name x p) [] [] pos) (tMake C sp dvs E tNil) := by
  intro pins s σ H Q I h
  refine wpAny_Call_Name_kw (ld_glob I hg hm ?_ hdb)
  exact PySem.W.callWith_K0 I.kIn M.kp (run_make (us := []) M F hr hb hd hx I .nil h)
end
def PK (X : Cx) (kws : List Keyword) (t : TA) : Prop :=
  ∀ (pos : Pos) (pins : List (Addr × Obj)) (s : Shared) (σ : St) (H : Hp) (Q : List V → Hp → Prop), Inv X pins σ H s → t σ H Q → wpAny (model X.prog X.w) X.A (evalAll ((backToKw pos (keywordEach kws X.env)).map (·.2))) (AP X pins σ Q) X.xe s
section
variable {X : Cx} {CX : CXT} {k : Nat} {f C : Addr} {fd : FuncData} {ps ks : List Str} {sp : Sp} {E : XK} {x m : Str} {p pos apos kpos : Pos} {e o : Expr} {es : List Expr} {kws : List Keyword} {te ta : TE} {t tk : TA} {nm : Option Str}
structure KBinds (K : PySem.W.Frag) (fd : FuncData) (ps ks : List Str) (g : List Value → List Value → List Value) (gV : List V → List V → List V) : Prop where
  to : ∀ (s : Shared) (us ws : List Value), K.In s.heap → (g us ws).length = ps.length → BindsTo s fd ⟨us, ks.zip ws⟩ (ps.zip (g us ws))
  rel : ∀ {vs : List V} {us : List Value} {zs : List V} {ws : List Value}, Vals vs us → Vals zs ws → Vals (gV vs zs) (g us ws)
def tCallK (sp : Sp) (gV : List V → List V → List V) (E : XK) (t tk : TA) : TE := fun σ H Q => t σ H fun vs H1 => tk σ H1 fun zs H2 => sp (gV vs zs) H2 Q E
variable {g : List Value → List Value → List Value} {gV : List V → List V → List V}
end
structure FnScope (N P : List Str) (sc : Scope) : Prop where
  kind : sc.kind = .function
  co : sc.isCoroutine = false
  gen : sc.isGenerator = false
  nd : N.Nodup
  pre : N.take P.length = P
  par : ∀ x ∈ P, sc.names.lookup x = some .local ∨ sc.names.lookup x = some .cell
  nofree : ∀ y ∈ sc.names, y.2 ≠ .free
theorem bindL_out {kindOf : Str → Option NameKind} {x : Str} : ∀ {binds : List (Str × Value)} {m : Str → Option Value}, (∀ v, (x, v) ∉ binds) → bindL kindOf binds m x = m x
  | [], _, _ => rfl
  | (n, v) :: r, m, h => by
    unfold bindL
    rw [bindL_out fun w hw => h w (List.mem_cons_of_mem _ hw)]
    split
    · have : x ≠ n := by rintro rfl; exact h v List.mem_cons_self
      simp [this]
    · rfl
theorem bindC_out {kindOf : Str → Option NameKind} {x : Str} : ∀ {binds : List (Str × Value)} {m : Str → Option Value}, (∀ v, (x, v) ∉ binds) → bindC kindOf binds m x = m x
  | [], _, _ => rfl
  | (n, v) :: r, m, h => by
    unfold bindC
    rw [bindC_out fun w hw => h w (List.mem_cons_of_mem _ hw)]
    split
    · rfl
    · have : x ≠ n := by rintro rfl; exact h v List.mem_cons_self
      simp [this]
theorem bindL_get {kindOf : Str → Option NameKind} {x : Str} {v : Value} : ∀ {P : List Str} {vs : List Value} {i : Nat} {m : Str → Option Value}, P.Nodup → P[i]? = some x → vs[i]? = some v → kindOf x = some .local →
    bindL kindOf (P.zip vs) m x = some v
  | [], _, _, _, _, h, _, _ => by simp at h
  | _ :: _, [], _, _, _, _, h, _ => by simp at h
  | p :: P, w :: vs, 0, m, nd, h1, h2, hk => by
    simp at h1 h2; subst h1; subst h2
    show bindL kindOf ((p, w) :: P.zip vs) m p = _
    unfold bindL
    rw [bindL_out fun v hv => (List.nodup_cons.mp nd).1 (List.of_mem_zip hv).1, if_pos hk]
    simp
  | p :: P, w :: vs, i + 1, m, nd, h1, h2, hk => by
    show bindL kindOf ((p, w) :: P.zip vs) m x = _
    unfold bindL
    exact bindL_get (i := i) (List.nodup_cons.mp nd).2 (by simpa using h1) (by simpa using h2) hk
theorem bindC_get {kindOf : Str → Option NameKind} {x : Str} {v : Value} : ∀ {P : List Str} {vs : List Value} {i : Nat} {m : Str → Option Value}, P.Nodup → P[i]? = some x → vs[i]? = some v → kindOf x ≠ some .local →
    bindC kindOf (P.zip vs) m x = some v
  | [], _, _, _, _, h, _, _ => by simp at h
  | _ :: _, [], _, _, _, _, h, _ => by simp at h
  | p :: P, w :: vs, 0, m, nd, h1, h2, hk => by
    simp at h1 h2; subst h1; subst h2
    show bindC kindOf ((p, w) :: P.zip vs) m p = _
    unfold bindC
    rw [bindC_out fun v hv => (List.nodup_cons.mp nd).1 (List.of_mem_zip hv).1, if_neg hk]
    simp
  | p :: P, w :: vs, i + 1, m, nd, h1, h2, hk => by
    show bindC kindOf ((p, w) :: P.zip vs) m x = _
    unfold bindC
    exact bindC_get (i := i) (List.nodup_cons.mp nd).2 (by simpa using h1) (by simpa using h2) hk
def start (N : List Str) (vs : List V) : St := vs.map some ++ List.replicate (N.length - vs.length) none
def cxOf (CX : CXT) (P : Program) (w : World) (K : PySem.W.Frag) (mg : Str → Option Value) (base : Heap) (N : List Str) (qual : Str) (scope : Scope) (f : Addr) (cd : Value) (A : Around) (outer : List Env) (s : Shared) (H : Hp) (E : XK) : Cx where
  prog := P
  w := w
  K := K
  mg := mg
  base := base
  A := A.deeper (envOfC qual scope s.heap.objs.size f cd)
  N := N
  s₀ := s
  H₀ := H
  env := envOfC qual scope s.heap.objs.size f cd
  outer := outer
  stack := envOfC qual scope s.heap.objs.size f cd :: outer
  ex := []
  calm := true
  fn := fun _ => true
  pn := []
  xe := fun e s' => wpAny (model P w) (A.deeper (envOfC qual scope s.heap.objs.size f cd)) (leaving (envOfC qual scope s.heap.objs.size f cd) e) (fun _ s'' => CX outer H s E e s'') (fun e' s'' => CX outer H s E e' s'') s'
theorem cell_has {sc : Scope} {n : Nat} {x : Str} (h : sc.names.lookup x = some .cell) : ∃ c, (cellsFrom n sc.names []).lookup x = some c := by
  have q := PySem.W.cellsFrom_some sc.names n [] (.inl h)
  exact Option.isSome_iff_exists.mp q
theorem inv_start {CX : CXT} {P : Program} {w : World} {K : PySem.W.Frag} {mg : Str → Option Value} {base : Heap} {N ps : List Str} {qual : Str} {scope : Scope} {f : Addr} {cd : Value} {A : Around} {outer : List Env} {s s1 : Shared} {H : Hp} {E : XK} {us : List Value} {vs : List V}
    (S : FnScope N ps scope) (hd : A.handled = none) (e0 : Env0 P w K mg base A outer s H) (hl : vs.length = ps.length) (r : Vals vs us)
    (x : InCallC s s.heap.objs.size (bindL (envOfC qual scope s.heap.objs.size f cd).kindOf (ps.zip us) fun _ => none) (cellsFrom (s.heap.objs.size + 1) scope.names []) (bindC (envOfC qual scope s.heap.objs.size f cd).kindOf (ps.zip us) fun _ => none) s1) :
    Inv (cxOf CX P w K mg base N qual scope f cd A outer s H E) [] (start N vs) H s1 := by
  have hpl : ps.length ≤ N.length := by have := congrArg List.length S.pre; rw [List.length_take] at this; omega
  obtain ⟨h1, tk, rfl, hk⟩ := x.done
  have noA : ∀ b : Addr, b ∉ (cxOf CX P w K mg base N qual scope f cd A outer s H E).ex := fun b z => absurd (show b ∈ ([] : List Addr) from z) (by simp)
  refine ⟨⟨e0.mod, S.kind, rfl, rfl, Nat.le_refl _, fun y z c h1 h2 => ?_, fun y hy => ?_, fun y c _ h => ?_, fun _ => hd, Around.frames_deeper e0.frames, .inr ⟨rfl, rfl⟩, fun b z => absurd z (noA b), e0.bs, e0.bsz, fun b _ _ => noA b, fun b z => absurd z (noA b), e0.funs, e0.frf⟩,
    rfl, e0.bare, Un.kept hk, ⟨_, x.toInCall.ns, fun i y v h1 h2 h3 => ?_⟩, fun y c h => ⟨_, x.cell y c h⟩, e0.hok.fresh (Nat.le_refl _), fun y c h => ?_, fun p hp => absurd (show p ∈ ([] : List (Addr × Obj)) from hp) (by simp), e0.hok.kept hk, ?_⟩
  · exact name_of_addr x.apart (PySem.mem_of_lookup h1) (PySem.mem_of_lookup h2)
  · have hy : scope.names.lookup y = some .cell ∨ scope.names.lookup y = some .free := hy
    rcases hy with hy | hy
    · exact cell_has hy
    · exact absurd rfl (S.nofree _ (PySem.mem_of_lookup hy))
  · exact Nat.le_of_lt (x.above y c (PySem.mem_of_lookup h))
  · have hi : i < vs.length := by
      unfold start at h2
      by_cases hi : i < vs.length
      · exact hi
      · rw [List.getElem?_append_right (by simpa using hi)] at h2
        rw [List.getElem?_replicate] at h2
        split at h2 <;> cases h2
    have ha : vs[i]? = some v := by
      unfold start at h2
      rw [List.getElem?_append_left (by simpa using hi), List.getElem?_map] at h2
      cases e : vs[i]? with
      | none => rw [e] at h2; cases h2
      | some a => rw [e] at h2; cases h2; rfl
    obtain ⟨u, hu, rv⟩ := r.get ha
    have hp : ps[i]? = some y := by
      rw [← S.pre, List.getElem?_take_of_lt (by omega)]; exact h1
    have ndP : ps.Nodup := by rw [← S.pre]; exact S.nd.sublist (List.take_sublist _ _)
    refine ⟨u, rv, ?_⟩
    rcases S.par y (List.mem_of_getElem? hp) with k | k
    · exact .inl ⟨k, bindL_get ndP hp hu k⟩
    · obtain ⟨c, e⟩ := cell_has (n := s.heap.objs.size + 1) k
      refine .inr ⟨.inl k, c, e, ?_⟩
      have q := x.cell y c e
      rw [bindC_get ndP hp hu (by show scope.names.lookup y ≠ _; rw [k]; decide)] at q
      exact q
  · exact e0.hok.fresh (Nat.le_of_lt (x.above y c (PySem.mem_of_lookup h)))
  · unfold start
    show _ = N.length
    rw [List.length_append, List.length_map, List.length_replicate]
    omega
theorem fn_of {CX : CXT} {P : Program} {w : World} {K : PySem.W.Frag} {mg : Str → Option Value} {base : Heap} {k : Nat} {f : Addr} {name qual : Str} {params : Arguments} {body : List Stmt} {scope : Scope} {dV kV doc pm cdv ct oc : Value} {an od : Option Addr}
    {osl : Array (Option Value)} {N ps : List Str} {sp : Sp} (lk : K.lookup f = some ⟨oc, od, .func (PySem.W.fnOf name qual params body scope dV kV doc pm an cdv ct), osl⟩) (hcd : PySem.W.codeIn K cdv qual = true) (S : FnScope N ps scope)
    (len : ∀ vs H Q E, sp vs H Q E → vs.length = ps.length)
    (hbody : ∀ (A : Around) (outer : List Env) (s : Shared) (H : Hp) (vs : List V) (Q : VK) (E : XK), Room k (A.deeper (envOfC qual scope s.heap.objs.size f cdv)) → sp vs H Q E →
      ∃ t, PSs (cxOf CX P w K mg base N qual scope f cdv A outer s H E) body t ∧ t { nx := fun _ H' => Q .non H', rt := Q } (start N vs) H) :
    FnOk P w K mg base CX (k + 1) f (PySem.W.fnOf name qual params body scope dV kV doc pm an cdv ct) ps sp := by
  refine ⟨len, fun A outer s H args us vs Q E hr e0 hb r hsp => ?_⟩
  have hl := len _ _ _ _ hsp
  have KX : K.In s.heap := e0.mod.kin.keeps fun b o e => (e0.bs b o e).1
  have lim : s.heap.NoLimit := e0.mod.nolimit.keeps fun b o e => (e0.bs b o e).1
  have hkind : ∀ y ∈ ps.zip us, scope.names.lookup y.1 = some .local ∨ (scope.names.lookup y.1 = some .cell ∧ ((cellsFrom (s.heap.objs.size + 1) scope.names []).lookup y.1).isSome = true) := fun ⟨n, v⟩ hy => by
    rcases S.par n (List.of_mem_zip hy).1 with q | q
    · exact .inl q
    · exact .inr ⟨q, PySem.W.cellsFrom_some _ _ _ (.inl q)⟩
  refine codeAny_call_function hr.depth (KX _ _ lk) rfl S.co S.gen rfl (PySem.W.codeRec_of KX hcd) (hb _ _ _ _ ?_)
  refine wpAny_newFunctionEnv_cells S.kind hkind fun env he s1 x => ?_
  subst he
  refine ⟨lim.keeps x.toInCall.keep, codeAny_func ?_⟩
  obtain ⟨t, ht, hq⟩ := hbody A outer s H vs Q E (hr.deeper _) hsp
  have I : Inv (cxOf CX P w K mg base N qual scope f cdv A outer s H E) [] (start N vs) H s1 := inv_start S hr.hd e0 hl r x
  refine wpAny_mono (ht [] s1 (start N vs) H _ I hq) (fun fl s' hs => ?_) fun e s' hs => hs
  have fin : ∀ {σ' : St} {H' : Hp} {v : V} {u : Value}, Inv (cxOf CX P w K mg base N qual scope f cdv A outer s H E) [] σ' H' s' → RelV v u → Q v H' → CE outer P w H s Q u s' :=
    fun {σ' H' v u} J rv q => ⟨v, H', J.os, J.bare, J.base, J.hok, rv, q⟩
  cases fl with
  | ret u =>
    obtain ⟨v, σ', H', J, rv, q⟩ := hs
    exact fin J rv q
  | next =>
    obtain ⟨σ', H', J, q⟩ := hs
    exact fin (v := V.non) (u := Value.none) J rfl q
  | brk =>
    obtain ⟨_, _, _, q⟩ := hs
    exact False.elim q
  | cont =>
    obtain ⟨_, _, _, q⟩ := hs
    exact False.elim q
end L2
namespace L2
open PySem PySem.Spec PyProof.Rows
section
variable {X : Cx} {x : Str} {p pos : Pos} {e : Expr} {es : List Expr} {t : TA} {id T : String} {r : List V → Hp → VK → Prop}
def tCB (r : List V → Hp → VK → Prop) (t : TA) : TE := fun σ H Q => t σ H fun vs H1 => r vs H1 Q
theorem pe_callB (hc : CallR X (.builtin id) r) (hg : Gl X x) (hm : X.mg x = none) (hv : bootBuiltins x = some (.builtin id)) (ha : PA X (e :: es) t) (hn : x ≠ "__name__" := by decide) (hdb : (x == ("__debug__" : Str)) = false := by decide)
    (he : starEach (e :: es) X.env = (false, eval e X.env) :: starEach es X.env := by rfl) (hpl : (backTo pos (starEach es X.env)).any (·.1) = false := by rfl) : PE X (.Call (.Name x p) (e :: es) [] pos) (tCB r t) := by
  intro pins s σ H Q I h
  refine wpAny_Call_Name_kw (ld_blt I hg hm hv ?_ hn hdb)
  exact PyProof.Rows.callWith_builtin1 (thn (ha pos pins s σ H _ I h) fun us s1 ⟨vs, H1, I1, r1, q1⟩ => hc pins s1 σ H1 vs us Q I1 r1 q1) he hpl
theorem pe_callTy (hc : CallR X (.type T) r) (hg : Gl X x) (hm : X.mg x = none) (hv : bootBuiltins x = some (.type T)) (ha : PA X (e :: es) t) (hn : x ≠ "__name__" := by decide) (hdb : (x == ("__debug__" : Str)) = false := by decide)
    (he : starEach (e :: es) X.env = (false, eval e X.env) :: starEach es X.env := by rfl) (hpl : (backTo pos (starEach es X.env)).any (·.1) = false := by rfl) : PE X (.Call (.Name x p) (e :: es) [] pos) (tCB r t) := by
  intro pins s σ H Q I h
  refine wpAny_Call_Name_kw (ld_blt I hg hm hv ?_ hn hdb)
  exact PyProof.Rows.callWith_type1 (thn (ha pos pins s σ H _ I h) fun us s1 ⟨vs, H1, I1, r1, q1⟩ => hc pins s1 σ H1 vs us Q I1 r1 q1) he hpl
end
end L2
namespace HT
open PySem PyProof.Rows
def lexLt : List Int → List Int → Bool
  | [], [] => false
  | [], _ :: _ => true
  | _ :: _, [] => false
  | x :: xs, y :: ys => if x = y then lexLt xs ys else decide (x < y)
section
open PySem.SeqAt
open PySem.AutoSeq1 (wpAny_loadPart')
open PySem.MeetsSeq PySem.MeetsSeq2 PySem.MeetsSeq3
end
section
variable {prog : Program} {w : World} {A : Around} {E : Value → Shared → Prop} {s : Shared}
def sIx (n d : Nat) : Option Int → Nat
  | none => d
  | some v => if v < 0 then (v + (n : Int)).toNat else min v.toNat n
theorem sIx_none (n d : Nat) : sIx n d none = d := rfl
theorem sIx_nat (n d k : Nat) : sIx n d (some (k : Int)) = min k n := by
  show (if (k : Int) < 0 then ((k : Int) + (n : Int)).toNat else min (k : Int).toNat n) = min k n
  rw [if_neg (by omega), Int.toNat_natCast]
theorem sIx_le (n d : Nat) (hd : d ≤ n) (o : Option Int) : sIx n d o ≤ n := by
  cases o with
  | none => exact hd
  | some v =>
    show (if v < 0 then (v + (n : Int)).toNat else min v.toNat n) ≤ n
    by_cases hv : v < 0
    · rw [if_pos hv]; omega
    · rw [if_neg hv]; exact Nat.min_le_right _ _
theorem clip_eq (v : Int) (n d : Nat) : (if v < 0 then max (v + (n : Int)) 0 else min v (n : Int)) = ((sIx n d (some v) : Nat) : Int) := by
  show (if v < 0 then max (v + (n : Int)) 0 else min v (n : Int)) = (((if v < 0 then (v + (n : Int)).toNat else min v.toNat n) : Nat) : Int)
  by_cases hv : v < 0
  · simp only [if_pos hv]; omega
  · simp only [if_neg hv]; omega
theorem adjust_gen (lo hi : Option Int) (n : Nat) : Builtin.Slice.sliceAdjust lo hi 1 (n : Int) = (((sIx n 0 lo : Nat) : Int), ((sIx n n hi : Nat) : Int)) := by
  have h1 : ¬ ((1 : Int) < 0) := by omega
  unfold Builtin.Slice.sliceAdjust
  simp only [h1, if_false]
  refine Prod.ext ?_ ?_
  · cases lo with
    | none => rfl
    | some v => exact clip_eq v n 0
  · cases hi with
    | none => rfl
    | some v => exact clip_eq v n n
theorem places_gen (i j : Nat) : Builtin.Slice.slicePlaces (i : Int) (j : Int) 1 = j - i := by
  unfold Builtin.Slice.slicePlaces
  have h1 : (1 : Int) > 0 := by omega
  simp only [h1, if_true, Int.ediv_one]
  split <;> omega
theorem slicePart_ {v : Value} {o : Option Int} {Q : Option Int → Shared → Prop} (p : IsPart v o) (h : Q o s) : wpAny (model prog w) A (Builtin.Slice.slicePartIndex v) Q E s := by
  cases p with
  | none => exact slicePart_none h
  | int i t => exact slicePart_int h
theorem sliceApplied_gen {sl : Addr} {vl vu : Value} {lo hi : Option Int} {n : Nat} {Q : Int × Int × Nat → Shared → Prop} (hs : s.heap.IsSliceOf sl vl vu .none) (pl : IsPart vl lo) (pu : IsPart vu hi)
    (h : Q (((sIx n 0 lo : Nat) : Int), 1, sIx n n hi - sIx n 0 lo) s) : wpAny (model prog w) A (Builtin.Slice.sliceApplied (.ref sl) (pure (n : Int))) Q E s := by
  obtain ⟨os, hos, hcs, hds⟩ := id hs
  unfold Builtin.Slice.sliceApplied Builtin.Slice.sliceFields
  refine wpAny_bind (wpAny_bind (wpAny_field hos hds (x := vl) rfl (wpAny_bind (wpAny_field hos hds (x := vu) rfl (wpAny_bind (wpAny_field hos hds (x := .none) rfl (wpAny_pure ?_)))))))
  refine wpAny_bind (slicePart_none ?_)
  show wpAny _ _ (if ((1 : Int) == 0) = true then _ else _) _ _ s
  rw [if_neg (by decide)]
  refine wpAny_bind (slicePart_ pl (wpAny_bind (slicePart_ pu (wpAny_bind (wpAny_pure ?_)))))
  show wpAny _ _ (match Builtin.Slice.sliceAdjust lo hi 1 (n : Int) with | (lo, hi) => pure (lo, (1 : Int), Builtin.Slice.slicePlaces lo hi 1)) _ _ s
  rw [adjust_gen lo hi n]
  show wpAny _ _ (pure (((sIx n 0 lo : Nat) : Int), (1 : Int), Builtin.Slice.slicePlaces ((sIx n 0 lo : Nat) : Int) ((sIx n n hi : Nat) : Int) 1)) _ _ s
  rw [places_gen]
  exact wpAny_pure h
theorem pick_gen (xs : Array Value) (i k : Nat) : ((List.range k).filterMap fun (m : Nat) => xs[((i : Int) + (m : Int) * 1).toNat]?).toArray = ((xs.toList.drop i).take k).toArray := by
  have e : (fun (m : Nat) => xs[((i : Int) + (m : Int) * 1).toNat]?) = fun m => xs[i + m]? := by
    funext m
    have : ((i : Int) + (m : Int) * 1).toNat = i + m := by omega
    rw [this]
  rw [e]
  have := pick_run xs i k
  rw [List.filterMap_map] at this
  have e2 : ((fun x => xs[x]?) ∘ fun x => i + x) = fun m => xs[i + m]? := rfl
  rw [e2] at this
  rw [this]
theorem getItem_tuple_cut {t sl : Addr} {items : Array Value} {vl vu : Value} {lo hi : Option Int} {Q : Value → Shared → Prop} (ht : IsTup s.heap t items) (hs : s.heap.IsSliceOf sl vl vu .none) (pl : IsPart vl lo) (pu : IsPart vu hi)
    (hw : ¬ (sIx items.size 0 lo = 0 ∧ sIx items.size items.size hi = items.size))
    (h : Q (.ref s.heap.objs.size) { s with heap := s.heap.push { cls := .type "tuple", data := .seq ((items.toList.drop (sIx items.size 0 lo)).take (sIx items.size items.size hi - sIx items.size 0 lo)).toArray } })
    (hsz : items.size ≤ sizeLine) : wpAny (model prog w) A (getItem (.ref t) (.ref sl)) Q E s := by
  have htake : sizeOk (.seq ((items.toList.drop (sIx items.size 0 lo)).take (sIx items.size items.size hi - sIx items.size 0 lo)).toArray) := by
    show ((items.toList.drop (sIx items.size 0 lo)).take (sIx items.size items.size hi - sIx items.size 0 lo)).toArray.size ≤ sizeLine
    rw [List.size_toArray, List.length_take, List.length_drop, Array.length_toList]
    omega
  have hj : sIx items.size items.size hi ≤ items.size := sIx_le _ _ (Nat.le_refl _) hi
  obtain ⟨os, hos, hcs, hds⟩ := id hs
  have hTs : s.TypeIs (.ref sl) "slice" := ⟨os, hos, hcs⟩
  unfold getItem
  try with_reducible refine wpAny_holding ?_
  first | refine wpAny_bind (wpAny_pure ?_) | skip
  refine wpAny_bind (wpAny_sequenceKey ht.typeIs (by decide) ?_)
  refine wpAny_bind (wpAny_callSpecial?_slot (name := Str.ofString "__getitem__") ht.typeIs PyProof.Rows.slot_tuple_getitem
    (wpAny_call_entry PyProof.Rows.slot_tuple_getitem ht.typeIs entry_tuple_getitem ?_ (args_tuple_getitem _ _)))
  show wpAny _ _ (Builtin.Tuple.tupleItemsOf (.ref t) >>= _) _ _ s
  refine wpAny_bind (tupleItemsOf_ ht ?_)
  refine wpAny_bind (wpAny_typeOf hTs ?_)
  rw [if_pos (by decide)]
  refine wpAny_bind (sliceApplied_gen hs pl pu ?_)
  have hno : ¬ ((((sIx items.size 0 lo : Nat) : Int) == 0 && (1 : Int) == 1 && (sIx items.size items.size hi - sIx items.size 0 lo) == items.size) = true) := by
    intro q
    rw [Bool.and_eq_true, Bool.and_eq_true] at q
    have q1 : ((sIx items.size 0 lo : Nat) : Int) = 0 := eq_of_beq q.1.1
    have q2 : sIx items.size items.size hi - sIx items.size 0 lo = items.size := eq_of_beq q.2
    exact hw ⟨by omega, by omega⟩
  show wpAny _ _ (if (((sIx items.size 0 lo : Nat) : Int) == 0 && (1 : Int) == 1 && (sIx items.size items.size hi - sIx items.size 0 lo) == items.size) = true then _ else _) _ _ s
  rw [if_neg hno, pick_gen]
  first
    | exact wpAny_bind (m := Builtin.Tuple.tupleExact _) (wpAny_newObj_type (wpAny_pure ⟨_, rfl, wpAny_pure h⟩) htake)
    | exact wpAny_bind (m := Builtin.Tuple.tupleExact _) (wpAny_newObj_type (wpAny_bind (wpAny_pure (wpAny_pure ⟨_, rfl, wpAny_pure h⟩))) htake)
    | exact wpAny_bind (wpAny_bind (m := Builtin.Tuple.tupleExact _) (wpAny_newObj_type (wpAny_pure (wpAny_pure ⟨_, rfl, wpAny_pure h⟩)) htake))
    | exact wpAny_bind (wpAny_bind (m := Builtin.Tuple.tupleExact _) (wpAny_newObj_type (wpAny_pure ⟨_, rfl, wpAny_pure h⟩) htake))
end
end HT
namespace L2
open PySem PySem.Spec PyProof.Rows
abbrev TO := St → Hp → (Option Int → Hp → Prop) → Prop
def PO (X : Cx) (e : Option Expr) (t : TO) : Prop :=
  ∀ (pins : List (Addr × Obj)) (s : Shared) (σ : St) (H : Hp) (Q : Option Int → Hp → Prop), Inv X pins σ H s → t σ H Q →
    wpAny (model X.prog X.w) X.A (evalPart e X.env) (fun u s' => ∃ o H', Inv X pins σ H' s' ∧ IsPart u o ∧ Q o H') X.xe s
def tNoPart : TO := fun _ H Q => Q none H
def tPart (t : TE) : TO := fun σ H Q => t σ H fun x H1 => ∃ i, x = .int i ∧ Q (some i) H1
section
variable {X : Cx} {e : Expr} {te : TE} {lo hi : Option Expr} {tl th : TO} {pos p2 : Pos}
theorem po_none : PO X none tNoPart := by
  intro pins s σ H Q I h
  rw [evalPart_none]
  exact wpAny_pure ⟨none, H, I, .none, h⟩
theorem po_some (h : PE X e te) : PO X (some e) (tPart te) := by
  intro pins s σ H Q I hw
  rw [evalPart_some]
  refine thn (h pins s σ H _ I hw) fun u s1 ⟨x, H1, I1, r1, q1⟩ => ?_
  obtain ⟨i, rfl, q⟩ := q1
  obtain ⟨t, rfl⟩ := r1
  exact ⟨some i, H1, I1, .int i t, q⟩
def SlR (X : Cx) (r : V → Option Int → Option Int → Hp → VK → Prop) : Prop :=
  ∀ (pins : List (Addr × Obj)) (s : Shared) (σ : St) (H : Hp) (x : V) (v vl vu : Value) (lo hi : Option Int) (sl : Addr) (Q : VK), Inv X pins σ H s → RelV x v → s.heap.IsSliceOf sl vl vu .none → IsPart vl lo → IsPart vu hi → r x lo hi H Q →
    ∃ T id, typeLookup (.type T) "__getitem__" = pure (some (.builtin id)) ∧ s.TypeIs v T ∧ wpAny (model X.prog X.w) X.A (getItem v (.ref sl)) (EP X pins σ Q) X.xe s
def tSl (r : V → Option Int → Option Int → Hp → VK → Prop) (te : TE) (tl th : TO) : TE := fun σ H Q => te σ H fun x H1 => tl σ H1 fun l H2 => th σ H2 fun u H3 => r x l u H3 Q
theorem pe_slice {r : V → Option Int → Option Int → Hp → VK → Prop} (hr : SlR X r) (he : PE X e te) (hl : PO X lo tl) (hu : PO X hi th) : PE X (.Subscript e (.Slice lo hi none p2) pos) (tSl r te tl th) := by
  intro pins s σ H Q I h
  refine Subscript_ (thn (he pins s σ H _ I h) fun v s1 ⟨x, H1, I1, r1, q1⟩ => ?_)
  refine wpAny_Slice (thn (hl pins s1 σ H1 _ I1 q1) fun vl s2 ⟨l, H2, I2, pl, q2⟩ => thn (hu pins s2 σ H2 _ I2 q2) fun vu s3 ⟨u, H3, I3, pu, q3⟩ => ?_)
  rw [evalPart_none]
  refine wpAny_pure ?_
  have I4 : Inv X pins σ H3 { s3 with heap := s3.heap.push { cls := .type "slice", data := .fields #[vl, vu, .none] } } := I3.kept (t' := s3.toks) fun b ob q => Heap.get?_push_of_some _ q
  obtain ⟨T, id, hT, ht, hg⟩ := hr pins { s3 with heap := s3.heap.push { cls := .type "slice", data := .fields #[vl, vu, .none] } } σ H3 x v vl vu l u s3.heap.objs.size Q I4 r1 (Heap.IsSliceOf.new ..) pl pu q3
  show wpAny (model X.prog X.w) X.A (subscriptTail e (.Slice lo hi none p2) v (.ref s3.heap.objs.size)) (EP X pins σ Q) X.xe { s3 with heap := s3.heap.push { cls := .type "slice", data := .fields #[vl, vu, .none] } }
  exact tail_any (ops := [.ref s3.heap.objs.size, v]) ht hT hg (by with_unfolding_all rfl)
def cutV (xs : List V) (lo hi : Option Int) : List V := (xs.drop (HT.sIx xs.length 0 lo)).take (HT.sIx xs.length xs.length hi - HT.sIx xs.length 0 lo)
theorem cutV_length (xs : List V) (lo hi : Option Int) : (cutV xs lo hi).length ≤ xs.length := by
  unfold cutV
  rw [List.length_take, List.length_drop]
  omega
def rSlT (K : PySem.W.Frag) : V → Option Int → Option Int → Hp → VK → Prop := fun x lo hi H Q => ∃ a xs, x = .ref a ∧ SqT K H a xs ∧
  ¬ (HT.sIx xs.length 0 lo = 0 ∧ HT.sIx xs.length xs.length hi = xs.length) ∧ ∀ p, H p = none → Q (.ref p) (upd H p (.tup (cutV xs lo hi)))
theorem sl_tup : SlR X (rSlT X.K) := by
  intro pins s σ H x v vl vu lo hi sl Q I rx hs pl pu h
  obtain ⟨a, xs, rfl, hx, hw, q⟩ := h
  cases rx
  obtain ⟨its, r, ht, hz⟩ := I.tuple hx
  have hlen : its.toArray.size = xs.length := by rw [List.size_toArray]; exact r.length.symm
  refine ⟨"tuple", _, PyProof.Rows.slot_tuple_getitem.lookup, ht.typeIs, ?_⟩
  refine HT.getItem_tuple_cut ht hs pl pu (by rw [hlen]; exact hw) ?_ (by rw [hlen]; exact hz)
  rw [hlen]
  refine ⟨.ref s.heap.objs.size, _, I.laid (t' := s.toks) (o := .tup (cutV xs lo hi)) (fun b ob q => Heap.get?_push_of_some _ q) (Nat.le_refl _) ?_, rfl, q _ (I.hok.fresh (Nat.le_refl _))⟩
  exact ⟨Nat.le_trans (cutV_length xs lo hi) hz, _, (r.drop (HT.sIx xs.length 0 lo)).take (HT.sIx xs.length xs.length hi - HT.sIx xs.length 0 lo), IsTup.new _ _⟩
def rLtT (K : PySem.W.Frag) : R2 := fun x y H Q => ∃ a b ns ms, x = .ref a ∧ y = .ref b ∧ SqT K H a (ns.map V.int) ∧ SqT K H b (ms.map V.int) ∧ Q (.bl (HT.lexLt ns ms)) H
def rCatT (K : PySem.W.Frag) : R2 := fun x y H Q => ∃ a b xs ys, x = .ref a ∧ y = .ref b ∧ SqT K H a xs ∧ SqT K H b ys ∧ xs ≠ [] ∧ xs.length + ys.length ≤ sizeLine ∧
  (ys = [] → Q (.ref a) H) ∧ (ys ≠ [] → ∀ p, H p = none → Q (.ref p) (upd H p (.tup (xs ++ ys))))
end
end L2
namespace L2
open PySem PySem.Spec PyProof.Rows
def ixN (n : Nat) (i : Int) : Option Nat := if 0 ≤ i then (if i < n then some i.toNat else none) else if -(n : Int) ≤ i then some (i + n).toNat else none
def atI {α : Type} (xs : List α) (i : Int) : Option α := (ixN xs.length i).bind fun j => xs[j]?
theorem ixN_seq {n : Nat} {i : Int} {j : Nat} (h : ixN n i = some j) : seqIndex? i n = some j ∧ j < n ∧ -(n : Int) ≤ i ∧ i < n := by
  unfold ixN at h
  by_cases h0 : 0 ≤ i
  · rw [if_pos h0] at h
    by_cases h1 : i < n
    · rw [if_pos h1] at h
      have e : i.toNat = j := Option.some.inj h
      exact ⟨by rw [seqIndex_of h0 h1, e], by omega, by omega, h1⟩
    · rw [if_neg h1] at h; cases h
  · rw [if_neg h0] at h
    by_cases h1 : -(n : Int) ≤ i
    · rw [if_pos h1] at h
      have e : (i + n).toNat = j := Option.some.inj h
      exact ⟨by rw [seqIndex_neg (by omega) h1, e], by omega, h1, by omega⟩
    · rw [if_neg h1] at h; cases h
theorem atI_get {α : Type} {xs : List α} {i : Int} {v : α} (h : atI xs i = some v) : ∃ j, seqIndex? i xs.length = some j ∧ xs[j]? = some v ∧ j < xs.length ∧ -(xs.length : Int) ≤ i ∧ i < xs.length := by
  unfold atI at h
  cases e : ixN xs.length i with
  | none => rw [e] at h; cases h
  | some j =>
    rw [e] at h
    obtain ⟨h1, h2, h3, h4⟩ := ixN_seq e
    exact ⟨j, h1, h, h2, h3, h4⟩
theorem atI_nat {α : Type} {xs : List α} {j : Nat} {v : α} (h : xs[j]? = some v) : atI xs (j : Int) = some v := by
  have hj : j < xs.length := (List.getElem?_eq_some_iff.mp h).1
  have e : ixN xs.length (j : Int) = some j := by
    unfold ixN
    rw [if_pos (by omega), if_pos (by omega)]; simp
  unfold atI; rw [e]; exact h
def PlainIx (b : Expr) : Prop := ∀ o i, subscripted b false o i = operate [o, i] (getItem o i)
def IxR (X : Cx) (r : R2) : Prop :=
  ∀ (value slice : Expr) (pins : List (Addr × Obj)) (s : Shared) (σ : St) (H : Hp) (x y : V) (v u : Value) (Q : VK), Inv X pins σ H s → RelV x v → RelV y u → r x y H Q →
    subscripted slice false v u = operate [v, u] (getItem v u) → wpAny (model X.prog X.w) X.A (subscriptTail value slice v u) (EP X pins σ Q) X.xe s
def MtR (X : Cx) (id : String) (r : V → List V → Hp → VK → Prop) : Prop :=
  ∀ (pins : List (Addr × Obj)) (s : Shared) (σ : St) (H : Hp) (x : V) (xs : List V) (v : Value) (us : List Value) (Q : VK), Inv X pins σ H s → RelV x v → Vals xs us → r x xs H Q →
    wpAny (model X.prog X.w) X.A (call (.builtin id) (v :: us)) (EP X pins σ Q) X.xe s
section
variable {X : Cx} {a b : Expr} {ta tb : TE} {pos : Pos}
theorem pe_ix {r : R2} (hr : IxR X r) (ha : PE X a ta) (hb : PE X b tb) (hs : PlainIx b) : PE X (.Subscript a b pos) (tOp r ta tb) := by
  intro pins s σ H Q I h
  exact Subscript_ (binT ha hb I h fun v u s2 x y H2 I2 rx ry q => hr a b pins s2 σ H2 x y v u Q I2 rx ry q (hs _ _))
def rIxL (K : PySem.W.Frag) : R2 := fun x y H Q => ∃ p xs i v, x = .ref p ∧ y = .int i ∧ SqL K H p xs ∧ atI xs i = some v ∧ Q v H
def rIxT (K : PySem.W.Frag) : R2 := fun x y H Q => ∃ p xs i v, x = .ref p ∧ y = .int i ∧ SqT K H p xs ∧ atI xs i = some v ∧ Q v H
def rIxS : R2 := fun x y H Q => ∃ z i c, x = .str z ∧ y = .int i ∧ z.length ≤ sizeLine ∧ atI z.cps.toList i = some c ∧ Q (.str ⟨#[c]⟩) H
theorem ix_list : IxR X (rIxL X.K) := by
  intro value slice pins s σ H x y v u Q I rx ry h hs
  obtain ⟨p, xs, i, z, rfl, rfl, hq, he, q⟩ := h
  cases rx
  obtain ⟨t, rfl⟩ := ry
  obtain ⟨its, r, pl, hz⟩ := I.list hq
  obtain ⟨j, h1, h2, h3, h4, h5⟩ := atI_get he
  obtain ⟨w, ew, rw'⟩ := r.get h2
  have hl := r.length
  have hn := line63
  have fin : EP X pins σ Q w s := ⟨z, H, I, rw', q⟩
  by_cases h0 : 0 ≤ i
  · have hj : i.toNat = j := by
      rw [seqIndex_of h0 h5] at h1
      exact Option.some.inj h1
    exact item_listR pl.isList h0 (by omega) (by rw [hj]; simpa using ew) fin hs
  · have hj : (i + (its.toArray.size : Int)).toNat = j := by
      rw [seqIndex_neg (by omega) h4] at h1
      rw [List.size_toArray, ← hl]
      exact Option.some.inj h1
    exact subscriptTail_builtinR (x := w) pl.isList.typeIs slot_list_getitem.lookup
      (wpAny_getItem_list_neg (Q := fun r s' => r = w ∧ EP X pins σ Q r s') pl.isList (by omega) (by rw [List.size_toArray] <;> omega) (by omega) (by rw [hj]; simpa using ew) ⟨rfl, fin⟩) hs
theorem ix_tup : IxR X (rIxT X.K) := by
  intro value slice pins s σ H x y v u Q I rx ry h hs
  obtain ⟨p, xs, i, z, rfl, rfl, hq, he, q⟩ := h
  cases rx
  obtain ⟨t, rfl⟩ := ry
  obtain ⟨its, r, pl, hz⟩ := I.tuple hq
  obtain ⟨j, h1, h2, h3, h4, h5⟩ := atI_get he
  obtain ⟨w, ew, rw'⟩ := r.get h2
  have hl := r.length
  have hn := line63
  have fin : EP X pins σ Q w s := ⟨z, H, I, rw', q⟩
  exact subscriptTail_builtinR (x := w) pl.typeIs slot_tuple_getitem.lookup
    (getItem_tuple (j := j) (Q := fun r s' => r = w ∧ EP X pins σ Q r s') pl (by omega) (by omega) (by rw [List.size_toArray, ← hl]; exact h1) (by simpa using ew) ⟨rfl, fin⟩) hs
def rIx (K : PySem.W.Frag) : R2 := fun x y H Q => rIxL K x y H Q ∨ rIxT K x y H Q ∨ rIxS x y H Q
theorem mapSeq_set (its : List Value) (n j : Nat) (u : Value) : Obj.mapSeq (·.setIfInBounds j u) { cls := .type "list", data := .seq its.toArray n } = { cls := .type "list", data := .seq (its.set j u).toArray n } := by
  simp [Obj.mapSeq]
theorem Inv.lst {pins : List (Addr × Obj)} {σ : St} {H : Hp} {s : Shared} {p : Addr} {xs : List V} (I : Inv X pins σ H s) (h : H p = some (.lst xs)) :
    ∃ (its : List Value) (n : Nat), Vals xs its ∧ s.heap.get? p = some { cls := .type "list", data := .seq its.toArray n } ∧ xs.length ≤ sizeLine := by
  obtain ⟨z, its, n, r, e⟩ := I.hok p _ h
  exact ⟨its, n, r, e, z⟩
theorem Inv.lstUpd {pins : List (Addr × Obj)} {σ : St} {H : Hp} {s : Shared} {p : Addr} {xs ys : List V} {its its' : List Value} {n n' : Nat} {f : Obj → Obj} (I : Inv X pins σ H s) (h : H p = some (.lst xs))
    (ho : s.heap.get? p = some { cls := .type "list", data := .seq its.toArray n }) (hf : f { cls := .type "list", data := .seq its.toArray n } = { cls := .type "list", data := .seq its'.toArray n' }) (r : Vals ys its') (hz : ys.length ≤ sizeLine) (t : Nat) :
    Inv X pins σ (upd H p (.lst ys)) { s with heap := s.heap.update p f, toks := t } := by
  have e : (s.heap.update p f).get? p = some { cls := .type "list", data := .seq its'.toArray n' } := by
    rw [Heap.get?_update_self f ho (by rw [hf] <;> rfl), hf]
  refine I.write (x := p) (e := p) (by rw [h]; trivial) (.inl rfl) (fun b u hb q => (Heap.get?_update_other _ _ (Ne.symm hb)).trans q) ⟨_, e⟩ ?_
  exact ⟨hz, its', n', r, e⟩
def rSetL : V → V → V → Hp → (Hp → Prop) → Prop := fun o i v H Q => ∃ p xs k j, o = .ref p ∧ i = .int k ∧ H p = some (.lst xs) ∧ ixN xs.length k = some j ∧ Q (upd H p (.lst (xs.set j v)))
theorem set_list : PSet X rSetL := by
  intro pins s σ H o i v ov iv u Q I ro ri rv h
  obtain ⟨p, xs, k, j, rfl, rfl, hp, hj, q⟩ := h
  cases ro
  obtain ⟨t, rfl⟩ := ri
  obtain ⟨its, n, r, ho, hz⟩ := I.lst hp
  obtain ⟨h1, h2, h3, h4⟩ := ixN_seq hj
  have hl := r.length
  have hn := line63
  have I' : Inv X pins σ (upd H p (.lst (xs.set j v))) { s with heap := s.heap.update p (Obj.mapSeq (·.setIfInBounds j u)) } :=
    I.lstUpd hp ho (mapSeq_set its n j u) (r.set rv j) (by rw [List.length_set]; exact hz) s.toks
  by_cases h0 : 0 ≤ k
  · have hk : k.toNat = j := by
      rw [seqIndex_of h0 h4] at h1
      exact Option.some.inj h1
    exact PySem.W.ki_setAt ho h0 (by omega) (by rw [List.size_toArray, ← hl]; exact h4) (by rw [hk]; exact ⟨_, I', q⟩)
  · have hk : (k + (its.toArray.size : Int)).toNat = j := by
      rw [seqIndex_neg (by omega) h3] at h1
      rw [List.size_toArray, ← hl]
      exact Option.some.inj h1
    exact PySem.W.ki_setBack ho (by omega) (by rw [List.size_toArray, ← hl]; exact h3) (by omega) (by rw [hk]; exact ⟨_, I', q⟩)
theorem slice_bounds (lo hi : Option Int) (n : Nat) : (sliceBounds lo hi none n).1 = ((HT.sIx n 0 lo : Nat) : Int) ∧ (sliceBounds lo hi none n).2.1 = ((HT.sIx n n hi : Nat) : Int) ∧ (sliceBounds lo hi none n).2.2 = 1 := by
  refine ⟨?_, ?_, rfl⟩
  · cases lo with
    | none => simp [sliceBounds, HT.sIx]
    | some i =>
      simp only [sliceBounds, HT.sIx, Option.getD_none, show (1 : Int) > 0 by decide, if_true]
      by_cases h : i < 0
      · simp only [h, if_true] <;> omega
      · simp only [h, if_false] <;> omega
  · cases hi with
    | none => simp [sliceBounds, HT.sIx]
    | some i =>
      simp only [sliceBounds, HT.sIx, Option.getD_none, show (1 : Int) > 0 by decide, if_true]
      by_cases h : i < 0
      · simp only [h, if_true] <;> omega
      · simp only [h, if_false] <;> omega
theorem slicePick_cut (its : List Value) (lo hi : Option Int) : slicePick its.toArray lo hi none = ((its.drop (HT.sIx its.length 0 lo)).take (HT.sIx its.length its.length hi - HT.sIx its.length 0 lo)).toArray := by
  obtain ⟨h1, h2, h3⟩ := slice_bounds lo hi its.toArray.size
  unfold slicePick
  rw [h1, h2, h3]
  simp only [sliceRange_one, pick_run, List.size_toArray] <;> rfl
def rSlL (K : PySem.W.Frag) : V → Option Int → Option Int → Hp → VK → Prop := fun x lo hi H Q => ∃ a xs, x = .ref a ∧ SqL K H a xs ∧ ∀ p, H p = none → Q (.ref p) (upd H p (.lst (cutV xs lo hi)))
theorem sl_list : SlR X (rSlL X.K) := by
  intro pins s σ H x v vl vu lo hi sl Q I rx hs pl pu h
  obtain ⟨a, xs, rfl, hx, q⟩ := h
  cases rx
  obtain ⟨its, r, ht, hz⟩ := I.list hx
  have hlen := r.length
  refine ⟨"list", _, slot_list_getitem.lookup, ht.isList.typeIs, ?_⟩
  refine wpAny_getItem_list_slice ht.isList hs pl pu .none (by simp) ?_ (by rw [List.size_toArray] <;> omega)
  rw [slicePick_cut, ← hlen]
  refine ⟨.ref s.heap.objs.size, _, I.laid (t' := s.toks) (o := .lst (cutV xs lo hi)) (fun b ob q => Heap.get?_push_of_some _ q) (Nat.le_refl _) ?_, rfl, q _ (I.hok.fresh (Nat.le_refl _))⟩
  exact ⟨Nat.le_trans (cutV_length xs lo hi) hz, _, 0, (r.drop (HT.sIx xs.length 0 lo)).take (HT.sIx xs.length xs.length hi - HT.sIx xs.length 0 lo), Heap.get?_push_size _ rfl⟩
def flatV : V → Bool
  | .non => true
  | .bl _ => true
  | .int _ => true
  | .str _ => true
  | _ => false
def eqV : V → V → Bool
  | .non, .non => true
  | .bl a, .bl b => a == b
  | .bl a, .int b => (if a then 1 else 0) == b
  | .int a, .bl b => a == (if b then 1 else 0)
  | .int a, .int b => a == b
  | .str a, .str b => a == b
  | _, _ => false
theorem eqAt_V {A : Around} {s : Shared} {y x : V} {u v : Value} (ry : RelV y u) (rx : RelV x v) (fy : flatV y = true) (fx : flatV x = true) : SeqAt.EqAt A s u v (eqV y x) := by
  cases y with
  | non =>
    cases ry
    cases x with
    | non => cases rx; exact SeqAt.EqAt.same _
    | bl b => cases rx; exact SeqAt.EqAt.none_bool b
    | int b => obtain ⟨t, rfl⟩ := rx; exact SeqAt.EqAt.none_int b t
    | str b => obtain ⟨t, rfl⟩ := rx; exact SeqAt.EqAt.none_str b t
    | _ => exact absurd (show false = true from fx) Bool.false_ne_true
  | bl a =>
    cases ry
    cases x with
    | non => cases rx; exact SeqAt.EqAt.bool_none a
    | bl b => cases rx; exact SeqAt.EqAt.bool_bool a b
    | int b => obtain ⟨t, rfl⟩ := rx; exact SeqAt.EqAt.bool_int a b t
    | str b => obtain ⟨t, rfl⟩ := rx; exact SeqAt.EqAt.bool_str a b t
    | _ => exact absurd (show false = true from fx) Bool.false_ne_true
  | int a =>
    obtain ⟨t', rfl⟩ := ry
    cases x with
    | non => cases rx; exact SeqAt.EqAt.int_none a t'
    | bl b => cases rx; exact SeqAt.EqAt.int_bool a t' b
    | int b => obtain ⟨t, rfl⟩ := rx; exact SeqAt.EqAt.int_int a t' b t
    | str b => obtain ⟨t, rfl⟩ := rx; exact SeqAt.EqAt.int_str a t' b t
    | _ => exact absurd (show false = true from fx) Bool.false_ne_true
  | str a =>
    obtain ⟨t', rfl⟩ := ry
    cases x with
    | non => cases rx; exact SeqAt.EqAt.str_none a t'
    | bl b => cases rx; exact SeqAt.EqAt.str_bool a t' b
    | int b => obtain ⟨t, rfl⟩ := rx; exact SeqAt.EqAt.str_int a t' b t
    | str b => obtain ⟨t, rfl⟩ := rx; exact SeqAt.EqAt.str_str a t' b t
    | _ => exact absurd (show false = true from fx) Bool.false_ne_true
  | _ => exact absurd (show false = true from fy) Bool.false_ne_true
def eqU (x : V) (u : Value) : Bool := match u with
  | .none => eqV .non x
  | .bool b => eqV (.bl b) x
  | .int i _ => eqV (.int i) x
  | .str z _ => eqV (.str z) x
  | _ => false
theorem eqU_of {x y : V} {u : Value} (r : RelV y u) (f : flatV y = true) : eqU x u = eqV y x := by
  cases y with
  | non => cases r; rfl
  | bl b => cases r; rfl
  | int i => obtain ⟨t, rfl⟩ := r; rfl
  | str z => obtain ⟨t, rfl⟩ := r; rfl
  | _ => exact absurd (show false = true from f) Bool.false_ne_true
theorem any_eqU {x : V} : ∀ {xs : List V} {us : List Value}, Vals xs us → xs.all flatV = true → us.any (eqU x) = xs.any fun y => eqV y x
  | _, _, .nil, _ => rfl
  | y :: xs, u :: us, .cons r t, f => by
    rw [List.all_cons, Bool.and_eq_true] at f
    rw [List.any_cons, List.any_cons, eqU_of r f.1, any_eqU t f.2]
theorem mem_eqAt {A : Around} {s : Shared} {x : V} {v : Value} (rx : RelV x v) (fx : flatV x = true) : ∀ {xs : List V} {us : List Value}, Vals xs us → xs.all flatV = true → ∀ u ∈ us, SeqAt.EqAt A s u v (eqU x u)
  | _, _, .nil, _ => fun u hu => by cases hu
  | y :: xs, u :: us, .cons r t, f => fun u' hu => by
    rw [List.all_cons, Bool.and_eq_true] at f
    rcases List.mem_cons.mp hu with rfl | hu
    · rw [eqU_of r f.1]; exact eqAt_V r rx f.1 fx
    · exact mem_eqAt rx fx t f.2 u' hu
def inV (x : V) (xs : List V) : Bool := xs.any fun y => eqV y x
def rIn (K : PySem.W.Frag) (neg : Bool) : R2 := fun x y H Q => ∃ p xs, y = .ref p ∧ (SqL K H p xs ∨ SqT K H p xs) ∧ flatV x = true ∧ xs.all flatV = true ∧ Q (.bl (if neg then !inV x xs else inV x xs)) H
theorem op_in_seq : OpR X (compareOp .In) (rIn X.K false) := by
  intro pins s σ H x y v u Q I rx ry h
  obtain ⟨p, xs, rfl, hq, fx, fs, q⟩ := h
  cases ry
  rcases hq with hq | hq
  · obtain ⟨its, r, pl, hz⟩ := I.list hq
    refine SeqAt.in_listAt (eqU x) pl.isList (fun w hw => mem_eqAt rx fx r fs w (by simpa using hw)) ⟨.bl _, H, I, rfl, ?_⟩
    rw [show its.toArray.any (eqU x) = its.any (eqU x) by simp, any_eqU r fs]
    exact q
  · obtain ⟨its, r, pl, hz⟩ := I.tuple hq
    refine SeqAt.in_tupleAt (eqU x) pl (fun w hw => mem_eqAt rx fx r fs w (by simpa using hw)) ⟨.bl _, H, I, rfl, ?_⟩
    rw [show its.toArray.any (eqU x) = its.any (eqU x) by simp, any_eqU r fs]
    exact q
theorem op_notIn_seq : OpR X (compareOp .NotIn) (rIn X.K true) := by
  intro pins s σ H x y v u Q I rx ry h
  obtain ⟨p, xs, rfl, hq, fx, fs, q⟩ := h
  cases ry
  rcases hq with hq | hq
  · obtain ⟨its, r, pl, hz⟩ := I.list hq
    refine SeqAt.notIn_listAt (eqU x) pl.isList (fun w hw => mem_eqAt rx fx r fs w (by simpa using hw)) ⟨.bl _, H, I, rfl, ?_⟩
    rw [show its.toArray.any (eqU x) = its.any (eqU x) by simp, any_eqU r fs]
    exact q
  · obtain ⟨its, r, pl, hz⟩ := I.tuple hq
    refine SeqAt.notIn_tupleAt (eqU x) pl (fun w hw => mem_eqAt rx fx r fs w (by simpa using hw)) ⟨.bl _, H, I, rfl, ?_⟩
    rw [show its.toArray.any (eqU x) = its.any (eqU x) by simp, any_eqU r fs]
    exact q
theorem call_len_seq : CallR X (.builtin "len") (fun xs H Q => ∃ p ys, xs = [.ref p] ∧ (SqL X.K H p ys ∨ SqT X.K H p ys) ∧ Q (.int ys.length) H) := by
  intro pins s σ H xs us Q I r h
  obtain ⟨p, ys, rfl, hq, q⟩ := h
  obtain ⟨u, rfl, rx⟩ := vals1 r
  cases rx
  have hn := line63
  rcases hq with hq | hq
  · obtain ⟨its, r', pl, hz⟩ := I.list hq
    have hlen := r'.length
    exact Calls.call_len_list pl.isList (by simp only [List.size_toArray] <;> omega) ⟨.int ys.length, H, I.tok _, ⟨s.toks + 1, by rw [List.size_toArray, hlen]⟩, q⟩
  · obtain ⟨its, r', pl, hz⟩ := I.tuple hq
    have hlen := r'.length
    exact len_tuple pl (by simp only [List.size_toArray] <;> omega) ⟨.int ys.length, H, I.tok _, ⟨s.toks + 1, by rw [List.size_toArray, hlen]⟩, q⟩
theorem call_list_of : CallR X (.type "list") (fun xs H Q => ∃ p ys, xs = [.ref p] ∧ (SqL X.K H p ys ∨ SqT X.K H p ys) ∧ ∀ l, H l = none → Q (.ref l) (upd H l (.lst ys))) := by
  intro pins s σ H xs us Q I r h
  obtain ⟨p, ys, rfl, hq, q⟩ := h
  obtain ⟨u, rfl, rx⟩ := vals1 r
  cases rx
  have fin : ∀ (its : List Value), Vals ys its → ys.length ≤ sizeLine → ∀ (h' : Heap) (c' : Nat), (∀ b o', s.heap.get? b = some o' → h'.get? b = some o') →
      h'.get? s.heap.objs.size = some { cls := .type "list", dict := none, data := .seq its.toArray c', slots := #[] } → EP X pins σ Q (.ref s.heap.objs.size) { s with heap := h' } := fun its r' hz h' c' kp e =>
    ⟨.ref s.heap.objs.size, _, I.laid (t' := s.toks) kp (Nat.le_refl _) (show ObjOk X.prog X.w _ h' _ (.lst ys) from ⟨hz, its, c', r', e⟩), rfl, q _ (I.hok.fresh (Nat.le_refl _))⟩
  rcases hq with hq | hq
  · obtain ⟨its, r', pl, hz⟩ := I.list hq
    have hlen := r'.length
    obtain ⟨o, ho, hc, n, hd⟩ := pl.isList
    exact call_list_seq p (.inl rfl) ho hc hd (fun h' c' kp e => fin its r' hz h' c' kp e) (by simp only [List.size_toArray] <;> omega)
  · obtain ⟨its, r', pl, hz⟩ := I.tuple hq
    have hlen := r'.length
    obtain ⟨o, ho, hc, n, hd⟩ := pl
    exact call_list_seq p (.inr rfl) ho hc hd (fun h' c' kp e => fin its r' hz h' c' kp e) (by simp only [List.size_toArray] <;> omega)
theorem call_tuple_of : CallR X (.type "tuple") (fun xs H Q => ∃ p ys, xs = [.ref p] ∧ ((SqL X.K H p ys ∧ ∀ l, H l = none → Q (.ref l) (upd H l (.tup ys))) ∨ (SqT X.K H p ys ∧ Q (.ref p) H))) := by
  intro pins s σ H xs us Q I r h
  obtain ⟨p, ys, rfl, h⟩ := h
  obtain ⟨u, rfl, rx⟩ := vals1 r
  cases rx
  rcases h with ⟨hq, q⟩ | ⟨hq, q⟩
  · obtain ⟨its, r', pl, hz⟩ := I.list hq
    have hlen := r'.length
    refine call_tuple_list pl.isList (fun h' kp => ?_) (by simp only [List.size_toArray] <;> omega)
    have I1 : Inv X pins σ H { s with heap := h' } := I.kept (t' := s.toks) kp
    have I2 : Inv X pins σ (upd H h'.objs.size (.tup ys)) { s with heap := h'.push { cls := .type "tuple", data := .seq its.toArray } } :=
      I1.laid (t' := s.toks) (fun b o e => Heap.get?_push_of_some _ e) (Nat.le_refl _) (show ObjOk X.prog X.w _ _ _ (.tup ys) from ⟨hz, its, r', IsTup.new _ _⟩)
    exact ⟨.ref h'.objs.size, _, I2, rfl, q _ (I1.hok.fresh (Nat.le_refl _))⟩
  · obtain ⟨its, r', pl, hz⟩ := I.tuple hq
    exact call_tuple_same pl ⟨.ref p, H, I, rfl, q⟩
def tyV (K : PySem.W.Frag) (T : String) (x : V) (H : Hp) : Prop := match x with
  | .str _ => T = "str"
  | .int _ => T = "int"
  | .ref p => (T = "list" ∧ ∃ xs, SqL K H p xs) ∨ (T = "tuple" ∧ ∃ o, K.lookup p = some o ∧ o.cls = .type "tuple" ∧ o.dict = none) ∨
      (T = "dict" ∧ ((∃ kvs, H p = some (.dK kvs)) ∨ ∃ kvs, H p = some (.dT kvs))) ∨ (T = "set" ∧ ∃ S n, H p = some (.set S n))
  | _ => False
theorem tyV_is {pins : List (Addr × Obj)} {σ : St} {H : Hp} {s : Shared} {T : String} {x : V} {v : Value} (I : Inv X pins σ H s) (r : RelV x v) (ty : tyV X.K T x H) :
    s.TypeIs v T ∧ ∀ a, v = .ref a → ∃ ob, s.heap.get? a = some ob ∧ ob.dict = none := by
  cases x with
  | str z =>
    obtain ⟨t, rfl⟩ := r
    cases (show T = "str" from ty)
    exact ⟨typeIs_str s z t, fun _ e => nomatch e⟩
  | int i =>
    obtain ⟨t, rfl⟩ := r
    cases (show T = "int" from ty)
    exact ⟨typeIs_int s i t, fun _ e => nomatch e⟩
  | ref p =>
    cases r
    rcases ty with ⟨rfl, xs, hq⟩ | ⟨rfl, o, hk, hc, hd⟩ | ⟨rfl, hk⟩ | ⟨rfl, S, n, hk⟩
    · obtain ⟨its, _, pl, _⟩ := I.list hq
      refine ⟨pl.isList.typeIs, fun a e => ?_⟩
      cases e
      obtain ⟨o, n, e, c, hd, _⟩ := pl
      exact ⟨o, e, hd⟩
    · refine ⟨⟨o, I.kIn p o hk, hc⟩, fun a e => ?_⟩
      cases e
      exact ⟨o, I.kIn _ o hk, hd⟩
    · have z : ∃ o, s.heap.get? p = some o ∧ o.ExactDict := by
        rcases hk with ⟨kvs, hk⟩ | ⟨kvs, hk⟩
        · obtain ⟨_, _, _, _, o, _, _, e, ex, _⟩ := I.hok p _ hk
          exact ⟨o, e, ex⟩
        · obtain ⟨_, _, _, _, o, _, _, e, ex, _⟩ := I.hok p _ hk
          exact ⟨o, e, ex⟩
      obtain ⟨o, e, ex⟩ := z
      refine ⟨⟨o, e, ex.1⟩, fun a e2 => ?_⟩
      cases e2
      exact ⟨o, e, ex.2.1⟩
    · obtain ⟨o, _, _, _, e, ex, _⟩ := I.hok p _ hk
      refine ⟨⟨o, e, ex.1⟩, fun a e2 => ?_⟩
      cases e2
      exact ⟨o, e, ex.2.1⟩
  | _ => exact False.elim ty
def tBM0 (K : PySem.W.Frag) (T : String) (r : V → List V → Hp → VK → Prop) (to : TE) : TE := fun σ H Q => to σ H fun x H1 => tyV K T x H1 ∧ r x [] H1 Q
def tBM (K : PySem.W.Frag) (T : String) (r : V → List V → Hp → VK → Prop) (to : TE) (t : TA) : TE := fun σ H Q => to σ H fun x H1 => tyV K T x H1 ∧ t σ H1 fun xs H2 => r x xs H2 Q
variable {o e : Expr} {es : List Expr} {to : TE} {t : TA} {name : Str} {apos cpos : Pos} {T id : String} {r : V → List V → Hp → VK → Prop}
theorem pe_bm (pa : PlainAttrs T) (slot : Slot T name id) (hty : typeOf (.builtin id) = pure (.type "method_descriptor")) (hm : MtR X id r) (ho : PE X o to) (ha : PA X (e :: es) t)
    (hbase : attributeBase o name X.env (eval o X.env) = eval o X.env := by rfl)
    (hfew : ((backTo cpos (starEach (e :: es) X.env)).all (fun x => !x.1) && (backToKw cpos (keywordEach [] X.env)).all (fun x => x.1.isSome)
      && decide ((e :: es).length + ([] : List Keyword).length + (if ([] : List Keyword).isEmpty then 0 else 1) < 30)) = true := by rfl)
    (hline : (apos.endLine == cpos.line) = true := by rfl) (hs : starEach (e :: es) X.env = (false, eval e X.env) :: starEach es X.env := by rfl) (hplain : (backTo cpos (starEach es X.env)).any (·.1) = false := by rfl) :
    PE X (.Call (.Attribute o name apos) (e :: es) [] cpos) (tBM X.K T r to t) := by
  intro pins s σ H Q I h
  refine wpAny_Call_method_late hbase hfew hline rfl (thn (ho pins s σ H _ I h) fun v s1 ⟨x, H1, I1, r1, ty, q1⟩ => ?_)
  obtain ⟨h1, h2⟩ := tyV_is I1 r1 ty
  refine ⟨T, id, pa, slot, hty, h1, h2, ?_⟩
  have hA := ha cpos pins s1 σ H1 _ I1 q1
  rw [hs] at hA ⊢
  refine Calls.callWith_builtin (by show (false || (backTo cpos (starEach es X.env)).any (·.1)) = false; rw [hplain] <;> rfl) (Calls.evalArgs_plain ?_)
  exact thn hA fun us s2 ⟨vs, H2, I2, r2, q2⟩ => hm pins s2 σ H2 x vs v us Q I2 r1 r2 q2
end
end L2
namespace L2
open PySem PySem.Spec PyProof.Rows
def MtM (X : Cx) (id : String) (r : V → List V → Hp → VK → Prop) : Prop :=
  ∀ (pins : List (Addr × Obj)) (s : Shared) (σ : St) (H : Hp) (x : V) (xs : List V) (v : Value) (us : List Value) (Q : VK), Inv X pins σ H s → RelV x v → Vals xs us → r x xs H Q →
    wpAny (model X.prog X.w) X.A (call (.builtin id) (v :: us)) (EP X pins σ Q) X.xe s
theorem Vals.one : ∀ {x : V} {us : List Value}, Vals [x] us → ∃ u, us = [u] ∧ RelV x u
  | _, _, .cons r .nil => ⟨_, rfl, r⟩
section
variable {X : Cx} {pins : List (Addr × Obj)} {σ : St} {H : Hp} {s : Shared} {l b : Addr} {xs ys zs : List V}
theorem Inv.lset {its its' : List Value} {n : Nat} {f : Array Value → Array Value} {t' : Nat} (I : Inv X pins σ H s) (hH : H l = some (.lst xs))
    (e : s.heap.get? l = some { cls := .type "list", data := .seq its.toArray n }) (hf : f its.toArray = its'.toArray) (hv : Vals ys its') (hz : ys.length ≤ sizeLine) :
    Inv X pins σ (upd H l (.lst ys)) { s with heap := s.heap.update l (Obj.mapSeq f), toks := t' } := by
  have q := PySem.IsL.update e f
  rw [hf] at q
  refine I.write (x := l) (e := l) (by rw [hH]; exact trivial) (.inl rfl) (fun b' u hb hu => (Heap.get?_update_other s.heap (Obj.mapSeq f) (Ne.symm hb)).trans hu) ⟨_, q⟩ ?_
  exact ⟨hz, its', _, hv, q⟩
theorem Inv.lstM (I : Inv X pins σ H s) (hH : H l = some (.lst xs)) : xs.length ≤ sizeLine ∧ ∃ (its : List Value) (n : Nat), Vals xs its ∧ xs.length = its.length ∧ s.heap.get? l = some { cls := .type "list", data := .seq its.toArray n } := by
  obtain ⟨z, its, n, r, e⟩ := I.hok l _ hH
  exact ⟨z, its, n, r, r.length, e⟩
end
section
variable {X : Cx}
def rAppend : V → List V → Hp → VK → Prop := fun x vs H Q => ∃ l xs y, x = .ref l ∧ vs = [y] ∧ H l = some (.lst xs) ∧ xs.length < sizeLine ∧ Q .non (upd H l (.lst (xs ++ [y])))
theorem mt_append : MtM X "list.append" rAppend := by
  intro pins s σ H x vs v us Q I rx rv h
  obtain ⟨l, xs, y, rfl, rfl, hH, hz, q⟩ := h
  cases rx
  obtain ⟨u, rfl, ru⟩ := rv.one
  obtain ⟨z, its, n, r, hl, e⟩ := I.lstM hH
  refine call_meets F.slot_list_append ⟨_, e, rfl⟩ F.entry_list_append (F.args_list_append_2 _ _) (PySem.list_append l its.toArray n u (by rw [List.size_toArray]; omega)) ⟨e, ?_⟩
  refine ⟨.non, _, I.lset (its' := its ++ [u]) hH e (by simp) (r.append (.cons ru .nil)) ?_, rfl, q⟩
  rw [List.length_append, List.length_singleton]
  omega
def rExtend : V → List V → Hp → VK → Prop := fun x vs H Q => ∃ l b xs zs, x = .ref l ∧ vs = [.ref b] ∧ H l = some (.lst xs) ∧ H b = some (.lst zs) ∧ xs.length + zs.length ≤ sizeLine ∧ Q .non (upd H l (.lst (xs ++ zs)))
def rPop : V → List V → Hp → VK → Prop := fun x vs H Q => ∃ l xs y, x = .ref l ∧ vs = [] ∧ H l = some (.lst xs) ∧ xs[xs.length - 1]? = some y ∧ Q y (upd H l (.lst xs.dropLast))
def rPopAt : V → List V → Hp → VK → Prop := fun x vs H Q => ∃ l xs i k y, x = .ref l ∧ vs = [.int i] ∧ H l = some (.lst xs) ∧ -(2 ^ 63) ≤ i ∧ i < 2 ^ 63 ∧ seqIndex? i xs.length = some k ∧ xs[k]? = some y ∧ Q y (upd H l (.lst (xs.eraseIdx k)))
def rReverse : V → List V → Hp → VK → Prop := fun x vs H Q => ∃ l xs, x = .ref l ∧ vs = [] ∧ H l = some (.lst xs) ∧ Q .non (upd H l (.lst xs.reverse))
def rClear : V → List V → Hp → VK → Prop := fun x vs H Q => ∃ l xs, x = .ref l ∧ vs = [] ∧ H l = some (.lst xs) ∧ Q .non (upd H l (.lst []))
def rCat : R2 := fun x y H Q => ∃ l b xs zs, x = .ref l ∧ y = .ref b ∧ H l = some (.lst xs) ∧ H b = some (.lst zs) ∧ xs.length + zs.length ≤ sizeLine ∧ ∀ p, H p = none → Q (.ref p) (upd H p (.lst (xs ++ zs)))
def rRep : R2 := fun x y H Q => ∃ l k xs, x = .ref l ∧ y = .int k ∧ H l = some (.lst xs) ∧ -(2 ^ 63) ≤ k ∧ k < 2 ^ 63 ∧ xs.length * k.toNat ≤ sizeLine ∧
  ∀ p, H p = none → Q (.ref p) (upd H p (.lst (List.replicate k.toNat xs).flatten))
end
section
variable {prog : Program} {w : World} {A : Around} {E : Value → Shared → Prop} {s : Shared}
end
section
variable {X : Cx}
end
end L2
namespace Att
open PySem PySem.W PySem.Calls PyProof.Rows
theorem ints_of_wellAll {P : Params} {h : Heap} : ∀ (ns : List Int) (vs : List Value), WellAll P h vs (ns.map WData.int) → IntsAre vs ns := by
  intro ns
  induction ns with
  | nil =>
    intro vs w
    rw [List.map_nil] at w
    cases w
    exact .nil
  | cons n ns ih =>
    intro vs w
    rw [List.map_cons] at w
    cases w with
    | cons a b =>
      cases a
      exact .cons _ _ (ih _ b)
theorem script_of {l : OpenLaw} {n : Nat} (hn : l.most = some n) {P : Params} {h : Heap} {args : List WData} {vals : List Value}
    (hpre : l.row.toRowW.claim.pre args = true) (hwl : WellAll P h vals args) :
    ∃ a vs ns, vals = [Value.ref a] ∧ args = [WData.list (ns.map WData.int)] ∧ h.get? a = some { cls := .type "list", data := .seq vs.toArray } ∧ IntsAre vs ns ∧ ns.length ≤ n := by
  have hsh : WShape.hasAll [] args [.list .int] = true := (pre_splitW hpre).1
  have hc : l.pre.holds [] { args := args } = true := (pre_splitW hpre).2
  obtain ⟨d, r, rfl, h1, h2⟩ := hasAllW_cons hsh
  obtain rfl := hasAllW_nil h2
  obtain ⟨xs, rfl, h3⟩ := hasW_list h1
  obtain ⟨ns, rfl⟩ := items_int h3
  have hlen : ns.length ≤ n := by
    unfold OpenLaw.pre at hc
    have h4 : (WTm.not (.lt (.lit (.int (n : Int))) (.len (.arg 0)))).holds [] { args := [.list (ns.map .int)] } = true := by
      have h4 := (holds_andW hc).1
      rw [hn] at h4
      exact h4
    have h5 := condW_of h4 (w_not (w_lt w_lit (w_len_list (w_arg rfl))))
    rw [List.length_map] at h5
    refine Nat.le_of_not_lt fun q => ?_
    have q' : (n : Int) < ((ns.length : Nat) : Int) := by omega
    first
      | (rw [decide_eq_true q'] at h5; exact absurd h5 (by decide))
      | (simp at h5; omega)
  cases hwl with
  | cons w1 w2 =>
    cases w2
    cases w1 with
    | list ho hall => exact ⟨_, _, ns, rfl, rfl, ho, ints_of_wellAll ns _ hall, hlen⟩
theorem post_true (l : OpenLaw) (args : List WData) : l.row.toRowW.claim.post args (.bool true) args = true :=
  postW_of (r := l.row.toRowW) (X := (true == true))
    (show WShape.has [] (.bool true) .bool = true by first | rfl | decide | simp [WShape.has, WShape.arms, WShape.armsAll])
    (show (WTm.eq .res (.lit (.bool true))).value [] { args := args, res := some (.bool true), after := args } = some (.bool (true == true)) from w_eq_bool (w_res rfl) w_lit) rfl
theorem attach_call {l : OpenLaw} {n : Nat} {q : Program} {loose : List Str} {XP : (Str → Option Value) → Heap → Prop} {YP : World → Heap → Prop} {d : DefRec}
    (hn : l.most = some n) (hdf : d.params.defaults = [])
    (call : ∀ (w : World) (s₀ s₁ : Shared) (mg mb : Str → Option Value) (fa : Addr) (o : Obj) (pm cd doc : Value) (a : Addr) (vs : List Value) (ns : List Int),
      Ground q loose [] XP w s₀ mg mb s₁.heap → YP w s₁.heap →
      s₁.heap.get? fa = some o → o.data = .func (docDef d.name d.params d.body d.scope pm cd doc) → s₁.heap.CodeRec cd d.name → mg d.name = some (.ref fa) →
      s₁.heap.get? a = some { cls := .type "list", data := .seq vs.toArray } → IntsAre vs ns → ns.length ≤ n → s₁.gens = #[] →
      codeAny (model l.prog w) callerA (.call (.ref fa) ⟨[.ref a], []⟩) (fun r s' => r = .ok (.ret (.bool true)) ∧ OldK s₁.heap s'.heap ∧ s'.os = s₁.os ∧ AllBare s'.gens) s₁) :
    WalkO q loose XP YP l.row.toRowW d [] (fun f vs => PySem.call f vs) := by
  intro w s₀ s₁ mg mb G Y fa o pm cd doc dV kV ho hd hcd hD hmg hg args vals as hpre hlay hrd hwl hlo
  obtain rfl : dV = .none := Dflts.none hD hdf
  obtain rfl : kV = .none := Dflts.noKw hD
  obtain ⟨a, vs, ns, rfl, rfl, hobj, hints, hlen⟩ := script_of hn hpre hwl
  refine enter_call (codeAny_mono (call w s₀ s₁ mg mb fa o pm cd doc a vs ns G Y ho (fd_plain hd) hcd hmg hobj hints hlen hg) fun r s' hq => ?_)
  obtain ⟨rfl, h2, h3, h4⟩ := hq
  exact ⟨.inl ⟨.bool true, .bool true, [], rfl, fun _ => rfl, .bool true, post_true l _, fun _ => ⟨List.Pairwise.nil, fun _ hm => (nomatch hm)⟩⟩, h2, h3, h4⟩
section
variable {prog : Program} {w : World} {A : Around} {E : Value → Shared → Prop} {s : Shared} {K : Frag}
def noObjs (h : Heap) : Heap := { h with objs := #[] }
def ledger (h : Heap) (L d : Addr) : List (Addr × Obj) := (List.range h.objs.size).filterMap fun a => if a = L ∨ a = d then none else (h.get? a).map fun o => (a, o)
end
end Att
namespace L2
open PySem PySem.Spec PyProof.Rows
theorem vals_ints : ∀ {vs : List Value} {ns : List Int}, IntsAre vs ns → Vals (ns.map V.int) vs
  | _, _, .nil => .nil
  | _, _, .cons n t h => .cons ⟨t, rfl⟩ (vals_ints h)
def Only (H : Hp) : Prop := ∀ b, H b = none ∨ ∃ o xs, H b = some (.frz o (.lst xs))
theorem law_call {P : Program} {w : World} {K : PySem.W.Frag} {mg mb : Str → Option Value} {CX : CXT} {k : Nat} {fa a : Addr} {fd : FuncData} {x : Str} {sp : Sp} {s₁ : Shared} {vs : List Value} {ns : List Int}
    (KX : K.In s₁.heap) (hns : s₁.heap.Ns mainGlobals mg) (hb : s₁.heap.Ns builtinsNs mb) (hbb : ∀ x : Str, x ≠ "__name__" → mb x = bootBuiltins x) (hlim : s₁.heap.NoLimit) (hg : s₁.gens = #[])
    (ha : s₁.heap.get? a = some { cls := .type "list", data := .seq vs.toArray }) (hi : IntsAre vs ns) (hl : ns.length ≤ sizeLine) (hr : Room k callerA)
    (F : ∀ base : Heap, K.In base → base.Ns mainGlobals mg → FnOk P w K mg base CX k fa fd [x] sp) (hbind : ∀ (s : Shared) (u : Value), BindsTo s fd ⟨[u], []⟩ [(x, u)])
    (hsp : ∀ H : Hp, Only H → SqL K H a (ns.map V.int) → sp [.ref a] H (fun v _ => v = .bl true) fun _ _ _ => False)
    (hCX : ∀ H e s', CX [] H s₁ (fun _ _ _ => False) e s' → False) :
    codeAny (model P w) callerA (.call (.ref fa) ⟨[.ref a], []⟩) (fun r s' => r = .ok (.ret (.bool true)) ∧ OldK s₁.heap s'.heap ∧ s'.os = s₁.os ∧ AllBare s'.gens) s₁ := by
  have rv := vals_ints hi
  have lenV := hi.length
  have core : ∀ H : Hp, Only H → SqL K H a (ns.map V.int) → HOk P w H s₁.heap → (∀ b, H b ≠ none → b = a) → (H a ≠ none → K.lookup a = none) →
      codeAny (model P w) callerA (.call (.ref fa) ⟨[.ref a], []⟩) (fun r s' => r = .ok (.ret (.bool true)) ∧ OldK s₁.heap s'.heap ∧ s'.os = s₁.os ∧ AllBare s'.gens) s₁ := by
    intro H hO hS hok hA hK
    have base_of : ∀ {b : Addr} {o : Obj}, s₁.heap.get? b = some o → H b = none → (hidT s₁.heap H).get? b = some o := fun e n => hidT_get e n
    have noA : ∀ {b : Addr} {o : Obj} {es : Array DictEntry} {ep : Nat}, s₁.heap.get? b = some o → o.data = .dict es ep → H b = none := fun {b o es ep} e d => by
      cases q : H b with
      | none => rfl
      | some u =>
        have e' : b = a := hA b (by rw [q]; simp)
        subst e'
        rw [ha] at e; cases e
        have d' : Data.seq vs.toArray _ = Data.dict es ep := d
        cases d'
    have nsK : ∀ {b : Addr} {m : Str → Option Value}, s₁.heap.Ns b m → (hidT s₁.heap H).Ns b m := fun {b m} ⟨o, es, ep, e, d, r⟩ => ⟨o, es, ep, base_of e (noA e d), d, r⟩
    have hKb : K.In (hidT s₁.heap H) := fun b o e => base_of (KX b o e) (by
      cases q : H b with
      | none => rfl
      | some u =>
        have e' : b = a := hA b (by rw [q]; simp)
        subst e'
        rw [hK (by rw [q]; simp)] at e; cases e)
    have hM : Mod K mg (hidT s₁.heap H) := ⟨hKb, nsK hns, ⟨mb, nsK hb, hbb⟩, let ⟨mc, h1, h2⟩ := hlim; ⟨mc, nsK h1, h2⟩⟩
    have e0 : Env0 P w K mg (hidT s₁.heap H) callerA [] s₁ H := ⟨rfl, hM, fun b o e => of_hidT e, Nat.le_of_eq (hidT_size _ _), trivial, fun b hb => absurd (show b ∈ ([] : List Addr) from hb) (by simp), hok, .of_eq hg⟩
    refine codeAny_mono ((F _ hKb (nsK hns)).run callerA [] s₁ H ⟨[.ref a], []⟩ [.ref a] [.ref a] _ _ hr e0 (hbind s₁ (.ref a)) (.cons rfl .nil) (hsp H hO hS)) fun r s' h => ?_
    cases r with
    | error e => exact (hCX H e s' h).elim
    | ok fl =>
      cases fl with
      | next => exact False.elim h
      | brk => exact False.elim h
      | cont => exact False.elim h
      | ret u =>
        obtain ⟨v, H', os, bare, un, hok', r', q⟩ := h
        have q' : v = .bl true := q
        subst q'
        obtain rfl : u = Value.bool true := r'
        refine ⟨rfl, OldK.of_keep fun b o e => ?_, os, bare⟩
        cases q : H b with
        | none => exact un.keep b o e q (by intro z; exact absurd (show b ∈ ([] : List Addr) from z) (by simp)) (by simp)
        | some u =>
          rcases hO b with z | ⟨ob, xs, z⟩
          · rw [q] at z; cases z
          · have z2 := un.frzs b ob _ z
            obtain ⟨e1, _⟩ := hok b _ z
            obtain ⟨e2, _⟩ := hok' b _ z2
            rw [e] at e1; cases e1
            exact e2
  cases hk : K.lookup a with
  | some o =>
    have e := KX a o hk
    rw [ha] at e
    cases e
    refine core (fun _ => none) (fun _ => .inl rfl) (.inr ⟨_, vs.toArray, _, hk, rfl, rfl, rfl, by rw [List.size_toArray, lenV]; exact hl, by simpa using rv⟩) (fun b u z => by have z' : (none : Option HO) = some u := z; cases z') (fun b z => absurd rfl z) fun z => absurd rfl z
  | none =>
    refine core (fun b => if b = a then some (.frz { cls := .type "list", data := .seq vs.toArray } (.lst (ns.map V.int))) else none) (fun b => ?_) (.inl (.inr ⟨{ cls := .type "list", data := .seq vs.toArray }, if_pos rfl⟩)) (fun b u z => ?_) (fun b z => ?_) fun _ => hk
    · by_cases hb : b = a
      · exact .inr ⟨_, _, if_pos hb⟩
      · exact .inl (if_neg hb)
    · by_cases hb : b = a
      · have z' := (if_pos hb).symm.trans z
        cases z'
        subst hb
        exact ⟨ha, by rw [List.length_map]; exact hl, vs, _, rv, ha⟩
      · have z' := (if_neg hb).symm.trans z
        cases z'
    · by_cases hb : b = a
      · exact hb
      · exact absurd (if_neg hb) z
end L2
namespace L2
open PySem PySem.Spec PyProof.Rows
abbrev KOf {K : PySem.W.Frag} {h : Heap} (_ : K.In h) : PySem.W.Frag := K
theorem walk_of {l : PySem.W.OpenLaw} {n k : Nat} {q : Program} {loose : List Str} {XP : (Str → Option Value) → Heap → Prop} {YP : World → Heap → Prop} {d : DefRec} {K : Params → PySem.W.Frag} {CX : World → CXT} {sp : World → Sp} {x : Str}
    (hn : l.most = some n) (hn2 : n ≤ sizeLine) (hdf : d.params.defaults = []) (hr : Room k callerA)
    (hY : ∀ (w : World) (h : Heap), YP w h → (K w.params).In h)
    (F : ∀ (w : World) (mg : Str → Option Value) (fa : Addr) (h : Heap), (K w.params).In h → h.Ns mainGlobals mg → mg d.name = some (.ref fa) →
      ∃ fd : FuncData, (∀ (s : Shared) (u : Value), BindsTo s fd ⟨[u], []⟩ [(x, u)]) ∧
        ∀ base : Heap, (K w.params).In base → base.Ns mainGlobals mg → FnOk l.prog w (K w.params) mg base (CX w) k fa fd [x] (sp w))
    (hsp : ∀ (w : World) (H : Hp) (a : Addr) (ns : List Int), ns.length ≤ n → Only H → SqL (K w.params) H a (ns.map V.int) → sp w [.ref a] H (fun v _ => v = .bl true) fun _ _ _ => False)
    (hCX : ∀ (w : World) (H : Hp) (s : Shared) (e : Value) (s' : Shared), CX w [] H s (fun _ _ _ => False) e s' → False) :
    PySem.W.WalkO q loose XP YP l.row.toRowW d [] (fun f vs => PySem.call f vs) := by
  refine Att.attach_call hn hdf fun w s₀ s₁ mg mb fa o pm cd doc a vs ns G Y ho hd hcd hmg hobj hints hlen hg => ?_
  have KX := hY w _ Y
  obtain ⟨fd, hb, hF⟩ := F w mg fa _ KX G.T.g hmg
  exact law_call KX G.T.g G.T.b G.T.builtins G.T.nolimit hg hobj hints (Nat.le_trans hlen hn2) hr hF hb (fun H hO hS => hsp w H a ns hlen hO hS) fun H e s' => hCX w H s₁ e s'
theorem walk_ofK {l : PySem.W.OpenLaw} {n k : Nat} {q : Program} {loose : List Str} {XP : (Str → Option Value) → Heap → Prop} {YP : World → Heap → Prop} {d : DefRec} {K : Params → PySem.W.Frag} {CX : CXT} {sp : PySem.W.Frag → Sp} {x : Str}
    (hn : l.most = some n) (hn2 : n ≤ sizeLine) (hdf : d.params.defaults = []) (hr : Room k callerA)
    (hY : ∀ (w : World) (h : Heap), YP w h → (K w.params).In h)
    (F : ∀ (w : World) (mg : Str → Option Value) (fa : Addr) (h : Heap), (K w.params).In h → h.Ns mainGlobals mg → mg d.name = some (.ref fa) →
      ∃ fd : FuncData, (∀ (s : Shared) (u : Value), BindsTo s fd ⟨[u], []⟩ [(x, u)]) ∧
        ∀ base : Heap, (K w.params).In base → base.Ns mainGlobals mg → FnOk l.prog w (K w.params) mg base CX k fa fd [x] (sp (K w.params)))
    (hsp : ∀ (K : PySem.W.Frag) (H : Hp) (a : Addr) (ns : List Int), ns.length ≤ n → Only H → SqL K H a (ns.map V.int) → sp K [.ref a] H (fun v _ => v = .bl true) fun _ _ _ => False)
    (hCX : ∀ (H : Hp) (s : Shared) (e : Value) (s' : Shared), CX [] H s (fun _ _ _ => False) e s' → False) :
    PySem.W.WalkO q loose XP YP l.row.toRowW d [] (fun f vs => PySem.call f vs) :=
  walk_of (K := K) (CX := fun _ => CX) (sp := fun w => sp (K w.params)) hn hn2 hdf hr hY F (fun w H a ns h1 h2 h3 => hsp (K w.params) H a ns h1 h2 h3) fun _ H s e s' => hCX H s e s'
end L2
namespace L2
open PySem PySem.Spec PyProof.Rows
def inClass (s : Stmt) (j : Nat) : Stmt := match s with
  | .ClassDef _ _ _ body _ _ _ _ _ _ _ => body.getD j (.Pass ⟨0, 0, 0, 0⟩)
  | _ => .Pass ⟨0, 0, 0, 0⟩
def defArgs (s : Stmt) : Arguments := match s with
  | .FunctionDef _ a _ _ _ _ _ _ _ _ => a
  | _ => { posonlyargs := [], args := [], vararg := none, kwonlyargs := [], kw_defaults := [], kwarg := none, defaults := [] }
def defBody (s : Stmt) : List Stmt := match s with
  | .FunctionDef _ _ b _ _ _ _ _ _ _ => b
  | _ => []
def defScope (s : Stmt) : Scope := match s with
  | .FunctionDef _ _ _ _ _ _ sc _ _ _ => sc
  | _ => { kind := .function, names := [], isGenerator := false, isCoroutine := false }
abbrev CX0 : CXT := fun _ _ _ _ _ _ => False
abbrev E0 : XK := fun _ _ _ => False
theorem pass0 {X : Cx} : Passes CX0 X E0 := fun _ _ _ _ _ _ _ h => h.elim
structure Fun (K : PySem.W.Frag) (x qual : Str) (st : Stmt) (f : Addr) (fd : FuncData) : Prop where
  ex : ∃ (oc : Value) (od : Option Addr) (kV doc pm : Value) (an : Option Addr) (cdv ct : Value) (osl : Array (Option Value)),
    fd = PySem.W.fnOf x qual (defArgs st) (defBody st) (defScope st) .none kV doc pm an cdv ct ∧ K.lookup f = some ⟨oc, od, .func fd, osl⟩ ∧ PySem.W.codeIn K cdv qual = true
  kp : PySem.W.keepIn K (.ref f) = true
section
variable {P : Program} {w : World} {K : PySem.W.Frag} {mg : Str → Option Value} {base : Heap}
theorem Fun.ok {x qual : Str} {st : Stmt} {f : Addr} {fd : FuncData} {N ps : List Str} {k : Nat} {sp : Sp} (F : Fun K x qual st f fd) (S : FnScope N ps (defScope st)) (len : ∀ vs H Q E, sp vs H Q E → vs.length = ps.length)
    (hbody : ∀ (cdv : Value) (A : Around) (outer : List Env) (s : Shared) (H : Hp) (vs : List V) (Q : VK) (E : XK), Room k (A.deeper (envOfC qual (defScope st) s.heap.objs.size f cdv)) → sp vs H Q E →
      ∃ t, PSs (cxOf CX0 P w K mg base N qual (defScope st) f cdv A outer s H E).nox (defBody st) t ∧ t { nx := fun _ H' => Q .non H', rt := Q } (start N vs) H) : FnOk P w K mg base CX0 (k + 1) f fd ps sp := by
  obtain ⟨oc, od, kV, doc, pm, an, cdv, ct, osl, rfl, lk, hcd⟩ := F.ex
  refine fn_of lk hcd S len fun A outer s H vs Q E hr hsp => ?_
  obtain ⟨t, h, q⟩ := hbody cdv A outer s H vs Q E hr hsp
  exact ⟨t, h.nox, q⟩
theorem Fun.binds {x qual : Str} {st : Stmt} {f : Addr} {fd : FuncData} {ps : List Str} (F : Fun K x qual st f fd)
    (h : ∀ (kV doc pm : Value) (an : Option Addr) (cdv ct : Value) (us : List Value), us.length = ps.length → bindArgs (PySem.W.fnOf x qual (defArgs st) (defBody st) (defScope st) .none kV doc pm an cdv ct) ⟨us, []⟩ = pure (ps.zip us)) : Binds K fd ps [] := by
  obtain ⟨oc, od, kV, doc, pm, an, cdv, ct, osl, rfl, lk, hcd⟩ := F.ex
  exact .all (h kV doc pm an cdv ct)
theorem fun_mk {x qual : Str} {st : Stmt} {f : Addr} {oc : Value} {od an : Option Addr} {osl : Array (Option Value)} {kV doc pm cdv ct : Value} (l : K.lookup f = some ⟨oc, od, .func (PySem.W.fnOf x qual (defArgs st) (defBody st) (defScope st) .none kV doc pm an cdv ct), osl⟩)
    (c : PySem.W.codeIn K cdv qual = true) (k : PySem.W.keepIn K (.ref f) = true) : Fun K x qual st f (PySem.W.fnOf x qual (defArgs st) (defBody st) (defScope st) .none kV doc pm an cdv ct) := ⟨⟨oc, od, kV, doc, pm, an, cdv, ct, osl, rfl, l, c⟩, k⟩
end
theorem hu_of {A : Around} {k : Nat} (hr : Room k A) : A.units + 1 < cLine := Nat.lt_of_le_of_lt (Nat.add_le_add_left (by decide : 1 ≤ 64) _) hr.units
section
variable {X : Cx}
end
theorem iteF {A B : Prop} (h : B) : if false = true then A else B := by
  rw [if_neg Bool.false_ne_true]
  exact h
theorem iteT {A B : Prop} (h : A) : if true = true then A else B := by
  rw [if_pos rfl]
  exact h
theorem ite2 {c A B : Prop} [Decidable c] (h1 : c → A) (h2 : ¬ c → B) : if c then A else B := by
  by_cases h : c
  · rw [if_pos h]
    exact h1 h
  · rw [if_neg h]
    exact h2 h
def Same (H H' : Hp) : Prop := ∀ b o, H b = some o → H' b = some o
end L2

namespace L2
open PySem PySem.Spec PyProof.Rows
section
variable {κ : Type} [DecidableEq κ]
def valV (kvs : List (κ × V)) (k : κ) : Option V := (kvs.find? fun kv => decide (kv.1 = k)).map (·.2)
def putK (kvs : List (κ × V)) (k : κ) (v : V) : List (κ × V) :=
  if (kvs.any fun kv => decide (kv.1 = k)) = true then kvs.map (fun kv => if kv.1 = k then (kv.1, v) else kv) else kvs ++ [(k, v)]
def dropK (kvs : List (κ × V)) (k : κ) : List (κ × V) := kvs.filter fun kv => decide (kv.1 ≠ k)
theorem valV_pos {p : κ × V} {r : List (κ × V)} {k : κ} (e : p.1 = k) : valV (p :: r) k = some p.2 := by simp [valV, List.find?_cons, e]
theorem valV_neg {p : κ × V} {r : List (κ × V)} {k : κ} (e : ¬ p.1 = k) : valV (p :: r) k = valV r k := by simp [valV, List.find?_cons, e]
theorem valV_any (k : κ) : ∀ kvs : List (κ × V), (kvs.any fun kv => decide (kv.1 = k)) = (valV kvs k).isSome
  | [] => rfl
  | p :: r => by
    rw [List.any_cons]
    by_cases e : p.1 = k
    · simp only [valV_pos e, decide_eq_true e, Bool.true_or, Option.isSome_some]
    · rw [valV_neg e, decide_eq_false e, Bool.false_or]; exact valV_any k r
theorem valV_map (k j : κ) (y : V) : ∀ kvs : List (κ × V), valV (kvs.map fun kv => if kv.1 = k then (kv.1, y) else kv) j = (valV kvs j).map fun x => if j = k then y else x
  | [] => rfl
  | p :: r => by
    have ih := valV_map k j y r
    rw [List.map_cons]
    by_cases h : p.1 = k
    · rw [if_pos h]
      by_cases e : p.1 = j
      · rw [valV_pos (p := (p.1, y)) e, valV_pos e, Option.map_some, if_pos (e.symm.trans h)]
      · rw [valV_neg (p := (p.1, y)) e, valV_neg e, ih]
    · rw [if_neg h]
      by_cases e : p.1 = j
      · rw [valV_pos (p := p) e, valV_pos e, Option.map_some, if_neg (fun z => h (e.trans z))]
      · rw [valV_neg (p := p) e, valV_neg e, ih]
theorem valV_snoc (k j : κ) (y : V) : ∀ kvs : List (κ × V), valV kvs k = none → valV (kvs ++ [(k, y)]) j = if j = k then some y else valV kvs j
  | [], _ => by
    by_cases e : k = j
    · rw [if_pos e.symm]; exact valV_pos (p := (k, y)) e
    · rw [if_neg (fun z => e z.symm)]; exact valV_neg (p := (k, y)) e
  | p :: r, hn => by
    rw [List.cons_append]
    have hk : ¬ p.1 = k := fun z => by rw [valV_pos z] at hn; cases hn
    rw [valV_neg hk] at hn
    have ih := valV_snoc k j y r hn
    by_cases e : p.1 = j
    · rw [valV_pos e, valV_pos e, if_neg (fun z => hk (e.trans z))]
    · rw [valV_neg e, valV_neg e, ih]
theorem valV_put (kvs : List (κ × V)) (k j : κ) (y : V) : valV (putK kvs k y) j = if j = k then some y else valV kvs j := by
  unfold putK
  by_cases a : (kvs.any fun kv => decide (kv.1 = k)) = true
  · rw [if_pos a, valV_map]
    rw [valV_any] at a
    by_cases e : j = k
    · obtain ⟨x, hx⟩ := Option.isSome_iff_exists.mp a
      rw [if_pos e, e, hx, Option.map_some, if_pos rfl]
    · rw [if_neg e]
      cases valV kvs j with
      | none => rfl
      | some x => rw [Option.map_some, if_neg e]
  · rw [if_neg a]
    refine valV_snoc k j y kvs ?_
    rw [valV_any] at a
    cases q : valV kvs k with
    | none => rfl
    | some x => rw [q] at a; exact (a rfl).elim
theorem length_putK (kvs : List (κ × V)) (k : κ) (v : V) : (putK kvs k v).length ≤ kvs.length + 1 := by
  unfold putK
  split
  · rw [List.length_map]; omega
  · rw [List.length_append, List.length_cons, List.length_nil]; omega
theorem RelO.isSome_eq {o : Option V} {u : Option Value} (r : RelO o u) : o.isSome = u.isSome := by
  cases o with
  | none => cases u with
    | none => rfl
    | some _ => exact (show False from r).elim
  | some _ => cases u with
    | none => exact (show False from r).elim
    | some _ => rfl
theorem KV.val {kvs : List (κ × V)} {vs : List (κ × Value)} (r : KV kvs vs) (k : κ) : RelO (valV kvs k) (valueAt vs k) := by
  unfold KV at r
  induction r with
  | nil => exact True.intro
  | @cons p q ps qs h t ih =>
    obtain ⟨h1, h2⟩ := h
    by_cases e : p.1 = k
    · have e' : q.1 = k := h1.symm.trans e
      have b : valueAt (q :: qs) k = some q.2 := by simp [valueAt, List.find?_cons, e']
      rw [valV_pos e, b]; exact h2
    · have e' : ¬ q.1 = k := fun z => e (h1.trans z)
      have b : valueAt (q :: qs) k = valueAt qs k := by simp [valueAt, List.find?_cons, e']
      rw [valV_neg e, b]; exact ih
theorem KV.any {kvs : List (κ × V)} {vs : List (κ × Value)} (r : KV kvs vs) (k : κ) : (kvs.any fun kv => decide (kv.1 = k)) = vs.any fun kv => decide (kv.1 = k) := by
  unfold KV at r
  induction r with
  | nil => rfl
  | cons h t ih => rw [List.any_cons, List.any_cons, ih, h.1]
theorem KV.repl {kvs : List (κ × V)} {vs : List (κ × Value)} (r : KV kvs vs) (k : κ) {y : V} {u : Value} (ry : RelV y u) :
    KV (kvs.map fun kv => if kv.1 = k then (kv.1, y) else kv) (vs.map fun kv => if kv.1 = k then (kv.1, u) else kv) := by
  unfold KV at r ⊢
  induction r with
  | nil => exact .nil
  | @cons p q ps qs h t ih =>
    rw [List.map_cons, List.map_cons]
    refine .cons ?_ ih
    obtain ⟨h1, h2⟩ := h
    by_cases e : p.1 = k
    · rw [if_pos e, if_pos (h1.symm.trans e)]; exact ⟨h1, ry⟩
    · rw [if_neg e, if_neg (fun z => e (h1.trans z))]; exact ⟨h1, h2⟩
theorem KV.put {kvs : List (κ × V)} {vs : List (κ × Value)} (r : KV kvs vs) (k : κ) {y : V} {u : Value} (ry : RelV y u) : KV (putK kvs k y) (stored vs k u) := by
  unfold putK stored
  rw [r.any k]
  by_cases e : (vs.any fun kv => decide (kv.1 = k)) = true
  · rw [if_pos e, if_pos e]; exact r.repl k ry
  · rw [if_neg e, if_neg e]; exact Paired.snoc r ⟨rfl, ry⟩
theorem KV.length {kvs : List (κ × V)} {vs : List (κ × Value)} (r : KV kvs vs) : kvs.length = vs.length := Paired.length r
end
theorem kV_is {P : Program} {w : World} {k : Key} {u : Value} (r : RelV (kV k) u) : (mixKind P w).is k u = true := by
  cases k with
  | inl i => obtain ⟨t, e⟩ := (show ∃ t, u = Value.int i t from r); subst e; exact mixKind_int P w i t
  | inr x => obtain ⟨t, e⟩ := (show ∃ t, u = Value.str x t from r); subst e; exact mixKind_str P w x t
theorem items_are {P : Program} {w : World} : ∀ {ks : List Key} {us : List Value}, Vals (ks.map kV) us → ItemsAre (mixKind P w) ks us
  | [], _, r => by rw [List.map_nil] at r; cases r; exact .nil
  | k :: ks, _, r => by
    rw [List.map_cons] at r
    cases r with
    | cons h t => exact .cons (kV_is h) (items_are t)
abbrev KT (H : Hp) : List (List Key × V) → List (List Key × Addr × Value) → Prop := Paired fun p q => p.1 = q.1 ∧ H q.2.1 = some (.tup (p.1.map kV)) ∧ RelV p.2 q.2.2
theorem KT.val {H : Hp} {kvs : List (List Key × V)} {xs : List (List Key × Addr × Value)} (r : KT H kvs xs) (k : List Key) : RelO (valV kvs k) ((atKey xs k).map (·.2)) := by
  induction r with
  | nil => exact True.intro
  | @cons p q ps qs h t ih =>
    obtain ⟨h1, _, h2⟩ := h
    by_cases e : p.1 = k
    · have e' : q.1 = k := h1.symm.trans e
      have b : atKey (q :: qs) k = some q.2 := by simp [atKey, List.find?_cons, e']
      rw [valV_pos e, b]; exact h2
    · have e' : ¬ q.1 = k := fun z => e (h1.trans z)
      have b : atKey (q :: qs) k = atKey qs k := by simp [atKey, List.find?_cons, e']
      rw [valV_neg e, b]; exact ih
theorem KT.repl {H : Hp} {kvs : List (List Key × V)} {xs : List (List Key × Addr × Value)} (r : KT H kvs xs) (k : List Key) {y : V} {u : Value} (ry : RelV y u) :
    KT H (kvs.map fun kv => if kv.1 = k then (kv.1, y) else kv) (xs.map (putAt k u)) := by
  induction r with
  | nil => exact .nil
  | @cons p q ps qs h t ih =>
    rw [List.map_cons, List.map_cons]
    refine .cons ?_ ih
    obtain ⟨h1, h2, h3⟩ := h
    unfold putAt
    by_cases e : p.1 = k
    · rw [if_pos e, if_pos (h1.symm.trans e)]; exact ⟨h1, h2, ry⟩
    · rw [if_neg e, if_neg (fun z => e (h1.trans z))]; exact ⟨h1, h2, h3⟩
theorem KT.put {H : Hp} {kvs : List (List Key × V)} {xs : List (List Key × Addr × Value)} (r : KT H kvs xs) (k : List Key) {b : Addr} {y : V} {u : Value} (hb : H b = some (.tup (k.map kV))) (ry : RelV y u) :
    KT H (putK kvs k y) (storedH xs k b u) := by
  have e : (kvs.any fun kv => decide (kv.1 = k)) = (atKey xs k).isSome := by
    rw [valV_any, (r.val k).isSome_eq, Option.isSome_map]
  unfold putK storedH
  rw [e]
  by_cases q : (atKey xs k).isSome = true
  · rw [if_pos q, if_pos q]; exact r.repl k ry
  · rw [if_neg q, if_neg q]; exact Paired.snoc r ⟨rfl, hb, ry⟩
theorem KT.keeps {H H' : Hp} {kvs : List (List Key × V)} {xs : List (List Key × Addr × Value)} (r : KT H kvs xs) (ht : ∀ b ys, H b = some (.tup ys) → H' b = some (.tup ys)) : KT H' kvs xs :=
  Paired.mapP r fun _ _ z => ⟨z.1, ht _ _ z.2.1, z.2.2⟩
section
variable {P : Program} {w : World} {H : Hp} {h : Heap} {a : Addr}
theorem rd_of {u : HO} (ok : HOk P w H h) (e : Rd H a u) : ObjOk P w H h a u := e.ok ok
theorem dk_rd {kvs : List (Key × V)} (ok : HOk P w H h) (e : Rd H a (.dK kvs)) : kvs.length ≤ sizeLine ∧ (a == sysModules) = false ∧ ∃ vs, KV kvs vs ∧ h.DictOf (mixKind P w) a vs :=
  show ObjOk P w H h a (.dK kvs) from rd_of ok e
theorem dk_of {kvs : List (Key × V)} (ok : HOk P w H h) (e : H a = some (.dK kvs)) : kvs.length ≤ sizeLine ∧ (a == sysModules) = false ∧ ∃ vs, KV kvs vs ∧ h.DictOf (mixKind P w) a vs := dk_rd ok (.inl e)
theorem key_of {ks : List Key} (ok : HOk P w H h) (e : H a = some (.tup (ks.map kV))) : (tupleKind (mixKind P w)).is h ks a := by
  obtain ⟨_, its, r, o, h1, h2, n, h3⟩ := (show ObjOk P w H h a (.tup (ks.map kV)) from ok a _ e)
  exact ⟨o, its.toArray, n, h1, h2, h3, by simpa using items_are r⟩
theorem dt_rd {kvs : List (List Key × V)} (ok : HOk P w H h) (e : Rd H a (.dT kvs)) : kvs.length ≤ sizeLine ∧ (a == sysModules) = false ∧
    ∃ xs, KT H kvs xs ∧ h.DictOfH (tupleKind (mixKind P w)) a xs := by
  obtain ⟨z, y, xs, r, o, es, ep, h1, h2, h3, h4, h5⟩ := (show ObjOk P w H h a (.dT kvs) from rd_of ok e)
  refine ⟨z, y, xs, r, o, es, ep, h1, h2, h3, h4, fun x hx => ?_, h5⟩
  have all : ∀ {l : List (List Key × V)} {m : List (List Key × Addr × Value)}, KT H l m → ∀ x ∈ m, (tupleKind (mixKind P w)).is h x.1 x.2.1 := by
    intro l m q
    induction q with
    | nil => intro x hx; exact nomatch hx
    | @cons p q ps qs hq t ih =>
      intro x hx
      rcases List.mem_cons.mp hx with e | hx
      · subst e
        exact key_of ok (by rw [← hq.1]; exact hq.2.1)
      · exact ih x hx
  exact all r x hx
theorem dt_of {kvs : List (List Key × V)} (ok : HOk P w H h) (e : H a = some (.dT kvs)) : kvs.length ≤ sizeLine ∧ (a == sysModules) = false ∧
    ∃ xs, KT H kvs xs ∧ h.DictOfH (tupleKind (mixKind P w)) a xs := dt_rd ok (.inl e)
end
def DGet (H : Hp) (a : Addr) (y : V) (r : Option V) : Prop :=
  (∃ kvs k, Rd H a (.dK kvs) ∧ y = kV k ∧ r = valV kvs k) ∨ ∃ kvs k b, Rd H a (.dT kvs) ∧ y = .ref b ∧ H b = some (.tup (k.map kV)) ∧ r = valV kvs k
def DPut (H : Hp) (a : Addr) (y v : V) (H' : Hp) : Prop :=
  (∃ kvs k, H a = some (.dK kvs) ∧ y = kV k ∧ kvs.length < sizeLine ∧ H' = upd H a (.dK (putK kvs k v))) ∨
  ∃ kvs k b, H a = some (.dT kvs) ∧ y = .ref b ∧ H b = some (.tup (k.map kV)) ∧ kvs.length < sizeLine ∧ H' = upd H a (.dT (putK kvs k v))
theorem DGet.k {H : Hp} {a : Addr} {kvs : List (Key × V)} {k : Key} (e : H a = some (.dK kvs)) : DGet H a (kV k) (valV kvs k) := .inl ⟨kvs, k, .inl e, rfl, rfl⟩
theorem DGet.t {H : Hp} {a b : Addr} {kvs : List (List Key × V)} {k : List Key} (e : H a = some (.dT kvs)) (eb : H b = some (.tup (k.map kV))) : DGet H a (.ref b) (valV kvs k) := .inr ⟨kvs, k, b, .inl e, rfl, eb, rfl⟩
theorem DPut.k {H : Hp} {a : Addr} {kvs : List (Key × V)} {k : Key} {v : V} (e : H a = some (.dK kvs)) (hl : kvs.length < sizeLine) : DPut H a (kV k) v (upd H a (.dK (putK kvs k v))) := .inl ⟨kvs, k, e, rfl, hl, rfl⟩
theorem DPut.t {H : Hp} {a b : Addr} {kvs : List (List Key × V)} {k : List Key} {v : V} (e : H a = some (.dT kvs)) (eb : H b = some (.tup (k.map kV))) (hl : kvs.length < sizeLine) :
    DPut H a (.ref b) v (upd H a (.dT (putK kvs k v))) := .inr ⟨kvs, k, b, e, rfl, eb, hl, rfl⟩
section
variable {X : Cx} {pins : List (Addr × Obj)} {σ : St} {H : Hp} {s : Shared} {a : Addr} {y v : V} {u r : Value} {o : Option V} {A : Around} {E : Value → Shared → Prop}
theorem Inv.big (I : Inv X pins σ H s) : sysModules < s.heap.objs.size := by
  have h : mainGlobals < s.heap.objs.size := (I.mod.glob.keeps I.bk).lt
  exact Nat.lt_trans (by decide) h
theorem d_getItem {Q : Value → Shared → Prop} (hu : A.units + 1 < cLine) (I : Inv X pins σ H s) (g : DGet H a y (some v)) (ry : RelV y u) (h : ∀ w' s', Inv X pins σ H s' → RelV v w' → Q w' s') :
    wpAny (model X.prog X.w) A (getItem (.ref a) u) Q E s := by
  rcases g with ⟨kvs, k, e, ey, l⟩ | ⟨kvs, k, b, e, ey, eb, l⟩
  · subst ey
    obtain ⟨z, hd, vs, rel, dd⟩ := dk_rd I.hok e
    obtain ⟨w', hw, rw'⟩ := RelO.some_of (v := v) (o := valueAt vs k) (by rw [l]; exact rel.val k)
    exact wpAny_getItem_of (kV_is ry) dd.mapOf hw (h w' _ (I.tok _) rw')
  · subst ey
    cases (show u = Value.ref b from ry)
    obtain ⟨z, hd, xs, rel, dd⟩ := dt_rd I.hok e
    obtain ⟨w', hw, rw'⟩ := RelO.some_of (v := v) (o := (atKey xs k).map (·.2)) (by rw [l]; exact rel.val k)
    obtain ⟨p, hp, hp2⟩ := Option.map_eq_some_iff.mp hw
    refine wpAny_getItem_heap (tupleKind_room_in1 hu) (key_of I.hok eb) dd hp ?_
    rw [hp2]
    exact h w' _ (I.tok _) rw'
theorem d_in {Q : Value → Shared → Prop} (hu : A.units + 1 < cLine) (I : Inv X pins σ H s) (g : DGet H a y o) (ry : RelV y u) (h : ∀ s', Inv X pins σ H s' → Q (.bool o.isSome) s') :
    wpAny (model X.prog X.w) A (compareOp .In u (.ref a)) Q E s := by
  rcases g with ⟨kvs, k, e, ey, l⟩ | ⟨kvs, k, b, e, ey, eb, l⟩
  · subst ey
    obtain ⟨z, hd, vs, rel, dd⟩ := dk_rd I.hok e
    refine wpAny_in_of (kV_is ry) hd dd.mapOf ?_
    rw [← (rel.val k).isSome_eq, ← l]
    exact h _ (I.tok _)
  · subst ey
    cases (show u = Value.ref b from ry)
    obtain ⟨z, hd, xs, rel, dd⟩ := dt_rd I.hok e
    refine wpAny_in_heap (tupleKind_room_in1 hu) (key_of I.hok eb) hd dd ?_
    have q := (rel.val k).isSome_eq
    rw [Option.isSome_map] at q
    rw [← q, ← l]
    exact h _ (I.tok _)
theorem d_notIn {Q : Value → Shared → Prop} (hu : A.units + 1 < cLine) (I : Inv X pins σ H s) (g : DGet H a y o) (ry : RelV y u) (h : ∀ s', Inv X pins σ H s' → Q (.bool (!o.isSome)) s') :
    wpAny (model X.prog X.w) A (compareOp .NotIn u (.ref a)) Q E s := by
  rcases g with ⟨kvs, k, e, ey, l⟩ | ⟨kvs, k, b, e, ey, eb, l⟩
  · subst ey
    obtain ⟨z, hd, vs, rel, dd⟩ := dk_rd I.hok e
    refine wpAny_notIn_of (kV_is ry) hd dd.mapOf ?_
    rw [← (rel.val k).isSome_eq, ← l]
    exact h _ (I.tok _)
  · subst ey
    cases (show u = Value.ref b from ry)
    obtain ⟨z, hd, xs, rel, dd⟩ := dt_rd I.hok e
    refine wpAny_notIn_heap (tupleKind_room_in1 hu) (key_of I.hok eb) hd dd ?_
    have q := (rel.val k).isSome_eq
    rw [Option.isSome_map] at q
    rw [← q, ← l]
    exact h _ (I.tok _)
theorem d_write {h' : Heap} {t' : Nat} {ob : HO} (I : Inv X pins σ H s) (mu : Mut (H a)) (hs : Heap.SameBut a s.heap h') (he : ∃ q, h'.get? a = some q) (new : ObjOk X.prog X.w (upd H a ob) h' a ob) :
    Inv X pins σ (upd H a ob) { s with heap := h', toks := t' } :=
  I.write (x := a) (e := a) mu (.inl rfl) (fun b q hb z => (hs.2 b hb).trans z) he new
theorem dk_new {P : Program} {w : World} {H' : Hp} {h' : Heap} {kvs : List (Key × V)} {vs : List (Key × Value)} (z : kvs.length ≤ sizeLine) (hd : (a == sysModules) = false) (rel : KV kvs vs) (dd : h'.DictOf (mixKind P w) a vs) :
    ObjOk P w H' h' a (.dK kvs) := ⟨z, hd, vs, rel, dd⟩
theorem d_setItem {H' : Hp} {Q : Unit → Shared → Prop} (hu : A.units + 1 < cLine) (I : Inv X pins σ H s) (g : DPut H a y v H') (ry : RelV y u) (rv : RelV v r) (h : ∀ s', Inv X pins σ H' s' → Q () s') :
    wpAny (model X.prog X.w) A (setItem (.ref a) u r) Q E s := by
  rcases g with ⟨kvs, k, e, ey, l, eH⟩ | ⟨kvs, k, b, e, ey, eb, l, eH⟩
  · subst ey eH
    obtain ⟨z, hd, vs, rel, dd⟩ := dk_of I.hok e
    have hz : vs.length ≤ sizeLine := by rw [← rel.length]; exact z
    have hl : (putK kvs k v).length ≤ sizeLine := by have := length_putK kvs k v; omega
    refine wpAny_setItem_pairs (hsz := hz) (kV_is ry) dd fun h' dd' hs => h _ ?_
    have he : ∃ q, h'.get? a = some q := let ⟨q, _, _, hq, _⟩ := dd'; ⟨q, hq⟩
    exact d_write I (by rw [e]; exact True.intro) hs he (dk_new hl hd (rel.put k rv) dd')
  · subst ey eH
    cases (show u = Value.ref b from ry)
    obtain ⟨z, hd, xs, rel, dd⟩ := dt_of I.hok e
    have hz : xs.length ≤ sizeLine := by rw [← Paired.length rel]; exact z
    have hl : (putK kvs k v).length ≤ sizeLine := by have := length_putK kvs k v; omega
    refine wpAny_setItem_heap (hsz := hz) (tupleKind_room_in1 hu) (key_of I.hok eb) dd fun h' dd' hs => h _ ?_
    obtain ⟨q, es, ep, hq, h2, h3, h4, _, h5⟩ := dd'
    refine d_write I (by rw [e]; exact True.intro) hs ⟨q, hq⟩ ⟨hl, hd, _, (rel.put k eb rv).keeps fun c ys ec => ?_, q, es, ep, hq, h2, h3, h4, h5⟩
    rw [upd_ne (ne_of ec e (fun z => nomatch z))]
    exact ec
end
section
variable {X : Cx} {pins : List (Addr × Obj)} {σ : St} {H : Hp} {s : Shared} {a : Addr} {kvs : List (Key × V)} {k : Key} {u : Value} {A : Around} {E : Value → Shared → Prop}
end
def NoSl (i : Expr) : Prop := ∀ ov iv, subscripted i false ov iv = operate [ov, iv] (getItem ov iv)
theorem subD_of {prog : Program} {w : World} {A : Around} {E : Value → Shared → Prop} {s : Shared} {env : Env} {value slice : Expr} {pos : Pos} {T id : String} {Q : Value → Shared → Prop}
    (hl : typeLookup (.type T) "__getitem__" = pure (some (.builtin id))) (hs : NoSl slice)
    (h : wpAny (model prog w) A (eval value env) (fun o s₁ => wpAny (model prog w) A (eval slice env) (fun i s₂ => s₂.TypeIs o T ∧ wpAny (model prog w) A (getItem o i) Q E s₂) E s₁) E s) :
    wpAny (model prog w) A (eval (.Subscript value slice pos) env) Q E s := by
  refine Subscript_ (wpAny_mono h (fun o s₁ h₁ => wpAny_mono h₁ (fun i s₂ h₂ => ?_) fun _ _ x => x) fun _ _ x => x)
  obtain ⟨hT, h₂⟩ := h₂
  unfold subscriptTail
  refine wpAny_bind ?_
  rw [getitemInPython_of_ne hT.not_modules]
  refine wpAny_bind (wpAny_specialOf hT hl ?_)
  have fin : wpAny (model prog w) A (subscripted slice false o i) (fun r s₃ => wpAny (model prog w) A (letTemporaryGo value o r >>= fun _ => pure r) Q E s₃) E s₂ := by
    rw [hs o i]
    exact wpAny_operating (wpAny_mono h₂ (fun r s₃ h₃ => wpAny_bind (wpAny_letTemporaryGo (wpAny_pure h₃))) fun _ _ x => x)
  first
    | exact wpAny_pure (wpAny_bind fin)
    | exact wpAny_bind (wpAny_pure (wpAny_bind fin))
    | exact wpAny_bind fin
theorem dict_typeIs {X : Cx} {pins : List (Addr × Obj)} {σ : St} {H : Hp} {s : Shared} {a : Addr} {y : V} {o : Option V} (I : Inv X pins σ H s) (g : DGet H a y o) : s.TypeIs (.ref a) "dict" := by
  rcases g with ⟨kvs, k, e, _, _⟩ | ⟨kvs, k, b, e, _, _, _⟩
  · obtain ⟨_, _, vs, _, dd⟩ := dk_rd I.hok e
    exact dd.typeIs
  · obtain ⟨_, _, xs, _, dd⟩ := dt_rd I.hok e
    exact dd.typeIs
def tDGet (td ty : TE) : TE := fun σ H Q => td σ H fun x H1 => ty σ H1 fun y H2 => ∃ a v, x = .ref a ∧ DGet H2 a y (some v) ∧ Q v H2
def tDIn (ty td : TE) : TE := fun σ H Q => ty σ H fun y H1 => td σ H1 fun x H2 => ∃ a o, x = .ref a ∧ DGet H2 a y o ∧ Q (.bl o.isSome) H2
def tDNotIn (ty td : TE) : TE := fun σ H Q => ty σ H fun y H1 => td σ H1 fun x H2 => ∃ a o, x = .ref a ∧ DGet H2 a y o ∧ Q (.bl (!o.isSome)) H2
def sDPut (td ty tv : TE) : TS := fun D σ H => tv σ H fun v H1 => td σ H1 fun x H2 => ty σ H2 fun y H3 => ∃ a H4, x = .ref a ∧ DPut H3 a y v H4 ∧ D.nx σ H4
def sDAug (td ty tv : TE) (rd : V → V → Hp → VK → Prop) : TS := fun D σ H => td σ H fun x H1 => ty σ H1 fun y H2 => ∃ a v, x = .ref a ∧ DGet H2 a y (some v) ∧
  tv σ H2 fun y2 H3 => rd v y2 H3 fun z H4 => ∃ H5, DPut H4 a y z H5 ∧ D.nx σ H5
def sDDel (td ty : TE) : TS := fun D σ H => td σ H fun x H1 => ty σ H1 fun y H2 => ∃ a kvs k, x = .ref a ∧ H2 a = some (.dK kvs) ∧ y = kV k ∧ (valV kvs k).isSome = true ∧ D.nx σ (upd H2 a (.dK (dropK kvs k)))
section
variable {X : Cx} {o i e value : Expr} {pos pos' tpos : Pos} {td ty tv : TE}
theorem pe_dget (hu : X.A.units + 1 < cLine) (ho : PE X o td) (hi : PE X i ty) (hs : NoSl i) : PE X (.Subscript o i pos) (tDGet td ty) := by
  intro pins s σ H Q I h
  refine subD_of PySem.F.slot_dict_getitem.lookup hs (thn (ho pins s σ H _ I h) fun u s1 ⟨x, H1, I1, rx, q1⟩ => thn (hi pins s1 σ H1 _ I1 q1) fun iv s2 ⟨y, H2, I2, ry, a, v, ex, g, q2⟩ => ?_)
  subst ex
  obtain rfl : u = Value.ref a := rx
  exact ⟨dict_typeIs I2 g, d_getItem hu I2 g ry fun w' s3 I3 rw' => ⟨v, H2, I3, rw', q2⟩⟩
theorem pc_din (hu : X.A.units + 1 < cLine) (hi : PE X i ty) (ho : PE X o td) : PC X .In i o (tDIn ty td) := by
  intro pins s σ H Q I h
  refine thn (hi pins s σ H _ I h) fun iv s1 ⟨y, H1, I1, ry, q1⟩ => thn (ho pins s1 σ H1 _ I1 q1) fun u s2 ⟨x, H2, I2, rx, a, ov, ex, g, q2⟩ => ?_
  subst ex
  obtain rfl : u = Value.ref a := rx
  exact d_in hu I2 g ry fun s3 I3 => ⟨.bl ov.isSome, H2, I3, rfl, q2⟩
theorem pc_dnotin (hu : X.A.units + 1 < cLine) (hi : PE X i ty) (ho : PE X o td) : PC X .NotIn i o (tDNotIn ty td) := by
  intro pins s σ H Q I h
  refine thn (hi pins s σ H _ I h) fun iv s1 ⟨y, H1, I1, ry, q1⟩ => thn (ho pins s1 σ H1 _ I1 q1) fun u s2 ⟨x, H2, I2, rx, a, ov, ex, g, q2⟩ => ?_
  subst ex
  obtain rfl : u = Value.ref a := rx
  exact d_notIn hu I2 g ry fun s3 I3 => ⟨.bl (!ov.isSome), H2, I3, rfl, q2⟩
theorem ps_dput (hu : X.A.units + 1 < cLine) (ho : PE X o td) (hi : PE X i ty) (hv : PE X value tv) (hs : swapsWith value (some (.Subscript o i pos')) pos.line X.env = pure false) :
    PS X (.Assign [.Subscript o i pos'] value pos) (sDPut td ty tv) := by
  intro pins s σ H D I h
  refine wpAny_Assign_Subscript (thn (hv pins s σ H _ I h) fun r s1 ⟨v, H1, I1, rv, q1⟩ => thn (ho pins s1 σ H1 _ I1 q1) fun u s2 ⟨x, H2, I2, rx, q2⟩ => thn (hi pins s2 σ H2 _ I2 q2) fun iv s3 ⟨y, H3, I3, ry, a, H4, ex, g, q3⟩ => ?_) hs
  subst ex
  obtain rfl : u = Value.ref a := rx
  exact d_setItem hu I3 g ry rv fun s4 I4 => ⟨σ, H4, I4, q3⟩
end
theorem dk_empty {P : Program} {w : World} {H : Hp} (h : Heap) (hb : sysModules < h.objs.size) : ObjOk P w H (h.push { cls := .type "dict", data := .dict #[] }) h.objs.size (.dK []) :=
  ⟨Nat.zero_le _, beq_eq_false_iff_ne.mpr (Ne.symm (Nat.ne_of_lt hb)), [], .nil, Heap.DictOf.new h⟩
theorem dt_empty {P : Program} {w : World} {H : Hp} (h : Heap) (hb : sysModules < h.objs.size) : ObjOk P w H (h.push { cls := .type "dict", data := .dict #[] }) h.objs.size (.dT []) :=
  ⟨Nat.zero_le _, beq_eq_false_iff_ne.mpr (Ne.symm (Nat.ne_of_lt hb)), [], .nil, _, #[], 0, Heap.get?_push_size _ rfl, ⟨rfl, rfl, rfl⟩, rfl, rfl, List.nodup_nil⟩
def tDNewK : TE := fun _ H Q => ∀ p, H p = none → Q (.ref p) (upd H p (.dK []))
def tDNewT : TE := fun _ H Q => ∀ p, H p = none → Q (.ref p) (upd H p (.dT []))
section
variable {X : Cx} {pos : Pos}
theorem pe_dnewK : PE X (.Dict [] [] pos) tDNewK := fun pins s σ H Q I h =>
  wpAny_Dict_empty ⟨.ref s.heap.objs.size, _, I.laid (a := s.heap.objs.size) (o := .dK []) (t' := s.toks) (fun _ _ q => Heap.get?_push_of_some _ q) (Nat.le_refl _) (dk_empty s.heap I.big), rfl, h _ (I.hok.fresh (Nat.le_refl _))⟩
theorem pe_dnewT : PE X (.Dict [] [] pos) tDNewT := fun pins s σ H Q I h =>
  wpAny_Dict_empty ⟨.ref s.heap.objs.size, _, I.laid (a := s.heap.objs.size) (o := .dT []) (t' := s.toks) (fun _ _ q => Heap.get?_push_of_some _ q) (Nat.le_refl _) (dt_empty s.heap I.big), rfl, h _ (I.hok.fresh (Nat.le_refl _))⟩
end
def tPairs : List (TE × TE) → St → Hp → (List (V × V) → Hp → Prop) → Prop
  | [], _, H, Q => Q [] H
  | (tk, tv) :: r, σ, H, Q => tk σ H fun x H1 => tv σ H1 fun y H2 => tPairs r σ H2 fun ps H3 => Q ((x, y) :: ps) H3
abbrev VV : List (V × V) → List (Value × Value) → Prop := Paired fun p q => RelV p.1 q.1 ∧ RelV p.2 q.2
def PPs (X : Cx) (pos : Pos) (keys : List (Option Expr)) (values : List Expr) (trs : List (TE × TE)) : Prop :=
  ∀ (pins : List (Addr × Obj)) (s : Shared) (σ : St) (H : Hp) (Q : List (V × V) → Hp → Prop), Inv X pins σ H s → tPairs trs σ H Q →
    wpAny (model X.prog X.w) X.A (evalPairs (pairTrees keys values X.env pos)) (fun vs s' => ∃ ps H', Inv X pins σ H' s' ∧ VV ps vs ∧ Q ps H') X.xe s
theorem pps_nil {X : Cx} {pos : Pos} : PPs X pos [] [] [] := fun pins s σ H Q I h => pairTrees_nil_walk ⟨[], H, I, .nil, h⟩
theorem pps_cons {X : Cx} {pos : Pos} {k v : Expr} {ks : List (Option Expr)} {vs : List Expr} {tk tv : TE} {trs : List (TE × TE)} (hk : PE X k tk) (hv : PE X v tv) (hr : PPs X pos ks vs trs) :
    PPs X pos (some k :: ks) (v :: vs) ((tk, tv) :: trs) := fun pins s σ H Q I h =>
  pairTrees_cons_walk (thn (hk pins s σ H _ I h) fun u s1 ⟨x, H1, I1, rx, q1⟩ => thn (hv pins s1 σ H1 _ I1 q1) fun w2 s2 ⟨y, H2, I2, ry, q2⟩ =>
    thn (hr pins s2 σ H2 _ I2 q2) fun ws s3 ⟨ps, H3, I3, rel, q3⟩ => ⟨(x, y) :: ps, H3, I3, .cons ⟨rx, ry⟩ rel, q3⟩)
def mergeK (kvs more : List (Key × V)) : List (Key × V) := more.foldl (fun acc kv => putK acc kv.1 kv.2) kvs
theorem KV.merge : ∀ {more : List (Key × V)} {rs : List (Key × Value)} {kvs : List (Key × V)} {vs : List (Key × Value)}, KV more rs → KV kvs vs → KV (mergeK kvs more) (merged vs rs) := by
  intro more rs kvs vs r
  unfold KV at r
  induction r generalizing kvs vs with
  | nil => intro q; exact q
  | @cons p q ps qs h t ih =>
    intro r0
    have e : KV (putK kvs p.1 p.2) (stored vs q.1 q.2) := by
      have := r0.put p.1 h.2
      rw [← h.1]; exact this
    exact ih e
theorem length_mergeK : ∀ (more kvs : List (Key × V)), (mergeK kvs more).length ≤ kvs.length + more.length
  | [], kvs => by show kvs.length ≤ kvs.length + 0; omega
  | p :: r, kvs => by
    have h1 := length_mergeK r (putK kvs p.1 p.2)
    have h2 := length_putK kvs p.1 p.2
    show (mergeK (putK kvs p.1 p.2) r).length ≤ _
    rw [List.length_cons]; omega
theorem carries_of {P : Program} {w : World} : ∀ {kvs : List (Key × V)} {ws : List (Value × Value)}, VV (kvs.map fun kv => (kV kv.1, kv.2)) ws → ∃ rs, Carries (mixKind P w) ws rs ∧ KV kvs rs
  | [], _, r => by rw [List.map_nil] at r; cases r; exact ⟨[], True.intro, .nil⟩
  | p :: kvs, _, r => by
    rw [List.map_cons] at r
    cases r with
    | @cons a b as bs h t =>
      obtain ⟨rs, c, q⟩ := carries_of (P := P) (w := w) t
      obtain ⟨b1, b2⟩ := b
      exact ⟨(p.1, b2) :: rs, ⟨kV_is h.1, rfl, c⟩, .cons ⟨rfl, h.2⟩ q⟩
def tDisp (trs : List (TE × TE)) : TE := fun σ H Q => ∀ p, H p = none → tPairs trs σ (upd H p (.dK [])) fun ps H2 => H2 p = some (.dK []) ∧ ∃ kvs : List (Key × V), ps = kvs.map (fun kv => (kV kv.1, kv.2)) ∧ kvs.length ≤ 15 ∧ Q (.ref p) (upd H2 p (.dK (mergeK [] kvs)))
theorem pe_disp {X : Cx} {pos : Pos} {keys : List (Option Expr)} {values : List Expr} {trs : List (TE × TE)} (h : PPs X pos keys values trs) (hall : keys.all (·.isSome) = true) (hl : keys.length = values.length) (h0 : keys ≠ [])
    (h15 : keys.length ≤ 15) : PE X (.Dict keys values pos) (tDisp trs) := by
  intro pins s σ H Q I q
  have hn := I.hok.fresh (Nat.le_refl s.heap.objs.size)
  have I1 := I.laid (a := s.heap.objs.size) (o := .dK []) (h' := s.heap.push { cls := .type "dict", data := .dict #[] }) (t' := s.toks) (fun _ _ q => Heap.get?_push_of_some _ q) (Nat.le_refl _) (dk_empty s.heap I.big)
  refine wpAny_Dict_walk (knd := mixKind X.prog X.w) hall hl h0 h15 (thn (h pins _ σ _ _ I1 (q _ hn)) fun ws s2 ⟨ps, H2, I2, rel, e, kvs, ep, lk, q2⟩ => ?_)
  subst ep
  obtain ⟨rs, c, rk⟩ := carries_of (P := X.prog) (w := X.w) rel
  obtain ⟨z, hd, vs0, r0, dd⟩ := dk_of I2.hok e
  cases r0
  refine ⟨rs, c, dd, fun h' dd' hs => ⟨.ref s.heap.objs.size, _, ?_, rfl, q2⟩⟩
  have hz : (mergeK [] kvs).length ≤ sizeLine := by
    have h1 := length_mergeK kvs []
    rw [List.length_nil] at h1
    rw [sizeLine_eq]; omega
  have he : ∃ q, h'.get? s.heap.objs.size = some q := let ⟨q, _, _, hq, _⟩ := dd'; ⟨q, hq⟩
  exact d_write I2 (by rw [e]; exact True.intro) hs he (dk_new hz hd (rk.merge .nil) dd')
structure M1 (X : Cx) (o : Expr) (m : Str) (apos : Pos) (e : Expr) (cpos : Pos) : Prop where
  base : attributeBase o m X.env (eval o X.env) = eval o X.env
  few : ((backTo cpos (starEach [e] X.env)).all (fun x => !x.1) && (backToKw cpos (keywordEach [] X.env)).all (fun x => x.1.isSome)
    && decide (([e] : List Expr).length + ([] : List Keyword).length + (if ([] : List Keyword).isEmpty then 0 else 1) < 30)) = true
  line : (apos.endLine == cpos.line) = true
  trees : backTo cpos (starEach [e] X.env) = [(false, eval e X.env)]
structure M2 (X : Cx) (o : Expr) (m : Str) (apos : Pos) (e f : Expr) (cpos : Pos) : Prop where
  base : attributeBase o m X.env (eval o X.env) = eval o X.env
  few : ((backTo cpos (starEach [e, f] X.env)).all (fun x => !x.1) && (backToKw cpos (keywordEach [] X.env)).all (fun x => x.1.isSome)
    && decide (([e, f] : List Expr).length + ([] : List Keyword).length + (if ([] : List Keyword).isEmpty then 0 else 1) < 30)) = true
  line : (apos.endLine == cpos.line) = true
  trees : backTo cpos (starEach [e, f] X.env) = [(false, eval e X.env), (false, eval f X.env)]
def IsD (H : Hp) (a : Addr) : Prop := (∃ kvs, Rd H a (.dK kvs)) ∨ ∃ kvs, Rd H a (.dT kvs)
section
variable {X : Cx} {pins : List (Addr × Obj)} {σ : St} {H : Hp} {s : Shared} {a : Addr} {y d : V} {u r : Value} {o : Option V} {A : Around} {E : Value → Shared → Prop}
end
def tDGet1 (td ty : TE) : TE := fun σ H Q => td σ H fun x H1 => ∃ a, x = .ref a ∧ IsD H1 a ∧ ty σ H1 fun y H2 => ∃ o, DGet H2 a y o ∧ Q (o.getD .non) H2
def tDGet2 (td ty tx : TE) : TE := fun σ H Q => td σ H fun x H1 => ∃ a, x = .ref a ∧ IsD H1 a ∧ ty σ H1 fun y H2 => tx σ H2 fun z H3 => ∃ o, DGet H3 a y o ∧ Q (o.getD z) H3
def tDPop1 (td ty : TE) : TE := fun σ H Q => td σ H fun x H1 => ∃ a, x = .ref a ∧ IsD H1 a ∧ ty σ H1 fun y H2 => ∃ kvs k v, H2 a = some (.dK kvs) ∧ y = kV k ∧ valV kvs k = some v ∧ Q v (upd H2 a (.dK (dropK kvs k)))
def tDPop2 (td ty tx : TE) : TE := fun σ H Q => td σ H fun x H1 => ∃ a, x = .ref a ∧ IsD H1 a ∧ ty σ H1 fun y H2 => tx σ H2 fun z H3 => ∃ kvs k, H3 a = some (.dK kvs) ∧ y = kV k ∧
  (∀ v, valV kvs k = some v → Q v (upd H3 a (.dK (dropK kvs k)))) ∧ (valV kvs k = none → Q z H3)
section
variable {X : Cx} {o e f : Expr} {apos cpos : Pos} {td ty tx : TE}
end
section
variable {X : Cx} {pins : List (Addr × Obj)} {σ : St} {H : Hp} {s : Shared} {a : Addr} {kvs : List (Key × V)} {A : Around} {E : Value → Shared → Prop}
end
section
variable {X : Cx} {pins : List (Addr × Obj)} {σ : St} {H : Hp} {s : Shared} {a : Addr} {y : V} {u : Value} {A : Around} {E : Value → Shared → Prop}
end
section
variable {X : Cx}
end
section
variable {κ : Type} [DecidableEq κ]
end
end L2

namespace L2
open PySem PySem.Spec PyProof.Rows
structure DefOk (P : Program) (w : World) (K : PySem.W.Frag) (mg : Str → Option Value) (base : Heap) (CX : CXT) (k : Nat) (x : Str) (ps : List Str) (sp : Sp) : Prop where
  ex : ∃ (f : Addr) (fd : FuncData), FnOk P w K mg base CX k f fd ps sp ∧ Binds K fd ps [] ∧ PySem.W.keepIn K (.ref f) = true ∧ mg x = some (.ref f)
theorem DefOk.mono {P : Program} {w : World} {K : PySem.W.Frag} {mg : Str → Option Value} {base : Heap} {CX : CXT} {j k : Nat} {x : Str} {ps : List Str} {sp : Sp} (D : DefOk P w K mg base CX j x ps sp) (h : j ≤ k) : DefOk P w K mg base CX k x ps sp := by
  obtain ⟨f, fd, F, b⟩ := D.ex
  exact ⟨f, fd, F.mono h, b⟩
section
variable {X : Cx} {CX : CXT} {k : Nat} {ps : List Str} {sp : Sp} {E : XK} {x : Str} {p pos : Pos} {e : Expr} {es : List Expr} {t : TA}
theorem pe_callD (D : DefOk X.prog X.w X.K X.mg X.base CX k x ps sp) (hr : Room k X.A) (hg : Gl X x) (hx : Passes CX X E) (ha : PA X (e :: es) t) (hdb : (x == ("__debug__" : Str)) = false := by decide)
    (he : starEach (e :: es) X.env = (false, eval e X.env) :: starEach es X.env := by rfl) (hpl : (backTo pos (starEach es X.env)).any (·.1) = false := by rfl) :
    PE X (.Call (.Name x p) (e :: es) [] pos) (tCall sp [] E t) := by
  obtain ⟨f, fd, F, b, kp, m⟩ := D.ex
  exact pe_call F hr hg m kp b .nil hx ha hdb he hpl
end
def CDivW (_ j : Int) : Prop := 0 < j ∧ j < 2 ^ 64
theorem op_fdivW {X : Cx} : OpR X (binaryOp .FloorDiv) (rI CDivW fun i j => .int (i / j)) := opI fun i j _ _ _ _ _ hc q => by
  have h1 : (0 : Int) < j := hc.1
  have h2 : j < 2 ^ 64 := hc.2
  have h3 : j.natAbs.log2 < 64 := (Nat.log2_lt (by omega)).mpr (by omega)
  exact floordiv_int (by omega) (by rw [Int.fdiv_eq_ediv_of_nonneg i (by omega)]; exact q) (.inl (PyProof.noPylong_of_log2 (by omega)))
def Ch (W : List Addr) (H H' : Hp) : Prop := ∀ b o, H b = some o → b ∉ W → H' b = some o
theorem Ch.refl (W : List Addr) (H : Hp) : Ch W H H := fun _ _ h _ => h
theorem Ch.trans {W : List Addr} {H H1 H2 : Hp} (a : Ch W H H1) (b : Ch W H1 H2) : Ch W H H2 := fun c o h n => b c o (a c o h n) n
theorem Ch.get {W : List Addr} {H H' : Hp} {b : Addr} {o : HO} (c : Ch W H H') (h : H b = some o) (n : b ∉ W) : H' b = some o := c b o h n
theorem Ch.mono {W W' : List Addr} {H H' : Hp} (c : Ch W H H') (h : ∀ b ∈ W, b ∈ W') : Ch W' H H' := fun b o q n => c b o q fun z => n (h b z)
theorem Ch.wk {W : List Addr} {H H' : Hp} (c : Ch [] H H') : Ch W H H' := c.mono fun b h => nomatch h
theorem Ch.new {W : List Addr} {H : Hp} {p : Addr} (h : H p = none) (o : HO) : Ch W H (upd H p o) := fun b u q _ => by rw [upd_ne (ne_of_none q h)]; exact q
theorem Ch.put {H : Hp} {p : Addr} {o : HO} : Ch [p] H (upd H p o) := fun b u q n => by rw [upd_ne (fun z => n (by simp [z]))]; exact q
def Scr (K : PySem.W.Frag) (H : Hp) (a : Addr) (ns : List Int) : Prop :=
  ns.length ≤ 63 ∧ ((∃ o, H a = some (.frz o (.lst (ns.map V.int)))) ∨
    ∃ (o : Obj) (its : Array Value) (n : Nat), K.lookup a = some o ∧ o.cls = .type "list" ∧ o.dict = none ∧ o.data = .seq its n ∧ its.size ≤ sizeLine ∧ Vals (ns.map V.int) its.toList)
theorem Scr.sq {K : PySem.W.Frag} {H : Hp} {a : Addr} {ns : List Int} (S : Scr K H a ns) : SqL K H a (ns.map V.int) := by
  rcases S.2 with ⟨o, h⟩ | h
  · exact .inl (.inr ⟨o, h⟩)
  · exact .inr h
theorem Scr.ch {K : PySem.W.Frag} {H H' : Hp} {a b : Addr} {ns : List Int} {xs : List V} (S : Scr K H a ns) (hb : H b = some (.lst xs)) (c : Ch [b] H H') : Scr K H' a ns := by
  refine ⟨S.1, ?_⟩
  rcases S.2 with ⟨o, h⟩ | h
  · exact .inl ⟨o, c.get h (by
      intro z
      have e : a = b := by simpa using z
      subst e
      rw [h] at hb
      cases hb)⟩
  · exact .inr h
theorem Scr.same {K : PySem.W.Frag} {H H' : Hp} {a : Addr} {ns : List Int} (S : Scr K H a ns) (c : Ch [] H H') : Scr K H' a ns := by
  refine ⟨S.1, ?_⟩
  rcases S.2 with ⟨o, h⟩ | h
  · exact .inl ⟨o, c.get h (by simp)⟩
  · exact .inr h
theorem Scr.of {K : PySem.W.Frag} {H : Hp} {a : Addr} {ns : List Int} (h : SqL K H a (ns.map V.int)) (hl : ns.length ≤ 63) (hO : Only H) : Scr K H a ns := by
  refine ⟨hl, ?_⟩
  rcases h with (h | ⟨o, h⟩) | h
  · rcases hO a with z | ⟨o, xs, z⟩
    · rw [h] at z; cases z
    · rw [h] at z; cases z
  · exact .inl ⟨o, h⟩
  · exact .inr h
end L2
namespace L2
open PySem PySem.Spec PyProof.Rows
theorem g_new {H : Hp} {p q : Addr} {o u : HO} (hq : H q = none) (h : H p = some o) : upd H q u p = some o := by rw [upd_ne (ne_of_none h hq)]; exact h
theorem g_put {H : Hp} {p q : Addr} {o u : HO} (n : p ≠ q) (h : H p = some o) : upd H q u p = some o := by rw [upd_ne n]; exact h
structure Loop (J : It) (g : TG) (tb : TS) (D : Ends) (σ : St) (H : Hp) : Prop where
  ex : ∃ W : Nat → Nat → St → Hp → Prop, (∃ m, W 0 m σ H) ∧ ∀ i m σ H, W i m σ H →
    (J.stop i H ∧ D.nx σ H) ∨ (J.go i H ∧ ∃ N : St → Hp → Prop, (∀ σ' H', N σ' H' → ∃ m', m' < m ∧ W (i + 1) m' σ' H') ∧ ∀ x H', J.yld i H x H' → g x σ H' fun σ2 H2 => tb { D with nx := N, ct := N, bk := D.nx } σ2 H2)
def tLoop (wi : TI) (g : TG) (tb : TS) : TS := fun D σ H => wi σ H fun J H1 => Loop J g tb D σ H1
theorem ps_loop {X : Cx} {tg iter : Expr} {body : List Stmt} {wi : TI} {g : TG} {tb : TS} {pos : Pos} (hp : PassesOwn (model X.prog X.w) X.A X.env X.xe) (hc : X.calm = true) (hi : PI X tg iter wi) (hg : PG X tg g) (hb : PSs X body tb)
    (hs : ∀ x, foldedSetIterable iter X.env x = pure x := by intro _; rfl) : PS X (.For tg iter body [] pos) (tLoop wi g tb) := by
  have hi' : PI X tg iter (fun σ H R => ∃ R0 : It → Hp → Prop, wi σ H R0 ∧ ∀ J H1, R0 J H1 → R J H1) := by
    intro pins s σ H R I ⟨R0, h, m⟩
    refine thn (hi pins s σ H _ I h) fun v s1 h1 => thn h1 fun itv s2 h2 => ?_
    obtain ⟨it, fp, tn, J, H2, e, I2, T, st2, f2, r⟩ := h2
    exact ⟨it, fp, tn, J, H2, e, I2, T, st2, f2, m _ _ r⟩
  intro pins s σ H D I h
  exact ps_for hp hc hi' hg hb hs pins s σ H D I ⟨_, h, fun J H1 l => l.ex⟩
theorem loop_list {K : PySem.W.Frag} {a : Addr} {xs : List V} {g : TG} {tb : TS} {D : Ends} {σ : St} {H : Hp} (Pv : Nat → St → Hp → Prop) (h0 : Pv 0 σ H) (hl : ∀ i σ H, i ≤ xs.length → Pv i σ H → SqL K H a xs)
    (hs : ∀ i x σ H, xs[i]? = some x → Pv i σ H → g x σ H fun σ2 H2 => tb { D with nx := Pv (i + 1), ct := Pv (i + 1), bk := D.nx } σ2 H2) (hd : ∀ σ H, Pv xs.length σ H → D.nx σ H) : Loop (Itl K a) g tb D σ H := ⟨for_list Pv h0 hl hs hd⟩
theorem loop_tup {K : PySem.W.Frag} {a : Addr} {xs : List V} {g : TG} {tb : TS} {D : Ends} {σ : St} {H : Hp} (Pv : Nat → St → Hp → Prop) (h0 : Pv 0 σ H) (hl : ∀ i σ H, i ≤ xs.length → Pv i σ H → SqT K H a xs)
    (hs : ∀ i x σ H, xs[i]? = some x → Pv i σ H → g x σ H fun σ2 H2 => tb { D with nx := Pv (i + 1), ct := Pv (i + 1), bk := D.nx } σ2 H2) (hd : ∀ σ H, Pv xs.length σ H → D.nx σ H) : Loop (Itt K a) g tb D σ H := ⟨for_tup Pv h0 hl hs hd⟩
theorem loop_range {lo : Int} {n : Nat} {g : TG} {tb : TS} {D : Ends} {σ : St} {H : Hp} (Pv : Nat → St → Hp → Prop) (h0 : Pv 0 σ H)
    (hs : ∀ i σ H, i < n → Pv i σ H → g (.int (lo + i)) σ H fun σ2 H2 => tb { D with nx := Pv (i + 1), ct := Pv (i + 1), bk := D.nx } σ2 H2) (hd : ∀ σ H, Pv n σ H → D.nx σ H) : Loop (Itr lo n) g tb D σ H := ⟨for_range Pv h0 hs hd⟩
structure Cut (t u : TS) (D : Ends) (σ : St) (H : Hp) : Prop where
  ex : ∃ P : St → Hp → Prop, t { D with nx := P } σ H ∧ ∀ σ' H', P σ' H' → u D σ' H'
def tCut (t u : TS) : TS := fun D σ H => Cut t u D σ H
theorem pss_cut {X : Cx} {st : Stmt} {rest : List Stmt} {t u : TS} (h1 : PS X st t) (h2 : PSs X rest u) : PSs X (st :: rest) (tCut t u) := by
  intro pins s σ H D I h
  obtain ⟨P, a, b⟩ := h.ex
  have h1' : PS X st (fun D' σ' H' => ∃ P : St → Hp → Prop, t { D' with nx := P } σ' H' ∧ ∀ σ2 H2, P σ2 H2 → D'.nx σ2 H2) := by
    intro pins s σ H D I ⟨P, a, b⟩
    refine thn (h1 pins s σ H _ I a) fun f s' q => ?_
    cases f with
    | next => obtain ⟨σ7, H7, I7, n7⟩ := q; exact ⟨σ7, H7, I7, b _ _ n7⟩
    | cont => exact q
    | brk => exact q
    | ret v => exact q
  exact pss_cons h1' h2 pins s σ H D I ⟨P, a, b⟩
theorem cut_by {t u : TS} {D : Ends} {σ : St} {H : Hp} (P : St → Hp → Prop) (h1 : t { D with nx := P } σ H) (h2 : ∀ σ' H', P σ' H' → u D σ' H') : Cut t u D σ H := ⟨P, h1, h2⟩
theorem atI_ints {ns : List Int} {i : Int} (h0 : 0 ≤ i) (h1 : i < (ns.length : Int)) : ∃ n : Int, atI (ns.map V.int) i = some (.int n) := by
  have hk : i.toNat < ns.length := by omega
  have ek : i = ((i.toNat : Nat) : Int) := by omega
  have q : atI (ns.map V.int) ((i.toNat : Nat) : Int) = some (.int ns[i.toNat]) := atI_nat (by rw [List.getElem?_map, List.getElem?_eq_getElem hk]; rfl)
  rw [← ek] at q
  exact ⟨_, q⟩
end L2

namespace L2
open PySem PySem.Spec PyProof.Rows
structure Atx {α : Type} (xs : List α) (i : Int) (R : α → Prop) : Prop where
  ex : ∃ v, atI xs i = some v ∧ R v
theorem Atx.of {α : Type} {xs : List α} {i : Int} {v : α} {R : α → Prop} (h : atI xs i = some v) (r : R v) : Atx xs i R := ⟨v, h, r⟩
section
variable {X : Cx}
theorem IxR.imp {r r' : R2} (h : IxR X r) (f : ∀ x y H Q, r' x y H Q → r x y H Q) : IxR X r' := fun value slice pins s σ H x y v u Q I rx ry q hs => h value slice pins s σ H x y v u Q I rx ry (f _ _ _ _ q) hs
def aIxL (K : PySem.W.Frag) : R2 := fun x y H Q => ∃ p xs i, x = .ref p ∧ y = .int i ∧ SqL K H p xs ∧ Atx xs i fun v => Q v H
def aIxT (K : PySem.W.Frag) : R2 := fun x y H Q => ∃ p xs i, x = .ref p ∧ y = .int i ∧ SqT K H p xs ∧ Atx xs i fun v => Q v H
def aIxS : R2 := fun x y H Q => ∃ z i, x = .str z ∧ y = .int i ∧ z.length ≤ sizeLine ∧ Atx z.cps.toList i fun c => Q (.str ⟨#[c]⟩) H
theorem ixa_list : IxR X (aIxL X.K) := ix_list.imp fun x y H Q ⟨p, xs, i, e1, e2, h, a⟩ => let ⟨v, hv, q⟩ := a.ex; ⟨p, xs, i, v, e1, e2, h, hv, q⟩
theorem ixa_tup : IxR X (aIxT X.K) := ix_tup.imp fun x y H Q ⟨p, xs, i, e1, e2, h, a⟩ => let ⟨v, hv, q⟩ := a.ex; ⟨p, xs, i, v, e1, e2, h, hv, q⟩
end
end L2
namespace L2
open PySem
section
variable {es : List Expr} {env : Env}
theorem se_Name {x pos} : starEach (.Name x pos :: es) env = (false, eval (.Name x pos) env) :: starEach es env := rfl
theorem se_Constant {c k pos} : starEach (.Constant c k pos :: es) env = (false, eval (.Constant c k pos) env) :: starEach es env := rfl
theorem se_BinOp {a o b pos} : starEach (.BinOp a o b pos :: es) env = (false, eval (.BinOp a o b pos) env) :: starEach es env := rfl
theorem se_UnaryOp {a o pos} : starEach (.UnaryOp o a pos :: es) env = (false, eval (.UnaryOp o a pos) env) :: starEach es env := rfl
theorem se_Call {a o b pos} : starEach (.Call a o b pos :: es) env = (false, eval (.Call a o b pos) env) :: starEach es env := rfl
theorem se_Tuple {a k pos} : starEach (.Tuple a k pos :: es) env = (false, eval (.Tuple a k pos) env) :: starEach es env := rfl
theorem se_List {a pos} : starEach (.List a pos :: es) env = (false, eval (.List a pos) env) :: starEach es env := rfl
theorem se_Subscript {a b pos} : starEach (.Subscript a b pos :: es) env = (false, eval (.Subscript a b pos) env) :: starEach es env := rfl
theorem se_Compare {a b c pos} : starEach (.Compare a b c pos :: es) env = (false, eval (.Compare a b c pos) env) :: starEach es env := rfl
theorem se_IfExp {a b c pos} : starEach (.IfExp a b c pos :: es) env = (false, eval (.IfExp a b c pos) env) :: starEach es env := rfl
theorem se_Attribute {a b pos} : starEach (.Attribute a b pos :: es) env = (false, eval (.Attribute a b pos) env) :: starEach es env := rfl
theorem se_ListComp {a b c pos} : starEach (.ListComp a b c pos :: es) env = (false, eval (.ListComp a b c pos) env) :: starEach es env := rfl
theorem se_Dict {a b pos} : starEach (.Dict a b pos :: es) env = (false, eval (.Dict a b pos) env) :: starEach es env := rfl
end
end L2
namespace L2
open PySem
theorem Ch.own {W : List Addr} {H H' : Hp} {p : Addr} {o : HO} (n : H p = none) (c : Ch W H H') : Ch W H (upd H' p o) := fun b u h k => by
  rw [upd_ne (ne_of_none h n)]
  exact c b u h k
theorem cut1 (x : V) (ys : List V) : cutV (x :: ys) (some 1) none = ys := by
  unfold cutV
  have e : HT.sIx (x :: ys).length 0 (some 1) = 1 := by
    have z := HT.sIx_nat (x :: ys).length 0 1
    rw [List.length_cons] at z ⊢
    refine z.trans ?_
    omega
  rw [e, HT.sIx_none, List.drop_succ_cons, List.drop_zero, List.take_of_length_le]
  simp
theorem cut1_not (x : V) (ys : List V) : ¬ (HT.sIx (x :: ys).length 0 (some 1) = 0 ∧ HT.sIx (x :: ys).length (x :: ys).length none = (x :: ys).length) := by
  intro h
  have e : HT.sIx (x :: ys).length 0 (some 1) = 1 := by
    have z := HT.sIx_nat (x :: ys).length 0 1
    rw [List.length_cons] at z ⊢
    refine z.trans ?_
    omega
  rw [e] at h
  exact absurd h.1 (by decide)
end L2
namespace L2
open PySem
theorem Atx.head {α : Type} {x : α} {xs : List α} {R : α → Prop} (r : R x) : Atx (x :: xs) 0 R := ⟨x, atI_nat (j := 0) rfl, r⟩
end L2

namespace L2
open PySem PySem.Spec PyProof.Rows
inductive SK where
  | list | tuple
def SIt (k : SK) (h : Heap) (it l : Addr) (i : Nat) : Prop := match k with
  | .list => h.IsListIter it l i
  | .tuple => h.IsTupleIter it l i
def SIs (k : SK) (h : Heap) (l : Addr) (items : Array Value) : Prop := match k with
  | .list => h.IsList l items
  | .tuple => h.IsTuple l items
def Sq (k : SK) (K : PySem.W.Frag) (H : Hp) (a : Addr) (xs : List V) : Prop := match k with
  | .list => SqL K H a xs
  | .tuple => SqT K H a xs
theorem SIt.at {k : SK} {h h' : Heap} {a l i} (x : SIt k h a l i) (e : ∀ o, h.get? a = some o → h'.get? a = some o) : SIt k h' a l i := by
  cases k with
  | list => exact Heap.IsListIter.at x e
  | tuple => exact Heap.IsTupleIter.at x e
theorem SIt.obj {k : SK} {h : Heap} {a l i} (x : SIt k h a l i) : ∃ o, h.get? a = some o ∧ ∀ v, o.data ≠ .cell v := by
  cases k with
  | list => obtain ⟨o, e, c, d⟩ := (show h.IsListIter a l i from x); exact ⟨o, e, fun v z => by rw [d] at z; cases z⟩
  | tuple => obtain ⟨o, e, c, d⟩ := (show h.IsTupleIter a l i from x); exact ⟨o, e, fun v z => by rw [d] at z; cases z⟩
theorem SIs.at {k : SK} {h h' : Heap} {a items} (x : SIs k h a items) (e : ∀ o, h.get? a = some o → h'.get? a = some o) : SIs k h' a items := by
  cases k with
  | list => exact Heap.IsList.at x e
  | tuple => obtain ⟨o, ho, r⟩ := (show h.IsTuple a items from x); exact ⟨o, e _ ho, r⟩
theorem SIs.lt {k : SK} {h : Heap} {a items} (x : SIs k h a items) : a < h.objs.size := by
  cases k with
  | list => obtain ⟨_, e, _⟩ := (show h.IsList a items from x); exact Heap.lt_size e
  | tuple => obtain ⟨_, e, _⟩ := (show h.IsTuple a items from x); exact Heap.lt_size e
section
variable {prog : Program} {w : World} {A : Around} {E : Value → Shared → Prop} {s : Shared}
theorem nextOf_tuple_item {it l : Addr} {i : Nat} {items} {x : Value} {Q : Value → Shared → Prop} (hit : s.heap.IsTupleIter it l i)
    (hl : s.heap.IsTuple l items) (hx : items[i]? = some x)
    (hQ : ∀ h', h'.IsTupleIter it l (i + 1) → Heap.SameBut it s.heap h' → Q x { s with heap := h' }) :
    wpAny (model prog w) A (Builtin.SmallTypes.nextOf (.ref it)) Q E s := by
  obtain ⟨o, ho, hc, hd⟩ := id hit
  obtain ⟨ol, hol, _, nl, hdl⟩ := hl
  unfold Builtin.SmallTypes.nextOf
  refine wpAny_bind (wpAny_callSpecial?_slot (name := Str.ofString "__next__") hit.typeIs F.slot_tuple_iterator_next
    (wpAny_call_entry F.slot_tuple_iterator_next hit.typeIs F.entry_tuple_iterator_next ?_ (F.args_tuple_iterator_next_1 _)))
  show wpAny _ _ (field (.ref it) 0 >>= _) _ _ s
  refine wpAny_bind (wpAny_field ho hd (x := .ref l) rfl ?_)
  show wpAny _ _ (if (Value.ref l == Value.none) = true then _ else _) _ _ s
  rw [if_neg (show ¬ ((Value.ref l == Value.none) = true) from Bool.false_ne_true)]
  show wpAny _ _ (field (.ref it) 1 >>= _) _ _ s
  refine wpAny_bind (wpAny_field ho hd (x := .int i 0) rfl ?_)
  show wpAny _ _ (seqItems? (.ref l) >>= _) _ _ s
  refine wpAny_bind (wpAny_seqItems hol hdl ?_)
  simp only [Int.toNat_natCast, hx]
  refine wpAny_bind (wpAny_setField ho hd (by simp) (wpAny_pure ⟨x, rfl, wpAny_pure (hQ _ ?_ (Heap.SameBut.update ..))⟩))
  exact ⟨_, Heap.get?_update_self _ ho (Obj.isFreed_of_fields (Obj.data_mapFields hd _)), (Obj.cls_mapFields ..).trans hc, by
    rw [Obj.data_mapFields hd]; simp [rawInt]⟩
theorem nextOf_tuple_end {it l : Addr} {i : Nat} {items} {Q : Value → Shared → Prop} (hh : A.handled = none)
    (hit : s.heap.IsTupleIter it l i) (hl : s.heap.IsTuple l items) (hx : items[i]? = none)
    (hE : ∀ h' e, Heap.ExtBut it s.heap h' → (∃ o, h'.get? e = some o ∧ o.cls = .type "StopIteration") → E (.ref e) { s with heap := h' }) :
    wpAny (model prog w) A (Builtin.SmallTypes.nextOf (.ref it)) Q E s := by
  obtain ⟨o, ho, hc, hd⟩ := id hit
  obtain ⟨ol, hol, _, nl, hdl⟩ := hl
  unfold Builtin.SmallTypes.nextOf
  refine wpAny_bind (wpAny_callSpecial?_slot (name := Str.ofString "__next__") hit.typeIs F.slot_tuple_iterator_next
    (wpAny_call_entry F.slot_tuple_iterator_next hit.typeIs F.entry_tuple_iterator_next ?_ (F.args_tuple_iterator_next_1 _)))
  show wpAny _ _ (field (.ref it) 0 >>= _) _ _ s
  refine wpAny_bind (wpAny_field ho hd (x := .ref l) rfl ?_)
  show wpAny _ _ (if (Value.ref l == Value.none) = true then _ else _) _ _ s
  rw [if_neg (show ¬ ((Value.ref l == Value.none) = true) from Bool.false_ne_true)]
  show wpAny _ _ (field (.ref it) 1 >>= _) _ _ s
  refine wpAny_bind (wpAny_field ho hd (x := .int i 0) rfl ?_)
  show wpAny _ _ (seqItems? (.ref l) >>= _) _ _ s
  refine wpAny_bind (wpAny_seqItems hol hdl ?_)
  simp only [Int.toNat_natCast, hx]
  refine wpAny_bind (wpAny_rule (wpAny_bind (wpAny_setField ho hd (by simp) ?_)))
  show wpAny _ _ (newExc (.type "StopIteration") [] >>= _) _ _ _
  refine wpAny_bind ?_
  simp only [newExc, newTuple]
  refine wpAny_bind (wpAny_newObj_type ?_ (by size_fits))
  refine wpAny_bind (m := firstArgMember _ _) (wpAny_of_eq (a := Value.none) (by first | rfl | (simp only [firstArgMember]; rfl)) ?_)
  refine wpAny_newObj_type ?_ (by size_fits)
  simp only [raiseNew]
  refine wpAny_bind (wpAny_handled ?_)
  first | rw [show A.in1.handled = none from hh] | rw [hh]
  refine wpAny_bind (wpAny_pure (wpAny_throw ?_))
  exact hE _ _ (((Heap.SameBut.update ..).extBut.push _).push _) ⟨_, Heap.get?_push_size _ rfl, rfl⟩
theorem nextOf_item {k : SK} {it l : Addr} {i : Nat} {items} {x : Value} {Q : Value → Shared → Prop} (hit : SIt k s.heap it l i) (hl : SIs k s.heap l items) (hx : items[i]? = some x)
    (hQ : ∀ h', SIt k h' it l (i + 1) → Heap.SameBut it s.heap h' → Q x { s with heap := h' }) : wpAny (model prog w) A (Builtin.SmallTypes.nextOf (.ref it)) Q E s := by
  cases k with
  | list => exact wpAny_nextOf_list_item hit hl hx hQ
  | tuple => exact nextOf_tuple_item hit hl hx hQ
theorem nextOf_end {k : SK} {it l : Addr} {i : Nat} {items} {Q : Value → Shared → Prop} (hh : A.handled = none) (hit : SIt k s.heap it l i) (hl : SIs k s.heap l items) (hx : items[i]? = none)
    (hE : ∀ h' e, Heap.ExtBut it s.heap h' → (∃ o, h'.get? e = some o ∧ o.cls = .type "StopIteration") → E (.ref e) { s with heap := h' }) :
    wpAny (model prog w) A (Builtin.SmallTypes.nextOf (.ref it)) Q E s := by
  cases k with
  | list => exact wpAny_nextOf_list_end hh hit hl hx hE
  | tuple => exact nextOf_tuple_end hh hit hl hx hE
theorem SIt.ext {k : SK} {h h' : Heap} {a b l i} (x : SIt k h a l i) (hs : Heap.ExtBut b h h') (hab : a ≠ b) : SIt k h' a l i := x.at fun o e => hs _ _ hab e
theorem SIs.ext {k : SK} {h h' : Heap} {a b items} (x : SIs k h a items) (hs : Heap.ExtBut b h h') (hab : a ≠ b) : SIs k h' a items := x.at fun o e => hs _ _ hab e
theorem zipS_item {k1 k2 : SK} {z TI TO i1 i2 l1 l2 : Addr} {n1 n2 : Nat} {xs ys : Array Value} {x y a b : Value} {Q : Value → Shared → Prop} (D : ZipApart z TI TO i1 i2 l1 l2)
    (hz : IsZip s.heap z TI TO .none) (hTI : IsPair s.heap TI (.ref i1) (.ref i2)) (hTO : IsPair s.heap TO a b)
    (h1 : SIt k1 s.heap i1 l1 n1) (h2 : SIt k2 s.heap i2 l2 n2) (hl1 : SIs k1 s.heap l1 xs) (hl2 : SIs k2 s.heap l2 ys) (hx : xs[n1]? = some x) (hy : ys[n2]? = some y)
    (hQ : ∀ h', IsZip h' z TI TO (rawInt s.heap.objs.size) → IsPair h' TO x y → SIt k1 h' i1 l1 (n1 + 1) → SIt k2 h' i2 l2 (n2 + 1) → IsPair h' s.heap.objs.size x y → h'.objs.size = s.heap.objs.size + 1 →
      (∀ c o, c ≠ z → c ≠ TO → c ≠ i1 → c ≠ i2 → s.heap.get? c = some o → h'.get? c = some o) → Q (.ref s.heap.objs.size) { s with heap := h' }) :
    wpAny (model prog w) A (Builtin.«zip.__next__» ⟨[.ref z], []⟩) (fun fin s' => ∃ v, fin = .done (.ret v) ∧ Q v s') E s := by
  show wpAny _ _ (field (.ref z) 2 >>= _) _ _ _
  refine wpAny_bind (wpAny_field hz rfl (x := .bool false) rfl ?_)
  show wpAny _ _ (field (.ref z) 3 >>= _) _ _ _
  refine wpAny_bind (wpAny_field hz rfl (x := .ref TI) rfl ?_)
  refine wpAny_bind (wpAny_seqItems hTI rfl ?_)
  show wpAny _ _ (Builtin.SmallTypes.ownedTupleIsFree (.ref z) >>= _) _ _ _
  refine wpAny_bind ?_
  unfold Builtin.SmallTypes.ownedTupleIsFree
  refine wpAny_bind (wpAny_field hz rfl (x := .none) rfl (wpAny_pure ?_))
  simp only [if_true]
  refine wpAny_bind (wpAny_rule ?_)
  refine wpAny_bind (wpAny_field hz rfl (x := .ref TO) rfl ?_)
  refine wpAny_bind (wpAny_setField_rec hz (by simp) fun h₁ hz₁ hs₁ => ?_)
  replace hz₁ : IsZip h₁ z TI TO .ellipsis := hz₁
  refine wpAny_bind ?_
  simp only [List.zipIdx_cons, List.zipIdx_nil, List.forIn_cons, List.forIn_nil]
  refine wpAny_bind (wpAny_bind (wpAny_onRaise ?_))
  show wpAny _ _ (Builtin.SmallTypes.nextOf (.ref i1) >>= _) _ _ _
  refine wpAny_bind (nextOf_item (h1.ext hs₁.extBut D.i1z) (hl1.ext hs₁.extBut D.l1z) hx fun h₂ h1₂ hs₂ => wpAny_pure ?_)
  have hTO₂ : IsPair h₂ TO a b := hs₂.extBut _ _ D.TOi1 (hs₁.extBut _ _ D.TOz hTO)
  refine wpAny_bind (wpAny_seqItems hTO₂ rfl ?_)
  refine wpAny_bind (wpAny_updateSeq_pair hTO₂ fun h₃ hTO₃ hs₃ => ?_)
  replace hTO₃ : IsPair h₃ TO x b := hTO₃
  refine wpAny_bind (wpAny_letGo (wpAny_pure ?_))
  refine wpAny_bind (wpAny_bind (wpAny_onRaise ?_))
  show wpAny _ _ (Builtin.SmallTypes.nextOf (.ref i2) >>= _) _ _ _
  refine wpAny_bind (nextOf_item (((h2.ext hs₁.extBut D.i2z).ext hs₂.extBut D.i12.symm).ext hs₃.extBut D.TOi2.symm)
    (((hl2.ext hs₁.extBut D.l2z).ext hs₂.extBut D.l2i1).ext hs₃.extBut D.l2TO) hy fun h₄ h2₄ hs₄ => wpAny_pure ?_)
  have hTO₄ : IsPair h₄ TO x b := hs₄.extBut _ _ D.TOi2 hTO₃
  refine wpAny_bind (wpAny_seqItems hTO₄ rfl ?_)
  refine wpAny_bind (wpAny_updateSeq_pair hTO₄ fun h₅ hTO₅ hs₅ => ?_)
  replace hTO₅ : IsPair h₅ TO x y := hTO₅
  refine wpAny_bind (wpAny_letGo (wpAny_pure (wpAny_pure ?_)))
  refine wpAny_bind (wpAny_seqItems hTO₅ rfl ?_)
  refine wpAny_bind (wpAny_newTuple ?_)
  have hsz : h₅.objs.size = s.heap.objs.size := by rw [hs₅.1, hs₄.1, hs₃.1, hs₂.1, hs₁.1]
  have hz₅ : IsZip h₅ z TI TO .ellipsis := hs₅.extBut _ _ D.TOz.symm (hs₄.extBut _ _ D.i2z.symm (hs₃.extBut _ _ D.TOz.symm (hs₂.extBut _ _ D.i1z.symm hz₁)))
  have hk₅ : ∀ c o, c ≠ z → c ≠ TO → c ≠ i1 → c ≠ i2 → s.heap.get? c = some o → h₅.get? c = some o := fun c o c1 c2 c3 c4 e =>
    hs₅.extBut _ _ c2 (hs₄.extBut _ _ c4 (hs₃.extBut _ _ c2 (hs₂.extBut _ _ c3 (hs₁.extBut _ _ c1 e))))
  have h1₅ : SIt k1 h₅ i1 l1 (n1 + 1) := ((h1₂.ext hs₃.extBut D.TOi1.symm).ext hs₄.extBut D.i12).ext hs₅.extBut D.TOi1.symm
  have h2₅ : SIt k2 h₅ i2 l2 (n2 + 1) := h2₄.ext hs₅.extBut D.TOi2.symm
  have hzlt : z < h₅.objs.size := Heap.lt_size hz₅
  show wpAny _ _ (Builtin.SmallTypes.ownedTupleHandOut (.ref z) (.ref h₅.objs.size) >>= _) _ _ _
  refine wpAny_bind ?_
  unfold Builtin.SmallTypes.ownedTupleHandOut
  have hz₆ : IsZip (h₅.push { cls := .type "tuple", data := .seq #[x, y] }) z TI TO .ellipsis := Heap.get?_push_of_some _ hz₅
  refine wpAny_bind (wpAny_setField_rec hz₆ (by simp) fun h₇ hz₇ hs₇ => ?_)
  replace hz₇ : IsZip h₇ z TI TO (rawInt h₅.objs.size) := hz₇
  refine wpAny_setField_rec hz₇ (by simp) fun h₈ hz₈ hs₈ => ?_
  replace hz₈ : IsZip h₈ z TI TO (rawInt h₅.objs.size) := hz₈
  have up : ∀ c o, c ≠ z → h₅.get? c = some o → h₈.get? c = some o := fun c o c1 e => hs₈.extBut _ _ c1 (hs₇.extBut _ _ c1 (Heap.get?_push_of_some _ e))
  have hT₈ : IsPair h₈ h₅.objs.size x y := hs₈.extBut _ _ (Nat.ne_of_gt hzlt) (hs₇.extBut _ _ (Nat.ne_of_gt hzlt) (Heap.get?_push_size _ rfl))
  have hz8 : h₈.objs.size = h₅.objs.size + 1 := by rw [hs₈.1, hs₇.1, Heap.size_push]
  rw [hsz] at hz₈ hT₈ hz8
  refine wpAny_pure ⟨_, rfl, ?_⟩
  show Q (.ref h₅.objs.size) _
  rw [hsz]
  exact hQ h₈ hz₈ (up _ _ D.TOz hTO₅) (h1₅.at fun o e => up _ o D.i1z e) (h2₅.at fun o e => up _ o D.i2z e) hT₈ hz8 fun c o c1 c2 c3 c4 e => up c o c1 (hk₅ c o c1 c2 c3 c4 e)
theorem zipS_end {k1 k2 : SK} {z TI TO i1 i2 l1 l2 : Addr} {n1 n2 : Nat} {xs ys : Array Value} {a b : Value} {Q : Fin → Shared → Prop} (hh : A.handled = none) (D : ZipApart z TI TO i1 i2 l1 l2)
    (hz : IsZip s.heap z TI TO .none) (hTI : IsPair s.heap TI (.ref i1) (.ref i2)) (hTO : IsPair s.heap TO a b)
    (h1 : SIt k1 s.heap i1 l1 n1) (h2 : SIt k2 s.heap i2 l2 n2) (hl1 : SIs k1 s.heap l1 xs) (hl2 : SIs k2 s.heap l2 ys) (hend : xs[n1]? = none ∨ ys[n2]? = none)
    (hE : ∀ h' e, (∀ c o, c ≠ z → c ≠ TO → c ≠ i1 → c ≠ i2 → s.heap.get? c = some o → h'.get? c = some o) → (∃ o, h'.get? e = some o ∧ o.cls = .type "StopIteration") → E (.ref e) { s with heap := h' }) :
    wpAny (model prog w) A (Builtin.«zip.__next__» ⟨[.ref z], []⟩) Q E s := by
  show wpAny _ _ (field (.ref z) 2 >>= _) _ _ _
  refine wpAny_bind (wpAny_field hz rfl (x := .bool false) rfl ?_)
  show wpAny _ _ (field (.ref z) 3 >>= _) _ _ _
  refine wpAny_bind (wpAny_field hz rfl (x := .ref TI) rfl ?_)
  refine wpAny_bind (wpAny_seqItems hTI rfl ?_)
  show wpAny _ _ (Builtin.SmallTypes.ownedTupleIsFree (.ref z) >>= _) _ _ _
  refine wpAny_bind ?_
  unfold Builtin.SmallTypes.ownedTupleIsFree
  refine wpAny_bind (wpAny_field hz rfl (x := .none) rfl (wpAny_pure ?_))
  simp only [if_true]
  refine wpAny_bind (wpAny_rule ?_)
  refine wpAny_bind (wpAny_field hz rfl (x := .ref TO) rfl ?_)
  refine wpAny_bind (wpAny_setField_rec hz (by simp) fun h₁ hz₁ hs₁ => ?_)
  replace hz₁ : IsZip h₁ z TI TO .ellipsis := hz₁
  refine wpAny_bind ?_
  simp only [List.zipIdx_cons, List.zipIdx_nil, List.forIn_cons, List.forIn_nil]
  refine wpAny_bind (wpAny_bind (wpAny_onRaise ?_))
  show wpAny _ _ (Builtin.SmallTypes.nextOf (.ref i1) >>= _) _ _ _
  cases hx : xs[n1]? with
  | none =>
    refine wpAny_bind (nextOf_end hh (h1.ext hs₁.extBut D.i1z) (hl1.ext hs₁.extBut D.l1z) hx fun h₂ e hs₂ he => ?_)
    obtain ⟨oe, hoe, hce⟩ := he
    have hz₂ : IsZip h₂ z TI TO .ellipsis := hs₂ _ _ D.i1z.symm hz₁
    have hez : e ≠ z := fun x => by subst x; rw [hz₂] at hoe; cases hoe; simp at hce
    refine wpAny_setField_rec hz₂ (by simp) fun h₃ _ hs₃ => hE h₃ e (fun c o c1 _ c3 _ x => hs₃.extBut _ _ c1 (hs₂ _ _ c3 (hs₁.extBut _ _ c1 x))) ⟨oe, hs₃.extBut _ _ hez hoe, hce⟩
  | some x =>
    have hy : ys[n2]? = none := by rcases hend with h | h; rw [hx] at h; cases h; exact h
    refine wpAny_bind (nextOf_item (h1.ext hs₁.extBut D.i1z) (hl1.ext hs₁.extBut D.l1z) hx fun h₂ h1₂ hs₂ => wpAny_pure ?_)
    have hTO₂ : IsPair h₂ TO a b := hs₂.extBut _ _ D.TOi1 (hs₁.extBut _ _ D.TOz hTO)
    refine wpAny_bind (wpAny_seqItems hTO₂ rfl ?_)
    refine wpAny_bind (wpAny_updateSeq_pair hTO₂ fun h₃ hTO₃ hs₃ => ?_)
    refine wpAny_bind (wpAny_letGo (wpAny_pure ?_))
    refine wpAny_bind (wpAny_bind (wpAny_onRaise ?_))
    show wpAny _ _ (Builtin.SmallTypes.nextOf (.ref i2) >>= _) _ _ _
    refine wpAny_bind (nextOf_end hh (((h2.ext hs₁.extBut D.i2z).ext hs₂.extBut D.i12.symm).ext hs₃.extBut D.TOi2.symm)
      (((hl2.ext hs₁.extBut D.l2z).ext hs₂.extBut D.l2i1).ext hs₃.extBut D.l2TO) hy fun h₄ e hs₄ he => ?_)
    obtain ⟨oe, hoe, hce⟩ := he
    have hz₄ : IsZip h₄ z TI TO .ellipsis := hs₄ _ _ D.i2z.symm (hs₃.extBut _ _ D.TOz.symm (hs₂.extBut _ _ D.i1z.symm hz₁))
    have hez : e ≠ z := fun x => by subst x; rw [hz₄] at hoe; cases hoe; simp at hce
    refine wpAny_setField_rec hz₄ (by simp) fun h₅ _ hs₅ => hE h₅ e (fun c o c1 c2 c3 c4 x => hs₅.extBut _ _ c1 (hs₄ _ _ c4 (hs₃.extBut _ _ c2 (hs₂.extBut _ _ c3 (hs₁.extBut _ _ c1 x))))) ⟨oe, hs₅.extBut _ _ hez hoe, hce⟩
end
end L2
namespace L2
open PySem PySem.Spec PyProof.Rows
section
variable {X : Cx} {pins : List (Addr × Obj)} {σ : List (Option V)} {H H' : Hp} {s : Shared} {h' : Heap}
theorem Inv.turnedL {t' : Nat} {its : List Addr} (I : Inv X pins σ H s) (k : ∀ b o, b ∉ its → s.heap.get? b = some o → h'.get? b = some o) (hf : ∀ b ∈ its, FpOk X pins H b) : Inv X pins σ H { s with heap := h', toks := t' } := by
  have nit : ∀ b u, H b = some u → b ∉ its := fun b u e z => by rw [(hf b z).1] at e; cases e
  refine I.step (g' := s.gens) (d' := s.drawn) (ch := its) (fun b hb => ?_) (fun b o _ _ hc e _ => k b o hc e) (fun b o _ _ hc e _ => ⟨o.slots, k b o hc e⟩) (fun _ _ _ _ n => n)
    (fun b o hc e => ⟨o, k b o hc e⟩) (fun _ _ e => e) (fun _ _ _ e => e) (fun b ps e => ⟨#[], by rw [e]; simp⟩) (fun m hm => ?_) (fun b u e => ?_) I.bare
  · obtain ⟨f0, f1, f2, f3, f4, f5⟩ := hf b hb
    exact ⟨f3, f1, f4, f5⟩
  · obtain ⟨o, es, ep, ho, r⟩ := hm
    exact ⟨o, es, ep, k _ o (fun z => (hf _ z).2.1 rfl) ho, r⟩
  · refine (I.hok b u e).stay (fun c v hc q => k c v ?_ q) (fun _ q => q) fun _ _ q => q
    rcases hc with z | z
    · rw [z]; exact nit b u e
    · exact nit c _ z
theorem Inv.turnedNew {t' : Nat} {its : List Addr} {T : Addr} {o : HO} (I : Inv X pins σ H s) (k : ∀ b ob, b ∉ its → s.heap.get? b = some ob → h'.get? b = some ob) (hf : ∀ b ∈ its, FpOk X pins H b)
    (hT : s.heap.objs.size ≤ T) (new : ObjOk X.prog X.w (upd H T o) h' T o) : Inv X pins σ (upd H T o) { s with heap := h', toks := t' } := by
  have nit : ∀ b u, H b = some u → b ∉ its := fun b u e z => by rw [(hf b z).1] at e; cases e
  have hn : H T = none := I.hok.fresh hT
  have neT : ∀ b ob, s.heap.get? b = some ob → b ≠ T := fun b ob e => Nat.ne_of_lt (Nat.lt_of_lt_of_le (Heap.lt_size e) hT)
  have up : ∀ b u, H b = some u → upd H T o b = some u := fun b u e => by rw [upd_ne (ne_of_none e hn)]; exact e
  refine I.step (g' := s.gens) (d' := s.drawn) (ch := its) (fun b hb => ?_) (fun b ob _ _ hc e _ => k b ob hc e) (fun b ob _ _ hc e _ => ⟨ob.slots, k b ob hc e⟩) (fun b ob _ e n => by rw [upd_ne (neT b ob e)]; exact n)
    (fun b ob hc e => ⟨ob, k b ob hc e⟩) (fun b _ e => up b _ e) (fun b _ _ e => up b _ e) (fun b ps e => ⟨#[], by rw [up b _ e]; simp⟩) (fun m hm => ?_) (fun b u e => ?_) I.bare
  · obtain ⟨f0, f1, f2, f3, f4, f5⟩ := hf b hb
    exact ⟨f3, f1, f4, f5⟩
  · obtain ⟨ob, es, ep, ho, r⟩ := hm
    exact ⟨ob, es, ep, k _ ob (fun z => (hf _ z).2.1 rfl) ho, r⟩
  · by_cases hb : b = T
    · subst hb; rw [upd_same] at e; cases e; exact new
    · rw [upd_ne hb] at e
      refine (I.hok b u e).stay (fun c v hc q => k c v ?_ q) (fun c q => up c _ q) fun c xs q => up c _ q
      rcases hc with z | z
      · rw [z]; exact nit b u e
      · exact nit c _ z
end
theorem Inv.sis {X : Cx} {pins : List (Addr × Obj)} {σ : St} {H : Hp} {s : Shared} {k : SK} {a : Addr} {xs : List V} (I : Inv X pins σ H s) (h : Sq k X.K H a xs) : ∃ its : List Value, Vals xs its ∧ SIs k s.heap a its.toArray := by
  cases k with
  | list => obtain ⟨its, r, p, _⟩ := I.list h; exact ⟨its, r, p.isList⟩
  | tuple => obtain ⟨its, r, p, _⟩ := I.tuple h; exact ⟨its, r, (show s.heap.IsTuple a its.toArray from p)⟩
theorem Inv.sq_inj {X : Cx} {pins : List (Addr × Obj)} {σ : St} {H : Hp} {s : Shared} {k : SK} {a : Addr} {xs ys : List V} (I : Inv X pins σ H s) (h : Sq k X.K H a xs) (h' : Sq k X.K H a ys) : xs = ys := by
  cases k with
  | list => exact I.list_inj h h'
  | tuple => exact I.tuple_inj h h'
def Itz (K : PySem.W.Frag) (k1 k2 : SK) (a b : Addr) : It :=
  ⟨fun i H => ∃ xs ys x y, Sq k1 K H a xs ∧ Sq k2 K H b ys ∧ xs[i]? = some x ∧ ys[i]? = some y,
   fun i H v H' => ∃ T, H T = none ∧ v = .ref T ∧ ∀ xs ys, Sq k1 K H a xs → Sq k2 K H b ys → ∃ x y, xs[i]? = some x ∧ ys[i]? = some y ∧ H' = upd H T (.tup [x, y]),
   fun i H => ∃ xs ys, Sq k1 K H a xs ∧ Sq k2 K H b ys ∧ (xs.length ≤ i ∨ ys.length ≤ i)⟩
theorem turn_zip {P : Program} {w : World} {K : PySem.W.Frag} {elts : List Expr} {kk : Nat} {tpos : Pos} {k1 k2 : SK} {z TI TO i1 i2 a b : Addr} (D : ZipApart z TI TO i1 i2 a b) :
    Turn P w K (.Tuple elts kk tpos) (Itz K k1 k2 a b) [z, TI, TO, i1, i2] z (fun i h => IsZip h z TI TO .none ∧ IsPair h TI (.ref i1) (.ref i2) ∧ (∃ c d, IsPair h TO c d) ∧ SIt k1 h i1 a i ∧ SIt k2 h i2 b i) where
  mem := by simp
  obj := fun i h st b hb => by
    obtain ⟨hz, hTI, ⟨c, d, hTO⟩, h1, h2⟩ := st
    simp only [List.mem_cons, List.not_mem_nil, or_false] at hb
    rcases hb with rfl | rfl | rfl | rfl | rfl
    · exact ⟨_, hz, fun v q => nomatch q⟩
    · exact ⟨_, hTI, fun v q => nomatch q⟩
    · exact ⟨_, hTO, fun v q => nomatch q⟩
    · exact h1.obj
    · exact h2.obj
  keep := fun i h h' st k => by
    obtain ⟨hz, hTI, ⟨c, d, hTO⟩, h1, h2⟩ := st
    exact ⟨k _ (by simp) _ hz, k _ (by simp) _ hTI, ⟨c, d, k _ (by simp) _ hTO⟩, h1.at fun o e => k _ (by simp) o e, h2.at fun o e => k _ (by simp) o e⟩
  item := by
    intro X hP hw hK hc i pins s σ H E I hf st hg
    subst hP hw hK
    obtain ⟨hz, hTI, ⟨c, d, hTO⟩, h1, h2⟩ := st
    obtain ⟨xs, ys, x, y, q1, q2, hx, hy⟩ := hg
    obtain ⟨ix, rx, px⟩ := I.sis q1
    obtain ⟨iy, ry, py⟩ := I.sis q2
    obtain ⟨u, hu, ru⟩ := rx.get hx
    obtain ⟨v, hv, rv⟩ := ry.get hy
    have hT : s.TypeIs (.ref z) "zip" := ⟨_, hz, rfl⟩
    unfold pyNext
    refine wpAny_bind (wpAny_attempt (wpAny_callSpecial?_slot (name := Str.ofString "__next__") hT F.slot_zip_next
      (wpAny_call_entry F.slot_zip_next hT F.entry_zip_next
        (zipS_item D hz hTI hTO h1 h2 px py (x := u) (y := v) (by simpa using hu) (by simpa using hv) fun h' a1 a2 a3 a4 a5 a6 a7 => wpAny_pure ?_) (F.args_zip_next_1 _))))
    refine ⟨_, rfl, wpAny_letOwnedTupleGo_zip (s := { s with heap := h' }) a1 fun h'' b1 b2 => ?_⟩
    have zlt : z < s.heap.objs.size := Heap.lt_size hz
    have k2 : ∀ c o, c ∉ [z, TI, TO, i1, i2] → s.heap.get? c = some o → h''.get? c = some o := fun c o hc e => by
      simp only [List.mem_cons, List.not_mem_nil, or_false, not_or] at hc
      exact b2.extBut _ _ hc.1 (a7 c o hc.1 hc.2.2.1 hc.2.2.2.1 hc.2.2.2.2 e)
    have hT2 : IsPair h'' s.heap.objs.size u v := b2.extBut _ _ (Nat.ne_of_gt zlt) a5
    refine ⟨.ref s.heap.objs.size, upd H s.heap.objs.size (.tup [x, y]), I.turnedNew (t' := s.toks) (o := .tup [x, y]) k2 hf (Nat.le_refl _) ⟨by show 2 ≤ sizeLine; decide, [u, v], .cons ru (.cons rv .nil), ⟨_, hT2, rfl, _, rfl⟩⟩, rfl,
      ⟨_, I.hok.fresh (Nat.le_refl _), rfl, fun xs' ys' e1 e2 => ?_⟩, ⟨b1, ?_, ⟨_, _, b2.extBut _ _ D.TOz a2⟩, a3.at fun o e => b2.extBut _ _ D.i1z e, a4.at fun o e => b2.extBut _ _ D.i2z e⟩, fun b hb => ?_⟩
    · rw [I.sq_inj e1 q1, I.sq_inj e2 q2]
      exact ⟨x, y, hx, hy, rfl⟩
    · exact b2.extBut _ _ D.TIz (a7 _ _ D.TIz D.TITO D.TIi1 D.TIi2 hTI)
    · have blt : b < s.heap.objs.size := by
        simp only [List.mem_cons, List.not_mem_nil, or_false] at hb
        rcases hb with rfl | rfl | rfl | rfl | rfl
        · exact zlt
        · exact Heap.lt_size hTI
        · exact Heap.lt_size hTO
        · obtain ⟨o, e, _⟩ := h1.obj; exact Heap.lt_size e
        · obtain ⟨o, e, _⟩ := h2.obj; exact Heap.lt_size e
      rw [upd_ne (Nat.ne_of_lt blt)]
      exact (hf b hb).1
  done := by
    intro X hP hw hK hc i pins s σ H E I hf st hg
    subst hP hw hK
    obtain ⟨hz, hTI, ⟨c, d, hTO⟩, h1, h2⟩ := st
    obtain ⟨xs, ys, q1, q2, hl⟩ := hg
    obtain ⟨ix, rx, px⟩ := I.sis q1
    obtain ⟨iy, ry, py⟩ := I.sis q2
    have l1 := rx.length
    have l2 := ry.length
    have hend : ix.toArray[i]? = none ∨ iy.toArray[i]? = none := by
      rcases hl with h | h
      · exact .inl (by simp; omega)
      · exact .inr (by simp; omega)
    have hT : s.TypeIs (.ref z) "zip" := ⟨_, hz, rfl⟩
    unfold pyNext
    refine wpAny_bind (wpAny_attempt (wpAny_callSpecial?_slot (name := Str.ofString "__next__") hT F.slot_zip_next
      (wpAny_call_entry F.slot_zip_next hT F.entry_zip_next (zipS_end (I.ok.hd hc) D hz hTI hTO h1 h2 px py hend fun h' e hk he => ?_) (F.args_zip_next_1 _))))
    obtain ⟨o, ho, hc'⟩ := he
    refine wpAny_bind (wpAny_isInstance (T := "StopIteration") (b := true) ⟨o, ho, hc'⟩ isSubtype_stop ?_)
    refine wpAny_pure ⟨rfl, I.turnedL (t' := s.toks) (its := [z, TI, TO, i1, i2]) (fun b o hb e => ?_) hf⟩
    simp only [List.mem_cons, List.not_mem_nil, or_false, not_or] at hb
    exact hk b o hb.1 hb.2.2.1 hb.2.2.2.1 hb.2.2.2.2 e
  self := fun _ _ _ _ _ st h => wpAny_pyIter_zip st.1 h
end L2
namespace L2
open PySem PySem.Spec PyProof.Rows
def itObj (k : SK) (l : Addr) : Obj := match k with
  | .list => { cls := .type "list_iterator", data := .fields #[.ref l, .int 0 0] }
  | .tuple => { cls := .type "tuple_iterator", data := .fields #[.ref l, .int 0 0] }
theorem itObj_it {k : SK} {l it : Addr} {h : Heap} (e : h.get? it = some (itObj k l)) : SIt k h it l 0 := by
  cases k with
  | list => exact ⟨_, e, rfl, rfl⟩
  | tuple => exact ⟨_, e, rfl, rfl⟩
abbrev zS1 (h : Heap) (k1 : SK) (l1 : Addr) : Heap := h.push (itObj k1 l1)
abbrev zS2 (h : Heap) (k1 k2 : SK) (l1 l2 : Addr) : Heap := (zS1 h k1 l1).push (itObj k2 l2)
abbrev zS3 (h : Heap) (k1 k2 : SK) (l1 l2 : Addr) : Heap := (zS2 h k1 k2 l1 l2).push { cls := .type "tuple", data := .seq #[.ref h.objs.size, .ref (zS1 h k1 l1).objs.size] }
abbrev zS4 (h : Heap) (k1 k2 : SK) (l1 l2 : Addr) : Heap := (zS3 h k1 k2 l1 l2).push { cls := .type "tuple", data := .seq #[.none, .none] }
abbrev zS5 (h : Heap) (k1 k2 : SK) (l1 l2 : Addr) : Heap := (zS4 h k1 k2 l1 l2).push { cls := .type "zip", data := .fields #[.none, .bool false, .bool false, .ref (zS2 h k1 k2 l1 l2).objs.size, .ref (zS3 h k1 k2 l1 l2).objs.size] }
set_option maxHeartbeats 4000000 in
theorem meets_zipS_new (k1 k2 : SK) (l1 l2 : Addr) (xs ys : Array Value) :
    Meets (Builtin.«zip.__new__» ⟨[.type "zip", .ref l1, .ref l2], []⟩) (fun _ R s => SIs k1 s.heap l1 xs ∧ SIs k2 s.heap l2 ys ∧
      R (.ok (.ret (.ref (zS4 s.heap k1 k2 l1 l2).objs.size))) { s with heap := zS5 s.heap k1 k2 l1 l2 }) := by
  cases k1 with
  | list =>
    cases k2 with
    | list =>
      exact .of_wp fun prog w A R s h => by
        obtain ⟨hp, g, d, tk, os⟩ := s; obtain ⟨hl1, hl2, h⟩ := h
        have hsub := sub_zip
        have hL1 : Heap.IsList (Shared.heap ⟨hp, g, d, tk, os⟩) l1 xs := hl1
        have hL2 : Heap.IsList (Shared.heap ⟨hp.push { cls := .type "list_iterator", data := .fields #[.ref l1, .int 0 0] }, g, d, tk, os⟩) l2 ys := Heap.IsList.push hl2 _
        wp_walk using wpAny_pyIter_list hL1, wpAny_pyIter_list hL2
        exact ⟨_, rfl, h⟩
    | tuple =>
      exact .of_wp fun prog w A R s h => by
        obtain ⟨hp, g, d, tk, os⟩ := s; obtain ⟨hl1, hl2, h⟩ := h
        have hsub := sub_zip
        have hL1 : Heap.IsList (Shared.heap ⟨hp, g, d, tk, os⟩) l1 xs := hl1
        have hL2 : Heap.IsTuple (Shared.heap ⟨hp.push { cls := .type "list_iterator", data := .fields #[.ref l1, .int 0 0] }, g, d, tk, os⟩) l2 ys := SIs.at (k := .tuple) hl2 fun o e => Heap.get?_push_of_some _ e
        wp_walk using wpAny_pyIter_list hL1, wpAny_pyIter_tuple hL2
        exact ⟨_, rfl, h⟩
  | tuple =>
    cases k2 with
    | list =>
      exact .of_wp fun prog w A R s h => by
        obtain ⟨hp, g, d, tk, os⟩ := s; obtain ⟨hl1, hl2, h⟩ := h
        have hsub := sub_zip
        have hL1 : Heap.IsTuple (Shared.heap ⟨hp, g, d, tk, os⟩) l1 xs := hl1
        have hL2 : Heap.IsList (Shared.heap ⟨hp.push { cls := .type "tuple_iterator", data := .fields #[.ref l1, .int 0 0] }, g, d, tk, os⟩) l2 ys := SIs.at (k := .list) hl2 fun o e => Heap.get?_push_of_some _ e
        wp_walk using wpAny_pyIter_tuple hL1, wpAny_pyIter_list hL2
        exact ⟨_, rfl, h⟩
    | tuple =>
      exact .of_wp fun prog w A R s h => by
        obtain ⟨hp, g, d, tk, os⟩ := s; obtain ⟨hl1, hl2, h⟩ := h
        have hsub := sub_zip
        have hL1 : Heap.IsTuple (Shared.heap ⟨hp, g, d, tk, os⟩) l1 xs := hl1
        have hL2 : Heap.IsTuple (Shared.heap ⟨hp.push { cls := .type "tuple_iterator", data := .fields #[.ref l1, .int 0 0] }, g, d, tk, os⟩) l2 ys := SIs.at (k := .tuple) hl2 fun o e => Heap.get?_push_of_some _ e
        wp_walk using wpAny_pyIter_tuple hL1, wpAny_pyIter_tuple hL2
        exact ⟨_, rfl, h⟩
section
variable {prog : Program} {w : World} {A : Around} {E : Value → Shared → Prop} {s : Shared}
theorem call_zipS {k1 k2 : SK} {l1 l2 : Addr} {xs ys : Array Value} {Q : Value → Shared → Prop} (hl1 : SIs k1 s.heap l1 xs) (hl2 : SIs k2 s.heap l2 ys)
    (h : ∀ h', IsZip h' (s.heap.objs.size + 4) (s.heap.objs.size + 2) (s.heap.objs.size + 3) .none → IsPair h' (s.heap.objs.size + 2) (.ref s.heap.objs.size) (.ref (s.heap.objs.size + 1)) →
      IsPair h' (s.heap.objs.size + 3) .none .none → SIt k1 h' s.heap.objs.size l1 0 → SIt k2 h' (s.heap.objs.size + 1) l2 0 →
      (∀ c o, s.heap.get? c = some o → h'.get? c = some o) → Q (.ref (s.heap.objs.size + 4)) { s with heap := h' }) :
    wpAny (model prog w) A (call (.type "zip") [.ref l1, .ref l2]) Q E s := by
  refine callType_new F.called_zip (by decide) (F.typeCall_zip_2 _ _) (F.newCall_zip_2 _ _) (fun obj => F.args_object_init_3 obj _ _) F.entry_zip_new
    (meets_zipS_new k1 k2 l1 l2 xs ys) ⟨hl1, hl2, ?_⟩
  have z1 : (zS1 s.heap k1 l1).objs.size = s.heap.objs.size + 1 := Heap.size_push ..
  have z2 : (zS2 s.heap k1 k2 l1 l2).objs.size = s.heap.objs.size + 2 := by rw [Heap.size_push, z1]
  have z3 : (zS3 s.heap k1 k2 l1 l2).objs.size = s.heap.objs.size + 3 := by rw [Heap.size_push, z2]
  have z4 : (zS4 s.heap k1 k2 l1 l2).objs.size = s.heap.objs.size + 4 := by rw [Heap.size_push, z3]
  have r1 : (itObj k1 l1).isFreed = false := by cases k1 <;> rfl
  have r2 : (itObj k2 l2).isFreed = false := by cases k2 <;> rfl
  have g5 : (zS5 s.heap k1 k2 l1 l2).get? (zS4 s.heap k1 k2 l1 l2).objs.size = some _ := Heap.get?_push_size _ rfl
  have g4 : (zS5 s.heap k1 k2 l1 l2).get? (zS3 s.heap k1 k2 l1 l2).objs.size = some _ := Heap.get?_push_of_some _ (Heap.get?_push_size _ rfl)
  have g3 : (zS5 s.heap k1 k2 l1 l2).get? (zS2 s.heap k1 k2 l1 l2).objs.size = some _ := Heap.get?_push_of_some _ (Heap.get?_push_of_some _ (Heap.get?_push_size _ rfl))
  have g2 : (zS5 s.heap k1 k2 l1 l2).get? (zS1 s.heap k1 l1).objs.size = some _ := Heap.get?_push_of_some _ (Heap.get?_push_of_some _ (Heap.get?_push_of_some _ (Heap.get?_push_size _ r2)))
  have g1 : (zS5 s.heap k1 k2 l1 l2).get? s.heap.objs.size = some _ := Heap.get?_push_of_some _ (Heap.get?_push_of_some _ (Heap.get?_push_of_some _ (Heap.get?_push_of_some _ (Heap.get?_push_size _ r1))))
  show _ ∧ _
  rw [z2, z3, z4] at g5
  rw [z1, z2] at g3
  rw [z3] at g4
  rw [z1] at g2
  rw [z4]
  exact ⟨⟨_, g5, rfl⟩, h _ g5 g3 g4 (itObj_it g1) (itObj_it g2) fun c o x =>
    Heap.get?_push_of_some _ (Heap.get?_push_of_some _ (Heap.get?_push_of_some _ (Heap.get?_push_of_some _ (Heap.get?_push_of_some _ x))))⟩
end
section
variable {X : Cx} {elts : List Expr} {kk : Nat} {tpos : Pos}
def iZip (K : PySem.W.Frag) (k1 k2 : SK) (ta : TA) : TI := fun σ H R => ta σ H fun vs H1 => ∃ a b, vs = [.ref a, .ref b] ∧ (∃ xs, Sq k1 K H1 a xs) ∧ (∃ ys, Sq k2 K H1 b ys) ∧ R (Itz K k1 k2 a b) H1
theorem pi_zip (k1 k2 : SK) {a b : Expr} {ta : TA} {p pos : Pos} (hg : Gl X "zip") (hm : X.mg "zip" = none) (ha : PA X [a, b] ta) (hs : starEach [a, b] X.env = [(false, eval a X.env), (false, eval b X.env)] := by rfl) (hs2 : starEach [b] X.env = [(false, eval b X.env)] := by rfl) :
    PI X (.Tuple elts kk tpos) (.Call (.Name "zip" p) [a, b] [] pos) (iZip X.K k1 k2 ta) := by
  intro pins s σ H R I h
  refine Call_ (ld_blt I hg hm boot_zip (PyProof.Rows.callWith_type1 (thn (ha pos pins s σ H _ I h) fun us s1 ⟨vs, H1, I1, r1, q1⟩ => ?_) (by rw [hs, hs2]) (by rw [hs2]; rfl)))
  obtain ⟨a', b', e, ⟨xs, qx⟩, ⟨ys, qy⟩, q⟩ := q1
  subst e
  obtain ⟨u, v, rfl, ru, rv⟩ := vals2 r1
  cases ru
  cases rv
  obtain ⟨ix, rx, px⟩ := I1.sis qx
  obtain ⟨iy, ry, py⟩ := I1.sis qy
  refine call_zipS px py fun h' b1 b2 b3 b4 b5 b6 => wpAny_pyIter_zip (s := { s1 with heap := h' }) b1 ?_
  have nn : ∀ b, s1.heap.objs.size ≤ b → FpOk X pins H1 b := fun b hb => I1.fpOk hb (I1.hok.fresh hb)
  refine ⟨_, [s1.heap.objs.size + 4, s1.heap.objs.size + 2, s1.heap.objs.size + 3, s1.heap.objs.size, s1.heap.objs.size + 1], _, _, H1, rfl, I1.kept (t' := s1.toks) b6, turn_zip (k1 := k1) (k2 := k2) (zipApart_new px.lt py.lt), ⟨b1, b2, ⟨_, _, b3⟩, b4, b5⟩, fun b hb => ?_, q⟩
  simp only [List.mem_cons, List.not_mem_nil, or_false] at hb
  rcases hb with rfl | rfl | rfl | rfl | rfl
  · exact nn _ (Nat.le_add_right _ _)
  · exact nn _ (Nat.le_add_right _ _)
  · exact nn _ (Nat.le_add_right _ _)
  · exact nn _ (Nat.le_refl _)
  · exact nn _ (Nat.le_add_right _ _)
theorem loop_zip {K : PySem.W.Frag} {k1 k2 : SK} {a b : Addr} {xs ys : List V} {g : TG} {tb : TS} {D : Ends} {σ : St} {H : Hp} (Pv : Nat → St → Hp → Prop) (h0 : Pv 0 σ H)
    (hl : ∀ i σ H, i ≤ min xs.length ys.length → Pv i σ H → Sq k1 K H a xs ∧ Sq k2 K H b ys)
    (hs : ∀ i x y σ H T, xs[i]? = some x → ys[i]? = some y → Pv i σ H → H T = none → g (.ref T) σ (upd H T (.tup [x, y])) fun σ2 H2 => tb { D with nx := Pv (i + 1), ct := Pv (i + 1), bk := D.nx } σ2 H2)
    (hd : ∀ σ H, Pv (min xs.length ys.length) σ H → D.nx σ H) : Loop (Itz K k1 k2 a b) g tb D σ H := by
  refine ⟨fun i m σ H => m = min xs.length ys.length - i ∧ i ≤ min xs.length ys.length ∧ Pv i σ H, ⟨min xs.length ys.length, by simp, Nat.zero_le _, h0⟩, ?_⟩
  rintro i m σ H ⟨rfl, hi, p⟩
  obtain ⟨q1, q2⟩ := hl i σ H hi p
  by_cases hlt : i < min xs.length ys.length
  · have l1 : i < xs.length := by omega
    have l2 : i < ys.length := by omega
    refine .inr ⟨⟨xs, ys, xs[i], ys[i], q1, q2, by simp [l1], by simp [l2]⟩, Pv (i + 1), fun σ' H' p' => ⟨min xs.length ys.length - (i + 1), by omega, rfl, hlt, p'⟩, fun x H' y => ?_⟩
    obtain ⟨T, hT, rfl, y⟩ := y
    obtain ⟨u, v, e1, e2, rfl⟩ := y xs ys q1 q2
    exact hs i u v σ H T e1 e2 p hT
  · have e : i = min xs.length ys.length := by omega
    refine .inl ⟨⟨xs, ys, q1, q2, by omega⟩, ?_⟩
    subst e
    exact hd σ H p
end
end L2

namespace L2
open PySem PySem.Spec PyProof.Rows PySem.Builtin PySem.Builtin.Str
section
variable {X : Cx}
def rSlS : V → Option Int → Option Int → Hp → VK → Prop := fun x lo hi H Q => ∃ z, x = .str z ∧ z.length ≤ sizeLine ∧ Q (.str (Txt.slice z lo hi)) H
def rMulS : R2 := fun x y H Q => ∃ c n, x = .str ⟨#[c]⟩ ∧ y = .int n ∧ 1 ≤ n ∧ n ≤ 1000 ∧ ∀ z : Str, z.cps.toList = List.replicate n.toNat c → Q (.str z) H
def rJoin (K : PySem.W.Frag) : V → List V → Hp → VK → Prop := fun x vs H Q => ∃ sep p ys, x = .str sep ∧ vs = [.ref p] ∧ SqL K H p (ys.map V.str) ∧ (ys.map (·.length)).sum + ys.length * sep.length ≤ 16777216 ∧ Q (.str (Str.join sep ys)) H
def rSplit : V → List V → Hp → VK → Prop := fun x vs H Q => ∃ z y, x = .str z ∧ vs = [.str y] ∧ y.length ≠ 0 ∧ z.length + 2 ≤ sizeLine ∧ ∀ p, H p = none → Q (.ref p) (upd H p (.lst ((Txt.split z y).map V.str)))
def rIsT (K : PySem.W.Frag) : List V → Hp → VK → Prop := fun xs H Q => ∃ x T t b, xs = [x, .ty T] ∧ TyOf K H x t ∧ PySem.W.kitOne K t (.type T) = some b ∧ Q (.bl b) H
theorem call_isT : CallR X (.builtin "isinstance") (rIsT X.K) := by
  intro pins s σ H xs us Q I r h
  obtain ⟨x, T, t, b, rfl, ty, e, q⟩ := h
  obtain ⟨u, v, rfl, ru, rv⟩ := vals2 r
  cases rv
  exact isinst_ok I ru ty e fun tk => ⟨.bl b, H, I.tok _, rfl, q⟩
example (K : PySem.W.Frag) : PySem.W.kitOne K (.type "int") (.type "int") = some true := rfl
example (K : PySem.W.Frag) : PySem.W.kitOne K (.type "str") (.type "int") = some false := rfl
example (K : PySem.W.Frag) : PySem.W.kitOne K (.type "tuple") (.type "int") = some false := rfl
example (K : PySem.W.Frag) : PySem.W.kitOne K (.type "bool") (.type "int") = some true := rfl
end
end L2
namespace L2
open PySem PySem.Spec PyProof.Rows
end L2

namespace L2
open PySem PySem.Spec PyProof.Rows
def ent (w : World) (x : Str × Tok × Value) : DictEntry := ⟨hashStr w x.1, .str x.1 x.2.1, x.2.2⟩
structure KD (P : Program) (w : World) (K : PySem.W.Frag) (a : Addr) (kvs : List (Key × V)) : Prop where
  ex : ∃ (o : Obj) (es : Array DictEntry) (ep : Nat) (vs : List (Key × Value)), K.lookup a = some o ∧ o.ExactDict ∧ o.data = .dict es ep ∧ KeysOf (mixKind P w) es ∧ Pairs (mixKind P w) es.toList vs ∧ (vs.map (·.1)).Nodup ∧ KV kvs vs
  ns : (a == sysModules) = false
def DK (P : Program) (w : World) (K : PySem.W.Frag) (H : Hp) (a : Addr) (kvs : List (Key × V)) : Prop := Rd H a (.dK kvs) ∨ KD P w K a kvs
theorem Inv.dict {X : Cx} {pins : List (Addr × Obj)} {σ : St} {H : Hp} {s : Shared} {a : Addr} {kvs : List (Key × V)} (I : Inv X pins σ H s) (h : DK X.prog X.w X.K H a kvs) :
    (a == sysModules) = false ∧ ∃ vs, KV kvs vs ∧ s.heap.DictOf (mixKind X.prog X.w) a vs := by
  rcases h with h | h
  · obtain ⟨_, b, c⟩ := dk_rd I.hok h
    exact ⟨b, c⟩
  · obtain ⟨o, es, ep, vs, h1, h2, h3, h4, h5, h6, h7⟩ := h.ex
    exact ⟨h.ns, vs, h7, o, es, ep, I.kIn a o h1, h2, h3, h4, h5, h6⟩
theorem dictOf_type {P : Program} {w : World} {s : Shared} {a : Addr} {vs : List (Key × Value)} (d : s.heap.DictOf (mixKind P w) a vs) : s.TypeIs (.ref a) "dict" := by
  obtain ⟨o, es, ep, h1, h2, _⟩ := d
  exact ⟨o, h1, h2.1⟩
section
variable {X : Cx}
def rIxD (X : Cx) : R2 := fun x y H Q => ∃ a kvs k v, x = .ref a ∧ y = kV k ∧ DK X.prog X.w X.K H a kvs ∧ valV kvs k = some v ∧ Q v H
theorem pe_ixD {o i : Expr} {td ty : TE} {pos : Pos} (ho : PE X o td) (hi : PE X i ty) (hs : NoSl i) : PE X (.Subscript o i pos) (tOp (rIxD X) td ty) := by
  intro pins s σ H Q I h
  refine subD_of PySem.F.slot_dict_getitem.lookup hs (thn (ho pins s σ H _ I h) fun u s1 ⟨x, H1, I1, rx, q1⟩ => thn (hi pins s1 σ H1 _ I1 q1) fun iv s2 ⟨y, H2, I2, ry, q2⟩ => ?_)
  obtain ⟨a, kvs, k, v, rfl, rfl, dk, hv, q⟩ := q2
  obtain rfl : u = Value.ref a := rx
  obtain ⟨_, vs, rel, dd⟩ := I2.dict dk
  obtain ⟨w', hw, rw'⟩ := RelO.some_of (v := v) (o := valueAt vs k) (by rw [← hv]; exact rel.val k)
  exact ⟨dictOf_type dd, wpAny_getItem_of (kV_is ry) dd.mapOf hw ⟨v, H2, I2.tok _, rw', q⟩⟩
def rInD (X : Cx) (neg : Bool) : R2 := fun x y H Q => ∃ a kvs k, y = .ref a ∧ x = kV k ∧ DK X.prog X.w X.K H a kvs ∧ Q (.bl (if neg then !(valV kvs k).isSome else (valV kvs k).isSome)) H
theorem op_notIn_dict : OpR X (compareOp .NotIn) (rInD X true) := by
  intro pins s σ H x y v u Q I rx ry h
  obtain ⟨a, kvs, k, rfl, rfl, dk, q⟩ := h
  obtain rfl : u = Value.ref a := ry
  obtain ⟨hd, vs, rel, dd⟩ := I.dict dk
  refine wpAny_notIn_of (kV_is rx) hd dd.mapOf ?_
  rw [← (rel.val k).isSome_eq]
  exact ⟨.bl (!(valV kvs k).isSome), H, I.tok _, rfl, q⟩
end
theorem kd_of {P : Program} {w : World} {K : PySem.W.Frag} {a : Addr} {od : Option Addr} {ep : Nat} {sl : Array (Option Value)} {es : Array DictEntry} (xs : List (Str × Tok × Value)) (vs : List V)
    (l : K.lookup a = some ⟨.type "dict", od, .dict es ep, sl⟩) (he : es.toList = xs.map (ent w)) (hx : (⟨.type "dict", od, .dict es ep, sl⟩ : Obj).ExactDict) (ns : (a == sysModules) = false)
    (nd : (xs.map (·.1)).Nodup) (hv : Vals vs (xs.map (·.2.2))) : KD P w K a ((xs.map fun x => (Sum.inr x.1 : Key)).zip vs) := by
  refine ⟨⟨_, es, ep, xs.map fun x => (Sum.inr x.1, x.2.2), l, hx, rfl, ?_, ?_, ?_, ?_⟩, ns⟩
  · intro e h
    rw [← Array.mem_toList_iff, he] at h
    obtain ⟨x, hx, rfl⟩ := List.mem_map.mp h
    exact ⟨Sum.inr x.1, keyIs_str x.1 x.2.1, rfl⟩
  · rw [he]
    clear he nd hv l hx
    induction xs with
    | nil => exact .nil
    | cons x xs ih => exact .cons (keyIs_str x.1 x.2.1) rfl ih
  · rw [List.map_map]
    have e : (xs.map (fun x => (Sum.inr x.1 : Key))) = (xs.map (·.1)).map Sum.inr := by rw [List.map_map]; rfl
    show (xs.map (fun x => (Sum.inr x.1 : Key))).Nodup
    rw [e]
    exact List.Pairwise.map _ (fun a b h z => h (Sum.inr.inj z)) nd
  · clear he nd l hx
    induction xs generalizing vs with
    | nil => cases hv; exact .nil
    | cons x xs ih =>
      cases hv with
      | cons r rr => exact .cons ⟨rfl, r⟩ (ih _ rr)
end L2

namespace L2
open PySem PySem.Spec PyProof.Rows
structure Pr (p : Prop) : Prop where
  h : p
section
variable {X : Cx}
theorem qpe_var {i : Nat} {x : Str} {pos : Pos} (hN : X.N[i]? = some x) (hv : Vis X.env.scope x) (hd : (x == ("__debug__" : Str)) = false := by decide) (hcd : (x == ("__classdict__" : Str)) = false := by decide) : Pr (PE X (.Name x pos) (tVar i)) := ⟨pe_var hN hv hd hcd⟩
end
section
variable {X : Cx}
theorem qpe_int {i j pos} : Pr (PE X (.Constant (.int i) j pos) (tC (.int i))) := ⟨pe_int⟩
end
section
variable {X : Cx}
theorem qpe_bl {b j pos} : Pr (PE X (.Constant (.bool b) j pos) (tC (.bl b))) := ⟨pe_bl⟩
end
section
variable {X : Cx}
theorem qpe_non {j pos} : Pr (PE X (.Constant .none j pos) (tC .non)) := ⟨pe_non⟩
end
section
variable {X : Cx}
theorem qpe_str {x j pos} : Pr (PE X (.Constant (.str x) j pos) (tC (.str x))) := ⟨pe_str⟩
end
section
variable {X : Cx}
theorem qpe_glob {x : Str} {v : V} {u : Value} {pos : Pos} (hg : Gl X x) (hm : X.mg x = some u) (r : RelV v u) (hd : (x == ("__debug__" : Str)) = false := by decide) : Pr (PE X (.Name x pos) (tC v)) := ⟨pe_glob hg hm r hd⟩
end
section
variable {X : Cx}
theorem qpe_bltn {x : Str} {v : V} {u : Value} {pos : Pos} (hg : Gl X x) (hm : X.mg x = none) (hv : bootBuiltins x = some u) (r : RelV v u) (hn : x ≠ "__name__" := by decide) (hd : (x == ("__debug__" : Str)) = false := by decide) : Pr (PE X (.Name x pos) (tC v)) := ⟨pe_bltn hg hm hv r hn hd⟩
end
section
variable {X : Cx} {a b c : Expr} {ta tb tc : TE} {pos : Pos}
theorem qpe_op {op : Operator} {r : R2} (ho : OpR X (binaryOp op) r) (ha : Pr (PE X a ta)) (hb : Pr (PE X b tb)) : Pr (PE X (.BinOp a op b pos) (tOp r ta tb)) := ⟨pe_op ho ha.h hb.h⟩
end
section
variable {X : Cx} {a b c : Expr} {ta tb tc : TE} {pos : Pos}
theorem qpe_un {op : UnaryOp} {r : V → Hp → VK → Prop} (ho : UnR X (unaryOp op) r) (ha : Pr (PE X a ta)) : Pr (PE X (.UnaryOp op a pos) (tUn r ta)) := ⟨pe_un ho ha.h⟩
end
section
variable {X : Cx} {a b c : Expr} {ta tb tc : TE} {pos : Pos}
theorem qpe_cmpR {op : CmpOp} {r : R2} (ho : OpR X (compareOp op) r) (ha : Pr (PE X a ta)) (hb : Pr (PE X b tb)) (hm : behindInMarks op b = false) : Pr (PE X (.Compare a [op] [b] pos) (tOp r ta tb)) := ⟨pe_cmpR ho ha.h hb.h hm⟩
end
section
variable {X : Cx} {a b c : Expr} {ta tb tc : TE} {pos : Pos}
theorem qpe_chain {op op' : CmpOp} {r r' : R2} (ho : OpR X (compareOp op) r) (ho' : OpR X (compareOp op') r') (ha : Pr (PE X a ta)) (hb : Pr (PE X b tb)) (hc : Pr (PE X c tc)) (hm : lastMarks [op, op'] [b, c] = false := by with_unfolding_all rfl) : Pr (PE X (.Compare a [op, op'] [b, c] pos) (tChain r r' ta tb tc)) := ⟨pe_chain ho ho' ha.h hb.h hc.h hm⟩
end
section
variable {X : Cx}
variable {a b : Expr} {ta tb : TE} {pos : Pos}
variable {tA tB' : TT} {rest : List Expr}
theorem qpe_and (ha : Pr (PE X a ta)) (hb : Pr (PE X (.BoolOp .And (b :: rest) pos) tb)) : Pr (PE X (.BoolOp .And (a :: b :: rest) pos) (tAndV ta tb)) := ⟨pe_and ha.h hb.h⟩
end
section
variable {X : Cx}
variable {a b : Expr} {ta tb : TE} {pos : Pos}
variable {tA tB' : TT} {rest : List Expr}
end
section
variable {X : Cx}
variable {a b : Expr} {ta tb : TE} {pos : Pos}
variable {tA tB' : TT} {rest : List Expr}
theorem qpe_one {op} {t : TE} (h : Pr (PE X a t)) : Pr (PE X (.BoolOp op [a] pos) t) := ⟨pe_one h.h⟩
end
section
variable {X : Cx}
variable {a b : Expr} {ta tb : TE} {pos : Pos}
variable {tA tB' : TT} {rest : List Expr}
theorem qpe_not (ha : Pr (PE X a ta)) : Pr (PE X (.UnaryOp .Not a pos) (tNotV ta)) := ⟨pe_not ha.h⟩
end
section
variable {X : Cx}
variable {a b : Expr} {ta tb : TE} {pos : Pos}
variable {tA tB' : TT} {rest : List Expr}
theorem qpe_ifExp {c : Expr} (hc : Pr (PT X c tA)) (ha : Pr (PE X a ta)) (hb : Pr (PE X b tb)) : Pr (PE X (.IfExp c a b pos) (tIf tA ta tb)) := ⟨pe_ifExp hc.h ha.h hb.h⟩
end
section
variable {X : Cx} {e : Expr} {es : List Expr} {te : TE} {t : TA} {pos : Pos}
theorem qpe_tup {x1} (h : Pr (PA X es t)) : Pr (PE X (.Tuple es x1 pos) (tTup t)) := ⟨pe_tup h.h⟩
end
section
variable {X : Cx} {e : Expr} {es : List Expr} {te : TE} {t : TA} {pos : Pos}
theorem qpe_lst (h : Pr (PA X es t)) : Pr (PE X (.List es pos) (tLst t)) := ⟨pe_lst h.h⟩
end
section
variable {X : Cx} {e : Expr} {te : TE} {lo hi : Option Expr} {tl th : TO} {pos p2 : Pos}
theorem qpe_slice {r : V → Option Int → Option Int → Hp → VK → Prop} (hr : SlR X r) (he : Pr (PE X e te)) (hl : Pr (PO X lo tl)) (hu : Pr (PO X hi th)) : Pr (PE X (.Subscript e (.Slice lo hi none p2) pos) (tSl r te tl th)) := ⟨pe_slice hr he.h hl.h hu.h⟩
end
section
variable {X : Cx} {a b : Expr} {ta tb : TE} {pos : Pos}
theorem qpe_ix {r : R2} (hr : IxR X r) (ha : Pr (PE X a ta)) (hb : Pr (PE X b tb)) (hs : PlainIx b) : Pr (PE X (.Subscript a b pos) (tOp r ta tb)) := ⟨pe_ix hr ha.h hb.h hs⟩
end
section
variable {X : Cx}
theorem qpe_ixD {o i : Expr} {td ty : TE} {pos : Pos} (ho : Pr (PE X o td)) (hi : Pr (PE X i ty)) (hs : NoSl i) : Pr (PE X (.Subscript o i pos) (tOp (rIxD X) td ty)) := ⟨pe_ixD ho.h hi.h hs⟩
end
section
variable {X : Cx} {o e value : Expr} {f : Str} {pos pos' tpos : Pos} {ta tv : TE}
theorem qpe_fld (he : Pr (PE X e ta)) (hb : attributeBase e f X.env (eval e X.env) = eval e X.env) : Pr (PE X (.Attribute e f pos) (tFld X.K ta f)) := ⟨pe_fld he.h hb⟩
end
section
variable {X : Cx} {CX : CXT} {k : Nat} {ps : List Str} {sp : Sp} {E : XK} {x : Str} {p pos : Pos} {e : Expr} {es : List Expr} {t : TA}
theorem qpe_callD (D : DefOk X.prog X.w X.K X.mg X.base CX k x ps sp) (hr : Room k X.A) (hg : Gl X x) (hx : Passes CX X E) (ha : Pr (PA X (e :: es) t)) (hdb : (x == ("__debug__" : Str)) = false := by decide) (he : starEach (e :: es) X.env = (false, eval e X.env) :: starEach es X.env := by rfl) (hpl : (backTo pos (starEach es X.env)).any (·.1) = false := by rfl) : Pr (PE X (.Call (.Name x p) (e :: es) [] pos) (tCall sp [] E t)) := ⟨pe_callD D hr hg hx ha.h hdb he hpl⟩
end
section
variable {X : Cx} {CX : CXT} {k : Nat} {ps : List Str} {sp : Sp} {E : XK} {x : Str} {p pos : Pos} {e : Expr} {es : List Expr} {t : TA}
end
section
variable {X : Cx} {x : Str} {p pos : Pos} {e : Expr} {es : List Expr} {t : TA} {id T : String} {r : List V → Hp → VK → Prop}
theorem qpe_callB (hc : CallR X (.builtin id) r) (hg : Gl X x) (hm : X.mg x = none) (hv : bootBuiltins x = some (.builtin id)) (ha : Pr (PA X (e :: es) t)) (hn : x ≠ "__name__" := by decide) (hdb : (x == ("__debug__" : Str)) = false := by decide) (he : starEach (e :: es) X.env = (false, eval e X.env) :: starEach es X.env := by rfl) (hpl : (backTo pos (starEach es X.env)).any (·.1) = false := by rfl) : Pr (PE X (.Call (.Name x p) (e :: es) [] pos) (tCB r t)) := ⟨pe_callB hc hg hm hv ha.h hn hdb he hpl⟩
end
section
variable {X : Cx} {x : Str} {p pos : Pos} {e : Expr} {es : List Expr} {t : TA} {id T : String} {r : List V → Hp → VK → Prop}
theorem qpe_callTy (hc : CallR X (.type T) r) (hg : Gl X x) (hm : X.mg x = none) (hv : bootBuiltins x = some (.type T)) (ha : Pr (PA X (e :: es) t)) (hn : x ≠ "__name__" := by decide) (hdb : (x == ("__debug__" : Str)) = false := by decide) (he : starEach (e :: es) X.env = (false, eval e X.env) :: starEach es X.env := by rfl) (hpl : (backTo pos (starEach es X.env)).any (·.1) = false := by rfl) : Pr (PE X (.Call (.Name x p) (e :: es) [] pos) (tCB r t)) := ⟨pe_callTy hc hg hm hv ha.h hn hdb he hpl⟩
end
section
variable {X : Cx} {a b : Expr} {ta tb : TE} {pos : Pos}
variable {o e : Expr} {es : List Expr} {to : TE} {t : TA} {name : Str} {apos cpos : Pos} {T id : String} {r : V → List V → Hp → VK → Prop}
theorem qpe_bm (pa : PlainAttrs T) (slot : Slot T name id) (hty : typeOf (.builtin id) = pure (.type "method_descriptor")) (hm : MtR X id r) (ho : Pr (PE X o to)) (ha : Pr (PA X (e :: es) t)) (hbase : attributeBase o name X.env (eval o X.env) = eval o X.env := by rfl) (hfew : ((backTo cpos (starEach (e :: es) X.env)).all (fun x => !x.1) && (backToKw cpos (keywordEach [] X.env)).all (fun x => x.1.isSome)
      && decide ((e :: es).length + ([] : List Keyword).length + (if ([] : List Keyword).isEmpty then 0 else 1) < 30)) = true := by rfl) (hline : (apos.endLine == cpos.line) = true := by rfl) (hs : starEach (e :: es) X.env = (false, eval e X.env) :: starEach es X.env := by rfl) (hplain : (backTo cpos (starEach es X.env)).any (·.1) = false := by rfl) : Pr (PE X (.Call (.Attribute o name apos) (e :: es) [] cpos) (tBM X.K T r to t)) := ⟨pe_bm pa slot hty hm ho.h ha.h hbase hfew hline hs hplain⟩
end
section
variable {X : Cx} {a b c : Expr} {ta tb tc : TE} {pos : Pos}
theorem qpt_cmpR {op : CmpOp} {r : R2} (ho : OpR X (compareOp op) r) (ha : Pr (PE X a ta)) (hb : Pr (PE X b tb)) (hm : behindInMarks op b = false) : Pr (PT X (.Compare a [op] [b] pos) (tTest (tOp r ta tb))) := ⟨pt_cmpR ho ha.h hb.h hm⟩
end
section
variable {X : Cx} {a b c : Expr} {ta tb tc : TE} {pos : Pos}
end
section
variable {X : Cx}
variable {a b : Expr} {ta tb : TE} {pos : Pos}
variable {tA tB' : TT} {rest : List Expr}
theorem qpt_not (ha : Pr (PT X a tA)) : Pr (PT X (.UnaryOp .Not a pos) (tNot tA)) := ⟨pt_not ha.h⟩
end
section
variable {X : Cx}
variable {a b : Expr} {ta tb : TE} {pos : Pos}
theorem qpt_val {e : Expr} {t : TE} (h : Pr (PE X e t)) (he : ∀ whole, isTrue e X.env whole = (do let v ← whole; standAt e.pos; holding [v] (truthy v)) := by intro _; rfl) : Pr (PT X e (tB t)) := ⟨pt_val h.h he⟩
end
section
theorem qPW_pt {X : Cx} {e : Expr} {t : TT} (h : Pr (PW X e t)) : Pr (PT X e t) := ⟨PW.pt h.h⟩
end
section
variable {X : Cx}
variable {a b : Expr} {ta tb : TE} {pos : Pos}
variable {tA tB' : TT} {rest : List Expr}
theorem qpw_and (ha : Pr (PT X a tA)) (hb : Pr (PW X (.BoolOp .And (b :: rest) pos) tB')) : Pr (PW X (.BoolOp .And (a :: b :: rest) pos) (tAnd tA tB')) := ⟨pw_and ha.h hb.h⟩
end
section
variable {X : Cx}
variable {a b : Expr} {ta tb : TE} {pos : Pos}
variable {tA tB' : TT} {rest : List Expr}
theorem qpw_and1 (ha : Pr (PT X a tA)) : Pr (PW X (.BoolOp .And [a] pos) tA) := ⟨pw_and1 ha.h⟩
end
section
variable {X : Cx}
variable {a b : Expr} {ta tb : TE} {pos : Pos}
variable {tA tB' : TT} {rest : List Expr}
theorem qpw_or (ha : Pr (PT X a tA)) (hb : Pr (PW X (.BoolOp .Or (b :: rest) pos) tB')) : Pr (PW X (.BoolOp .Or (a :: b :: rest) pos) (tOr tA tB')) := ⟨pw_or ha.h hb.h⟩
end
section
variable {X : Cx}
variable {a b : Expr} {ta tb : TE} {pos : Pos}
variable {tA tB' : TT} {rest : List Expr}
theorem qpw_or1 (ha : Pr (PT X a tA)) : Pr (PW X (.BoolOp .Or [a] pos) tA) := ⟨pw_or1 ha.h⟩
end
section
variable {X : Cx} {e : Expr} {es : List Expr} {te : TE} {t : TA} {pos : Pos}
theorem qpa_nil  : Pr (PA X [] tNil) := ⟨pa_nil⟩
end
section
variable {X : Cx} {e : Expr} {es : List Expr} {te : TE} {t : TA} {pos : Pos}
theorem qpa_cons (ha : Pr (PE X e te)) (hr : Pr (PA X es t)) (hs : starEach (e :: es) X.env = (false, eval e X.env) :: starEach es X.env := by rfl) : Pr (PA X (e :: es) (tCons te t)) := ⟨pa_cons ha.h hr.h hs⟩
end
section
variable {X : Cx} {e : Expr} {te : TE} {lo hi : Option Expr} {tl th : TO} {pos p2 : Pos}
theorem qpo_none  : Pr (PO X none tNoPart) := ⟨po_none⟩
end
section
variable {X : Cx} {e : Expr} {te : TE} {lo hi : Option Expr} {tl th : TO} {pos p2 : Pos}
theorem qpo_some (h : Pr (PE X e te)) : Pr (PO X (some e) (tPart te)) := ⟨po_some h.h⟩
end
section
variable {X : Cx} {tg : Expr}
theorem qpi_list {l : Expr} {tl : TE} (hl : Pr (PE X l tl)) : Pr (PI X tg l (iList X.K tl)) := ⟨pi_list hl.h⟩
end
section
variable {X : Cx} {tg : Expr}
theorem qpi_tup {l : Expr} {tl : TE} (hl : Pr (PE X l tl)) : Pr (PI X tg l (iTup X.K tl)) := ⟨pi_tup hl.h⟩
end
section
variable {X : Cx} {tg : Expr}
theorem qpi_range1 {a : Expr} {ta : TA} {p pos : Pos} (hg : Gl X "range") (hm : X.mg "range" = none) (ha : Pr (PA X [a] ta)) (hs : starEach [a] X.env = [(false, eval a X.env)] := by rfl) : Pr (PI X tg (.Call (.Name "range" p) [a] [] pos) (iRng1 ta)) := ⟨pi_range1 hg hm ha.h hs⟩
end
section
variable {X : Cx} {tg : Expr}
end
section
variable {X : Cx} {elts : List Expr} {kk : Nat} {tpos : Pos}
theorem qpi_zip (k1 k2 : SK) {a b : Expr} {ta : TA} {p pos : Pos} (hg : Gl X "zip") (hm : X.mg "zip" = none) (ha : Pr (PA X [a, b] ta)) (hs : starEach [a, b] X.env = [(false, eval a X.env), (false, eval b X.env)] := by rfl) (hs2 : starEach [b] X.env = [(false, eval b X.env)] := by rfl) : Pr (PI X (.Tuple elts kk tpos) (.Call (.Name "zip" p) [a, b] [] pos) (iZip X.K k1 k2 ta)) := ⟨pi_zip k1 k2 hg hm ha.h hs hs2⟩
end
section
variable {X : Cx} {pos : Pos}
theorem qpg_name {i : Nat} {x : Str} (hN : X.N.Nodup) (hi : X.N[i]? = some x) (hx : Loc X.env.scope x) (hf : X.fn x = true ∨ X.env.scope.names.lookup x = some .local := by first | exact .inl rfl | exact .inr rfl | assumption) : Pr (PG X (.Name x pos) (gName i)) := ⟨pg_name hN hi hx hf⟩
end
section
variable {X : Cx} {pos : Pos}
theorem qpgs_nil  : Pr (PGs X [] gNil) := ⟨pgs_nil⟩
end
section
variable {X : Cx} {pos : Pos}
theorem qpgs_cons {e : Expr} {es : List Expr} {t : TG} {u : TGs} (h1 : Pr (PG X e t)) (h2 : Pr (PGs X es u)) (hs : (assignEach (e :: es) X.env).map (·.2) = assign e X.env :: (assignEach es X.env).map (·.2) := by rfl) : Pr (PGs X (e :: es) (gCons t u)) := ⟨pgs_cons h1.h h2.h hs⟩
end
section
variable {X : Cx} {pos : Pos}
theorem qpg_tup {es : List Expr} {k : Nat} {t : TGs} {n : Nat} (hc : X.calm = true) (h : Pr (PGs X es t)) (hn : (assignEach es X.env).length = n := by rfl) (hst : (assignEach es X.env).findIdx? (·.1) = none := by rfl) : Pr (PG X (.Tuple es k pos) (gTup X.K n t)) := ⟨pg_tup hc h.h hn hst⟩
end
section
variable {X : Cx} {pos : Pos}
theorem qpg_sub {o i : Expr} {to ti : TE} {t : TSet} (ho : Pr (PE X o to)) (hi : Pr (PE X i ti)) (hs : PSet X t) (ha : ∀ v, assign (.Subscript o i pos) X.env v = (do
      let ov ← holding [v] (eval o X.env)
      let iv ← holding [v, ov] (eval i X.env)
      standAt pos
      holding [v, ov, iv] (setItem ov iv v)
      release [v, ov, iv] []) := by intro _; rfl) : Pr (PG X (.Subscript o i pos) (gSub to ti t)) := ⟨pg_sub ho.h hi.h hs ha⟩
end
section
variable {X : Cx} {st : Stmt} {rest : List Stmt} {t u : TS} {e : Expr} {te : TE} {pos : Pos}
theorem qps_ret (he : Pr (PE X e te)) : Pr (PS X (.Return (some e) pos) (tRet te)) := ⟨ps_ret he.h⟩
end
section
variable {X : Cx} {st : Stmt} {rest : List Stmt} {t u : TS} {e : Expr} {te : TE} {pos : Pos}
end
section
variable {X : Cx} {pos : Pos}
theorem qps_set {i : Nat} {x : Str} {e : Expr} {te : TE} {pos' : Pos} (hN : X.N.Nodup) (hi : X.N[i]? = some x) (hx : Loc X.env.scope x) (he : Pr (PE X e te)) (hs : swapsWith e (some (.Name x pos')) pos.line X.env = pure false := by rfl) (hf : X.fn x = true ∨ X.env.scope.names.lookup x = some .local := by first | exact .inl rfl | exact .inr rfl | assumption) : Pr (PS X (.Assign [.Name x pos'] e pos) (tAsg te (gName i))) := ⟨ps_set hN hi hx he.h hs hf⟩
end
section
variable {X : Cx} {pos : Pos}
theorem qps_asg {tg e : Expr} {te : TE} {g : TG} (he : Pr (PE X e te)) (hg : Pr (PG X tg g)) (hs : swapsWithSole [tg] e pos.line X.env = pure false := by rfl) (hw : swappedStores [tg] e X.env = pure none := by rfl) (h1 : (assignEach [tg] X.env).map (·.2) = [assign tg X.env] := by rfl) : Pr (PS X (.Assign [tg] e pos) (tAsg te g)) := ⟨ps_asg he.h hg.h hs hw h1⟩
end
section
variable {X : Cx} {pos : Pos}
end
section
variable {X : Cx} {st : Stmt} {rest : List Stmt} {t u : TS} {e : Expr} {te : TE} {pos : Pos}
theorem qps_if {c : Expr} {a b : List Stmt} {tc : TT} (hc : Pr (PT X c tc)) (ha : Pr (PSs X a t)) (hb : Pr (PSs X b u)) : Pr (PS X (.If c a b pos) (tIfS tc t u)) := ⟨ps_if hc.h ha.h hb.h⟩
end
section
theorem qps_loop {X : Cx} {tg iter : Expr} {body : List Stmt} {wi : TI} {g : TG} {tb : TS} {pos : Pos} (hp : PassesOwn (model X.prog X.w) X.A X.env X.xe) (hc : X.calm = true) (hi : Pr (PI X tg iter wi)) (hg : Pr (PG X tg g)) (hb : Pr (PSs X body tb)) (hs : ∀ x, foldedSetIterable iter X.env x = pure x := by intro _; rfl) : Pr (PS X (.For tg iter body [] pos) (tLoop wi g tb)) := ⟨ps_loop hp hc hi.h hg.h hb.h hs⟩
end
section
variable {X : Cx} {pos : Pos}
end
section
variable {X : Cx} {st : Stmt} {rest : List Stmt} {t u : TS} {e : Expr} {te : TE} {pos : Pos}
theorem qps_expr (he : Pr (PE X e te)) (hs : swapsWith e none pos.line X.env = pure false := by rfl) : Pr (PS X (.Expr e pos) (tDrop te)) := ⟨ps_expr he.h hs⟩
end
section
variable {X : Cx} {st : Stmt} {rest : List Stmt} {t u : TS} {e : Expr} {te : TE} {pos : Pos}
end
section
variable {X : Cx} {st : Stmt} {rest : List Stmt} {t u : TS} {e : Expr} {te : TE} {pos : Pos}
end
section
variable {X : Cx} {st : Stmt} {rest : List Stmt} {t u : TS} {e : Expr} {te : TE} {pos : Pos}
end
section
variable {X : Cx} {st : Stmt} {rest : List Stmt} {t u : TS} {e : Expr} {te : TE} {pos : Pos}
theorem qpss_nil  : Pr (PSs X [] tNext) := ⟨pss_nil⟩
end
section
variable {X : Cx} {st : Stmt} {rest : List Stmt} {t u : TS} {e : Expr} {te : TE} {pos : Pos}
theorem qpss_one (h1 : Pr (PS X st t)) : Pr (PSs X [st] t) := ⟨pss_one h1.h⟩
end
section
variable {X : Cx} {st : Stmt} {rest : List Stmt} {t u : TS} {e : Expr} {te : TE} {pos : Pos}
theorem qpss_cons (h1 : Pr (PS X st t)) (h2 : Pr (PSs X rest u)) : Pr (PSs X (st :: rest) (tSeq t u)) := ⟨pss_cons h1.h h2.h⟩
end
section
theorem qpss_cut {X : Cx} {st : Stmt} {rest : List Stmt} {t u : TS} (h1 : Pr (PS X st t)) (h2 : Pr (PSs X rest u)) : Pr (PSs X (st :: rest) (tCut t u)) := ⟨pss_cut h1.h h2.h⟩
end
section
variable {X : Cx} {st : Stmt} {rest : List Stmt} {t u : TS} {e : Expr} {te : TE} {pos : Pos}
end
section
variable {X : Cx} {o e value : Expr} {f : Str} {pos pos' tpos : Pos} {ta tv : TE}
theorem qps_fld (ha : Pr (PE X o ta)) (hv : Pr (PE X value tv)) (hs : swapsWith value (some (.Attribute o f pos')) pos.line X.env = pure false) : Pr (PS X (.Assign [.Attribute o f pos'] value pos) (sFld X.K ta tv f)) := ⟨ps_fld ha.h hv.h hs⟩
end
end L2

namespace L2
open PySem PySem.Spec PyProof.Rows
def relab (sc outer : Scope) : Scope :=
  { sc with names := sc.names.map fun (n, k) => if (k == .free && outer.kind == .function && outer.names.lookup n == some .cell) then (n, .cell) else (n, k) }
structure CompOk (sc outer : Scope) (own : List Str) (N : List Str) (fr : List Nat) (N' : List Str) : Prop where
  kind : sc.kind = .function
  nocell : ∀ y ∈ sc.names, y.2 ≠ .cell
  loc : ∀ y ∈ sc.names, y.2 = .local → sc.names.lookup y.1 = some .local
  fre : ∀ y ∈ sc.names, y.2 = .free → outer.names.lookup y.1 = some .cell ∨ outer.names.lookup y.1 = some .free
  nd : N'.Nodup
  all : N'.map some = own.map some ++ fr.map fun j => N[j]?
  frk : ∀ j ∈ fr, ∀ x, N[j]? = some x → sc.names.lookup x = some .free ∧ (outer.names.lookup x = some .cell ∨ outer.names.lookup x = some .free)
def cst (n : Nat) (fr : List Nat) (σ : St) : St := List.replicate n none ++ fr.map fun j => (σ[j]?).join
theorem closure_has {env : Env} {sc : Scope} (h : ∀ y ∈ sc.names, y.2 = .free → ∃ c, env.cells.lookup y.1 = some c) :
    ∃ cl, closureFor sc env = pure cl ∧ (∀ x c, cl.lookup x = some c → env.cells.lookup x = some c) ∧ ∀ y ∈ sc.names, y.2 = .free → ∃ c, cl.lookup y.1 = some c := by
  have key : ∀ (l : List (Str × NameKind)) (cs : List (Str × Addr)), (∀ y ∈ l, y.2 = .free → ∃ c, env.cells.lookup y.1 = some c) → (∀ x c, cs.lookup x = some c → env.cells.lookup x = some c) →
      ∃ cl, (forIn l cs fun x r => if (x.2 == NameKind.free) = true then do let a ← cellOf env x.1; pure (ForInStep.yield ((x.1, a) :: r)) else pure (ForInStep.yield r)) = (pure cl : Sem _) ∧ (∀ x c, cl.lookup x = some c → env.cells.lookup x = some c) ∧
        (∀ x, (∃ c, cs.lookup x = some c) → ∃ c, cl.lookup x = some c) ∧ ∀ y ∈ l, y.2 = .free → ∃ c, cl.lookup y.1 = some c := by
    intro l
    induction l with
    | nil => intro cs _ h2; exact ⟨cs, rfl, h2, fun _ z => z, fun y hy => nomatch hy⟩
    | cons y l ih =>
      intro cs h1 h2
      obtain ⟨n, k⟩ := y
      by_cases hk : k = .free
      · subst hk
        obtain ⟨c, hc⟩ := h1 (n, .free) List.mem_cons_self rfl
        obtain ⟨cl, e, a, b, d⟩ := ih ((n, c) :: cs) (fun y hy => h1 y (List.mem_cons_of_mem _ hy)) (fun x c' hx => by
          rw [List.lookup_cons] at hx
          split at hx
          · rename_i q
            have : x = n := by simpa using q
            cases hx; subst this; exact hc
          · exact h2 x c' hx)
        refine ⟨cl, ?_, a, fun x ⟨c', hx⟩ => b x ?_, fun y hy hf => ?_⟩
        · rw [List.forIn_cons]
          have e1 : cellOf env n = pure c := by unfold cellOf; rw [hc]
          simp only [beq_self_eq_true, if_true, e1, pure_bind]
          exact e
        · rw [List.lookup_cons]
          split
          · exact ⟨_, rfl⟩
          · exact ⟨c', hx⟩
        · rcases List.mem_cons.mp hy with rfl | hy
          · exact b n ⟨c, by simp [List.lookup_cons]⟩
          · exact d y hy hf
      · obtain ⟨cl, e, a, b, d⟩ := ih cs (fun y hy => h1 y (List.mem_cons_of_mem _ hy)) h2
        refine ⟨cl, ?_, a, b, fun y hy hf => ?_⟩
        · rw [List.forIn_cons]
          have hb : (k == NameKind.free) = false := by simpa using hk
          simp only [hb, Bool.false_eq_true, if_false, pure_bind]
          exact e
        · rcases List.mem_cons.mp hy with rfl | hy
          · exact absurd hf hk
          · exact d y hy hf
  obtain ⟨cl, e, a, _, d⟩ := key sc.names [] h (fun x c hx => by simp at hx)
  refine ⟨cl, ?_, a, d⟩
  unfold closureFor
  simp only [e, pure_bind]
def cxC (X : Cx) (sc : Scope) (cl : List (Str × Addr)) (N' : List Str) (C : Addr) (s : Shared) (H : Hp) (fp : List Addr) : Cx :=
  { X with N := N', s₀ := s, H₀ := H, env := compEnvC sc cl C X.env, outer := X.stack, stack := X.stack, ex := fp, fn := fun _ => false, pn := [], xe := fun _ _ => False }
theorem relab_lookup {outer : Scope} : ∀ {names : List (Str × NameKind)} {x : Str} {k : NameKind},
    (names.map fun (n, k) => if (k == NameKind.free && outer.kind == .function && outer.names.lookup n == some .cell) then (n, NameKind.cell) else (n, k)).lookup x = some k →
      names.lookup x = some k ∨ (names.lookup x = some .free ∧ k = .cell)
  | [], x, k, h => by simp at h
  | (n, k') :: r, x, k, h => by
    rw [List.map_cons] at h
    by_cases hc : (k' == NameKind.free && outer.kind == .function && outer.names.lookup n == some .cell) = true
    · simp only [hc, if_true] at h
      rw [List.lookup_cons] at h ⊢
      cases hx : x == n with
      | true =>
        rw [hx] at h
        simp only [Option.some.injEq] at h
        have hf : k' = .free := by
          have := (Bool.and_eq_true_iff.mp (Bool.and_eq_true_iff.mp hc).1).1
          simpa using this
        exact .inr ⟨by simp [hf], h.symm⟩
      | false => rw [hx] at h; exact relab_lookup h
    · simp only [hc, Bool.false_eq_true, if_false] at h
      rw [List.lookup_cons] at h ⊢
      cases hx : x == n with
      | true => rw [hx] at h; exact .inl (by simpa using h)
      | false => rw [hx] at h; exact relab_lookup h
theorem relab_free {outer : Scope} : ∀ {names : List (Str × NameKind)} {x : Str}, names.lookup x = some .free →
    (names.map fun (n, k) => if (k == NameKind.free && outer.kind == .function && outer.names.lookup n == some .cell) then (n, NameKind.cell) else (n, k)).lookup x = some .cell ∨
    (names.map fun (n, k) => if (k == NameKind.free && outer.kind == .function && outer.names.lookup n == some .cell) then (n, NameKind.cell) else (n, k)).lookup x = some .free
  | [], x, h => by simp at h
  | (n, k') :: r, x, h => by
    rw [List.lookup_cons] at h
    rw [List.map_cons]
    by_cases hc : (k' == NameKind.free && outer.kind == .function && outer.names.lookup n == some .cell) = true
    · simp only [hc, if_true]
      rw [List.lookup_cons]
      cases hx : x == n with
      | true => exact .inl rfl
      | false => rw [hx] at h; exact relab_free h
    · simp only [hc, Bool.false_eq_true, if_false]
      rw [List.lookup_cons]
      cases hx : x == n with
      | true => rw [hx] at h; exact .inr h
      | false => rw [hx] at h; exact relab_free h
theorem lookup_mem' {α : Type} : ∀ {l : List (Str × α)} {x : Str} {k : α}, l.lookup x = some k → (x, k) ∈ l
  | [], _, _, h => by simp at h
  | (n, k') :: r, x, k, h => by
    rw [List.lookup_cons] at h
    cases hx : x == n with
    | true =>
      rw [hx] at h
      have e : x = n := by simpa using hx
      have e2 : k' = k := by simpa using h
      rw [e, e2]; exact List.mem_cons_self
    | false => rw [hx] at h; exact List.mem_cons_of_mem _ (lookup_mem' h)
section
variable {X : Cx} {pins : List (Addr × Obj)} {σ : St} {H : Hp} {s : Shared} {sc : Scope} {own : List Str} {fr : List Nat} {N' : List Str} {cl : List (Str × Addr)}
theorem block_start (I : Inv X pins σ H s) (cs : CompOk sc X.env.scope own X.N fr N') (h1 : ∀ x c, cl.lookup x = some c → X.env.cells.lookup x = some c) (h2 : ∀ y ∈ sc.names, y.2 = .free → ∃ c, cl.lookup y.1 = some c)
    {fp : List Addr} (hf : ∀ b ∈ fp, FpOk X pins H b ∧ ∃ o, s.heap.get? b = some o) {h' : Heap} {t' : Nat} {C D : Addr} {o : Obj} (hC : s.heap.objs.size ≤ C) (hD : s.heap.objs.size ≤ D) (hDC : D ≠ C)
    (k : ∀ b u, s.heap.get? b = some u → h'.get? b = some u) (hn : h'.Ns C fun _ => none) (hDo : h'.get? D = some o) (hd : ∀ v, o.data ≠ .cell v) :
    Inv (cxC X sc cl N' C s H fp) [(D, o)] (cst own.length fr σ) H { s with heap := h', toks := t' } := by
  have lt : ∀ b u, s.heap.get? b = some u → b < s.heap.objs.size := fun b u e => Heap.lt_size e
  have fpC : ∀ b ∈ fp, b ≠ C := fun b hb z => by
    obtain ⟨_, o, e⟩ := hf b hb
    have := lt b o e
    rw [z] at this
    exact absurd (Nat.lt_of_lt_of_le this hC) (Nat.lt_irrefl _)
  have lenN : N'.length = own.length + fr.length := by
    have := congrArg List.length cs.all
    simpa using this
  refine ⟨⟨I.ok.mod, cs.kind, I.ok.glob, I.ok.blt, hC, fun x y c e1 e2 => I.ok.inj x y c (h1 x c e1) (h1 y c e2), fun x hx => ?_, fun x c z => absurd z Bool.false_ne_true, I.ok.hd, I.ok.frames, .inl rfl, fun b hb => ⟨fpC b hb, fun x c e => (hf b hb).1.2.2.2.2.1 x c (h1 x c e)⟩,
      I.bs, Nat.le_trans I.ok.bsz I.sz, fun b o' e hb => ?_, fun b hb z => ?_, I.stack, I.stkFree⟩,
    rfl, I.bare, Un.kept k, ⟨_, hn, fun i x v e1 e2 e3 => ?_⟩, fun x c e => ?_, I.hok.fresh hC, fun x c e => I.freeC x c (h1 x c e), fun p hp => ?_, I.hok.kept k, ?_⟩
  · have hx' : (relab sc X.env.scope).names.lookup x = some .cell ∨ (relab sc X.env.scope).names.lookup x = some .free := hx
    have hfree : sc.names.lookup x = some .free := by
      rcases hx' with z | z
      · rcases relab_lookup z with q | q
        · exact absurd rfl (cs.nocell _ (lookup_mem' q))
        · exact q.1
      · rcases relab_lookup z with q | q
        · exact q
        · exact q.1
    exact h2 (x, .free) (lookup_mem' hfree) rfl
  · have q := (hf b hb).1.2.2.2.1
    rcases q with q | q
    · exact I.ok.noex b o' e q
    · exact absurd (Nat.lt_of_lt_of_le (Heap.lt_size (I.ok.bs b o' e).1) q) (Nat.lt_irrefl _)
  · have z' : b ∈ frs X.stack := z
    rcases List.mem_cons.mp (I.stkSub b z') with q | q
    · exact (hf b hb).1.2.1 q
    · exact (hf b hb).1.2.2.1 q
  · -- a name of the block at its entry is one of the def's
    have hi : own.length ≤ i := by
      by_cases hi : i < own.length
      · have e2' : (cst own.length fr σ)[i]? = some none := by
          unfold cst
          rw [List.getElem?_append_left (by simpa using hi), List.getElem?_replicate, if_pos hi]
        rw [e2'] at e2; cases e2
      · omega
    have e2' : (fr.map fun j => (σ[j]?).join)[i - own.length]? = some (some v) := by
      unfold cst at e2
      rwa [List.getElem?_append_right (by simpa using hi), List.length_replicate] at e2
    rw [List.getElem?_map] at e2'
    have e1a : (N'.map some)[i]? = some (some x) := by
      have e1 : N'[i]? = some x := e1
      rw [List.getElem?_map, e1]; rfl
    rw [cs.all, List.getElem?_append_right (by simpa using hi), List.length_map, List.getElem?_map] at e1a
    cases ej : fr[i - own.length]? with
    | none => rw [ej] at e2'; cases e2'
    | some j =>
      rw [ej] at e2' e1a
      have hj : j ∈ fr := List.mem_of_getElem? ej
      have nj : X.N[j]? = some x := by simpa using e1a
      have sj : σ[j]? = some (some v) := by
        have : (σ[j]?).join = some v := by simpa using e2'
        cases q : σ[j]? with
        | none => rw [q] at this; cases this
        | some y => rw [q] at this; simp at this; rw [this]
      obtain ⟨kf, ko⟩ := cs.frk j hj x nj
      obtain ⟨m, hm, hl⟩ := I.loc
      obtain ⟨u, r, l⟩ := hl j x v nj sj (.inr ko)
      refine ⟨u, r, .inr ?_⟩
      have lk : X.env.kindOf x = some .cell ∨ X.env.kindOf x = some .free := ko
      rcases l with ⟨z, _⟩ | ⟨_, c, ec, ic⟩
      · rcases lk with q | q <;> rw [z] at q <;> cases q
      · obtain ⟨c', hc'⟩ := h2 (x, .free) (lookup_mem' kf) rfl
        have : c' = c := by
          have := h1 x c' hc'
          rw [ec] at this; exact (Option.some.inj this).symm
        subst this
        refine ⟨relab_free kf, c', hc', ?_⟩
        obtain ⟨oc, hoc, hcd⟩ := ic
        exact ⟨oc, k c' oc hoc, hcd⟩
  · obtain ⟨v, oc, hoc, hcd⟩ := I.cell x c (h1 x c e)
    exact ⟨v, oc, k c oc hoc, hcd⟩
  · have hp' : p ∈ [(D, o)] := hp
    have e : p = (D, o) := by simpa using hp'
    subst e
    refine ⟨hDo, I.hok.fresh hD, hDC, fun z => ?_, hd⟩
    have z' : D ∈ frs X.stack := z
    obtain ⟨_, o2, ho2, _⟩ := I.stack.mem z'
    exact absurd (Nat.lt_of_lt_of_le (Heap.lt_size ho2) hD) (Nat.lt_irrefl _)
  · show (cst own.length fr σ).length = N'.length
    unfold cst
    rw [List.length_append, List.length_replicate, List.length_map, lenN]
theorem block_end (I : Inv X pins σ H s) {fp : List Addr} (hf : ∀ b ∈ fp, FpOk X pins H b ∧ ∃ o, s.heap.get? b = some o) {C D : Addr} {its : List Value} {ys : List V} {n : Nat} {σ' : St} {H' : Hp} {s' : Shared}
    (hD : s.heap.objs.size ≤ D) (J : Inv (cxC X sc cl N' C s H fp) [(D, { cls := .type "list", data := .seq its.toArray n })] σ' H' s') (r : Vals ys its) (hz : ys.length ≤ sizeLine) : Inv X pins σ (upd H' D (.lst ys)) s' := by
  obtain ⟨hDo, hDn, hDC, hDf, hDc⟩ := J.pin (D, { cls := .type "list", data := .seq its.toArray n }) (List.mem_append_right _ List.mem_cons_self)
  have u : Un (frs X.stack) fp H H' s.heap s'.heap := J.base
  have os : s'.os = s.os := J.os
  have lt : ∀ b ob, s.heap.get? b = some ob → b ≠ D := fun b ob e z => by
    have := Heap.lt_size e
    rw [z] at this
    exact absurd (Nat.lt_of_lt_of_le this hD) (Nat.lt_irrefl _)
  refine I.call' (ch := fp) os ⟨u.keep, u.slot, fun b ob e n hx => ?_, u.there, fun b xs e => ?_, fun b ob x e => ?_, fun b ps e => ?_⟩ ?_ J.bare (fun b hb => ?_)
  · rw [upd_ne (lt b ob e)]; exact u.free b ob e n hx
  · have := u.tups b xs e
    rw [upd_ne (ne_of_none this hDn)]; exact this
  · have := u.frzs b ob x e
    rw [upd_ne (ne_of_none this hDn)]; exact this
  · obtain ⟨m, q⟩ := u.tbls b ps e
    exact ⟨m, by rw [upd_ne (ne_of_none q hDn)]; exact q⟩
  · intro b ob e
    by_cases hb : b = D
    · subst hb
      rw [upd_same] at e; cases e
      exact ⟨hz, its, n, r, hDo⟩
    · rw [upd_ne hb] at e
      exact (J.hok b ob e).stay (fun c v _ q => q) (fun c q => by rw [upd_ne (ne_of_none q hDn)]; exact q) fun c xs q => by rw [upd_ne (ne_of_none q hDn)]; exact q
  · obtain ⟨_, f1, _, f3, f4, f5⟩ := (hf b hb).1
    exact ⟨f3, f1, f4, f5⟩
end
def PIf (X : Cx) (ifs : List Expr) (t : TT) : Prop :=
  ∀ (pins : List (Addr × Obj)) (s : Shared) (σ : St) (H : Hp) (Q : Bool → Hp → Prop), Inv X pins σ H s → t σ H Q →
    wpAny (model X.prog X.w) X.A (forIn ifs true fun c r => if r = true then do let ok ← isTrue c X.env (eval c X.env); pure (ForInStep.yield ok) else pure (ForInStep.yield r)) (TP X pins σ Q) X.xe s
def tYes : TT := fun _ H Q => Q true H
theorem pif_nil {X : Cx} : PIf X [] tYes := fun _ _ _ H _ I h => wpAny_tests_nil ⟨H, I, h⟩
theorem pif_one {X : Cx} {c : Expr} {t : TT} (h : PT X c t) : PIf X [c] t := fun pins s σ H Q I q => wpAny_tests_one (h pins s σ H Q I q)
structure Comp (J : It) (g : TG) (tt : TT) (te : TE) (Q : List V → Hp → Prop) (σ : St) (H : Hp) : Prop where
  ex : ∃ W : Nat → Nat → List V → St → Hp → Prop, (∃ m, W 0 m [] σ H) ∧ ∀ i m ys σ H, W i m ys σ H → ys.length < sizeLine ∧
    ((J.stop i H ∧ Q ys H) ∨ (J.go i H ∧ ∃ N : List V → St → Hp → Prop, (∀ ys' σ' H', N ys' σ' H' → ∃ m', m' < m ∧ W (i + 1) m' ys' σ' H') ∧
      ∀ x H', J.yld i H x H' → g x σ H' fun σ2 H2 => tt σ2 H2 fun b H3 => if b = true then te σ2 H3 fun y H4 => N (ys ++ [y]) σ2 H4 else N ys σ2 H3))
section
variable {prog : Program} {w : World} {A : Around} {R : Result → Shared → Prop} {s : Shared}
theorem compLoop_own {elt target iter : Expr} {ifs : List Expr} {scope : Scope} {pos : Pos} {it acc : Value} {env : Env} (I : Nat → Shared → Prop)
    (turn : ∀ n s, I n s → wpAny (model prog w) A (pyNext it) (fun r s₁ => match r with
      | none => R (.ok .next) s₁
      | some v => wpAny (model prog w) A (letOwnedTupleGo target it v) (fun _ s₁ => wpAny (model prog w) A (assign target env v) (fun _ s₂ =>
          wpAny (model prog w) A (forIn ifs true fun c r => if r = true then do let ok ← isTrue c env (eval c env); pure (ForInStep.yield ok) else pure (ForInStep.yield r)) (fun ok s₃ =>
            if ok = true then wpAny (model prog w) A (eval elt env) (fun x s₄ =>
              wpAny (model prog w) A (call (.builtin "list.append") [acc, x]) (fun _ s₅ => ∃ m, m < n ∧ I m s₅) (fun _ _ => False) s₄) (fun _ _ => False) s₃
            else ∃ m, m < n ∧ I m s₃) (fun _ _ => False) s₂) (fun _ _ => False) s₁) (fun _ _ => False) s₁) (fun _ _ => False) s)
    (n : Nat) (h : I n s) : codeAny (model prog w) A (.compLoop (.ListComp elt [⟨target, iter, ifs, 0⟩] scope pos) 0 it acc env) R s := by
  refine codeAny_loop rfl I (fun n s hI => ?_) n h
  show wpAny _ A ((compTurn (.ListComp elt [⟨target, iter, ifs, 0⟩] scope pos) 0 it acc env).onRaise (fun x => do noteFrame x env; theTreesLotGoes x)) _ _ s
  refine wpAny_noted (wpAny_noRaise ?_)
  rw [compTurn_list]
  refine wpAny_bind (wpAny_standAt (wpAny_bind (wpAny_mono (turn n s hI) (fun r s₁ h₁ => ?_) fun _ _ h' => h')))
  cases r with
  | none => exact wpAny_pure h₁
  | some v =>
    refine wpAny_bind (wpAny_mono h₁ (fun _ s₁ h₁ => ?_) fun _ _ h' => h')
    refine wpAny_bind (wpAny_mono h₁ (fun _ s₂ h₂ => wpAny_bind (wpAny_mono h₂ (fun ok s₃ h₃ => ?_) fun _ _ h' => h')) fun _ _ h' => h')
    cases ok with
    | false => exact wpAny_pure ⟨rfl, h₃⟩
    | true =>
      exact wpAny_bind (wpAny_bind (wpAny_mono h₃ (fun x s₄ h₄ => wpAny_bind (wpAny_mono h₄ (fun _ s₅ h₅ => wpAny_pure (wpAny_pure ⟨rfl, h₅⟩)) fun _ _ h' => h')) fun _ _ h' => h'))
end
end L2

namespace L2
open PySem PySem.Spec PyProof.Rows
structure TurnX (G : Cx → Prop) (P : Program) (w : World) (K : PySem.W.Frag) (tg : Expr) (J : It) (fp : List Addr) (it : Addr) (tn : Nat → Heap → Prop) : Prop where
  obj : ∀ i h, tn i h → ∀ b ∈ fp, ∃ o, h.get? b = some o ∧ ∀ v, o.data ≠ .cell v
  keep : ∀ i h h', tn i h → (∀ b ∈ fp, ∀ o, h.get? b = some o → h'.get? b = some o) → tn i h'
  item : ∀ (X : Cx), X.prog = P → X.w = w → X.K = K → G X → ∀ (i : Nat) (pins : List (Addr × Obj)) (s : Shared) (σ : St) (H : Hp) (E : Value → Shared → Prop), Inv X pins σ H s → (∀ b ∈ fp, FpOk X pins H b) → tn i s.heap → J.go i H →
    wpAny (model P w) X.A (pyNext (.ref it)) (fun r s1 => ∃ u, r = some u ∧
      wpAny (model P w) X.A (letOwnedTupleGo tg (.ref it) u) (fun _ s2 => ∃ x H', Inv X pins σ H' s2 ∧ RelV x u ∧ J.yld i H x H' ∧ tn (i + 1) s2.heap ∧ ∀ b ∈ fp, H' b = none) E s1) E s
  done : ∀ (X : Cx), X.prog = P → X.w = w → X.K = K → G X → ∀ (i : Nat) (pins : List (Addr × Obj)) (s : Shared) (σ : St) (H : Hp) (E : Value → Shared → Prop), Inv X pins σ H s → (∀ b ∈ fp, FpOk X pins H b) → tn i s.heap → J.stop i H →
    wpAny (model P w) X.A (pyNext (.ref it)) (fun r s1 => r = none ∧ Inv X pins σ H s1) E s
  self : ∀ (A : Around) (i : Nat) (s : Shared) (Q : Value → Shared → Prop) (E : Value → Shared → Prop), tn i s.heap → Q (.ref it) s → wpAny (model P w) A (pyIter (.ref it)) Q E s
theorem Turn.x {P : Program} {w : World} {K : PySem.W.Frag} {tg : Expr} {J : It} {fp : List Addr} {it : Addr} {tn : Nat → Heap → Prop} (T : Turn P w K tg J fp it tn) : TurnX (fun X => X.calm = true) P w K tg J fp it tn := ⟨T.obj, T.keep, T.item, T.done, T.self⟩
section
variable {X : Cx} {sc : Scope} {own : List Str} {fr : List Nat} {N' : List Str} {tg elt iter : Expr} {ifs : List Expr} {g : TG} {tt : TT} {te : TE} {wi : TI} {pos : Pos}
theorem comp_block {G : Cx → Prop} {pins : List (Addr × Obj)} {σ : St} {H : Hp} {s2 : Shared} {it : Addr} {fp : List Addr} {tn : Nat → Heap → Prop} {J : It} {QQ : List V → Hp → Prop} {cl : List (Str × Addr)} {RR : Value → Addr → Result → Shared → Prop} {E : Value → Shared → Prop}
    (I2 : Inv X pins σ H s2) (hc : ∀ cl C s H fp, G (cxC X sc cl N' C s H fp)) (T : TurnX G X.prog X.w X.K tg J fp it tn) (st : tn 0 s2.heap) (f2 : ∀ b ∈ fp, FpOk X pins H b) (cs : CompOk sc X.env.scope own X.N fr N')
    (h1 : ∀ x c, cl.lookup x = some c → X.env.cells.lookup x = some c) (h2 : ∀ y ∈ sc.names, y.2 = .free → ∃ c, cl.lookup y.1 = some c)
    (hg : ∀ cl C s H fp, PG (cxC X sc cl N' C s H fp) tg g) (hif : ∀ cl C s H fp, PIf (cxC X sc cl N' C s H fp) ifs tt) (he : ∀ cl C s H fp, PE (cxC X sc cl N' C s H fp) elt te)
    (KK : Comp J g tt te QQ (cst own.length fr σ) H)
    (hRR : ∀ D C m H' ys s', s2.heap.objs.size ≤ C → s'.heap.Ns C m → H' D = none → (upd H' D (.lst ys)) C = none → QQ ys H' → Inv X pins σ (upd H' D (.lst ys)) s' → RR (.ref D) C (.ok .next) s') :
    wpAny (model X.prog X.w) X.A (newList []) (fun acc s₃ => wpAny (model X.prog X.w) X.A (newFunctionEnv sc X.env.globals cl [] X.env.qual none .none (some X.env)) (fun cenv s₄ =>
      codeAny (model X.prog X.w) X.A (.compStart (.ListComp elt [⟨tg, iter, ifs, 0⟩] sc pos) 0 (.ref it) acc { cenv with scope := relabel sc X.env }) (RR acc cenv.locals) s₄) E s₃) E s2 := by
  refine wpAny_newObj_type (wpAny_newFunctionEnv cs.nocell (by intro y hy; simp at hy) (fun h₁ hns₁ hsb₁ => ?_) cs.kind)
  dsimp only at hns₁ hsb₁ ⊢
  generalize hH2 : s2.heap.push { cls := .type "list", dict := none, data := .seq ([] : List Value).toArray } = H2 at hns₁ hsb₁ ⊢
  have hC : H2.objs.size = s2.heap.objs.size + 1 := by rw [← hH2, Heap.size_push]
  have hDC : s2.heap.objs.size ≠ H2.objs.size := by rw [hC]; exact Nat.ne_of_lt (Nat.lt_succ_self _)
  have hCle : s2.heap.objs.size ≤ H2.objs.size := by rw [hC]; exact Nat.le_succ _
  have below : ∀ b, b < s2.heap.objs.size → b ≠ H2.objs.size ∧ b ≠ s2.heap.objs.size := fun b hb => ⟨by rw [hC]; exact Nat.ne_of_lt (Nat.lt_succ_of_lt hb), Nat.ne_of_lt hb⟩
  have old : ∀ b o, s2.heap.get? b = some o → h₁.get? b = some o := fun b o e => hsb₁.extBut b o (below b (Heap.lt_size e)).1 (Heap.get?_push_of_some _ (hH2 ▸ Heap.get?_push_of_some _ e))
  have hacc : h₁.get? s2.heap.objs.size = some { cls := .type "list", data := .seq ([] : List Value).toArray 0 } := hsb₁.extBut _ _ hDC (Heap.get?_push_of_some _ (hH2 ▸ Heap.get?_push_size _ rfl))
  have fpo : ∀ b ∈ fp, FpOk X pins H b ∧ ∃ o, s2.heap.get? b = some o := fun b hb => ⟨f2 b hb, let ⟨o, e, _⟩ := T.obj 0 _ st b hb; ⟨o, e⟩⟩
  have st1 : tn 0 h₁ := T.keep _ _ _ st fun b hb o e => old b o e
  have hns : h₁.Ns H2.objs.size fun _ => none := by simpa using hns₁
  obtain ⟨W, ⟨m0, w0⟩, turn⟩ := KK.ex
  have loop : ∀ s₃ : Shared, s₃ = { s2 with heap := h₁, toks := s2.toks + ([] : List (Str × Value)).length } →
      codeAny (model X.prog X.w) X.A (.compLoop (.ListComp elt [⟨tg, iter, ifs, 0⟩] sc pos) 0 (.ref it) (.ref s2.heap.objs.size) (compEnvC sc cl H2.objs.size X.env)) (RR (.ref s2.heap.objs.size) H2.objs.size) s₃ := by
    rintro s₃ rfl
    have J0 : Inv (cxC X sc cl N' H2.objs.size s2 H fp) [(s2.heap.objs.size, { cls := .type "list", data := .seq ([] : List Value).toArray 0 })] (cst own.length fr σ) H { s2 with heap := h₁, toks := s2.toks + ([] : List (Str × Value)).length } :=
      block_start I2 cs h1 h2 fpo hCle (Nat.le_refl _) hDC old hns hacc (fun v z => by cases z)
    have stat : ∀ {pl : List (Addr × Obj)} {H' : Hp}, (∀ p ∈ pl, p.1 = s2.heap.objs.size) → (∀ b ∈ fp, H' b = none) → ∀ b ∈ fp, FpOk (cxC X sc cl N' H2.objs.size s2 H fp) pl H' b := fun {pl H'} hpl hn b hb => by
      obtain ⟨f, ob, e⟩ := fpo b hb
      refine ⟨hn b hb, (below b (Heap.lt_size e)).1, fun z => ?_, .inl hb, fun x c ec => f.2.2.2.2.1 x c (h1 x c ec), fun p hp => ?_⟩
      · have z' : b ∈ frs X.stack := z
        rcases List.mem_cons.mp (I2.stkSub b z') with q | q
        · exact f.2.1 q
        · exact f.2.2.1 q
      · have hp' : p ∈ pl := hp
        rw [hpl p hp']
        exact Ne.symm (below b (Heap.lt_size e)).2
    have one : ∀ (o : Obj), ∀ p ∈ [(s2.heap.objs.size, o)], p.1 = s2.heap.objs.size := fun o p hp => by
      have : p = (s2.heap.objs.size, o) := by simpa using hp
      rw [this]
    refine compLoop_own (env := compEnvC sc cl H2.objs.size X.env) (fun n s' => ∃ i ys its k σ' H', Inv (cxC X sc cl N' H2.objs.size s2 H fp) [(s2.heap.objs.size, { cls := .type "list", data := .seq (its : List Value).toArray k })] σ' H' s' ∧ tn i s'.heap ∧ (∀ b ∈ fp, H' b = none) ∧ Vals ys its ∧ W i n ys σ' H')
      ?_ m0 ⟨0, [], [], 0, _, H, J0, st1, fun b hb => (f2 b hb).1, .nil, w0⟩
    rintro n s3 ⟨i, ys, its, k, σ3, H3, I3, st3, fr3, rv, w3⟩
    obtain ⟨hlen, alt⟩ := turn i n ys σ3 H3 w3
    rcases alt with ⟨stop, qn⟩ | ⟨go, N, hN, step⟩
    · refine wpAny_mono (T.done (cxC X sc cl N' H2.objs.size s2 H fp) rfl rfl rfl (hc _ _ _ _ _) i _ s3 σ3 H3 (fun _ _ => False) I3 (stat (one _) fr3) st3 stop) (fun r s4 ⟨hr, I4⟩ => ?_) fun _ _ z => z
      subst hr
      obtain ⟨m, hm, _⟩ := I4.loc
      have hDn : H3 s2.heap.objs.size = none := (I4.pin (s2.heap.objs.size, { cls := .type "list", data := .seq its.toArray k }) (List.mem_append_right _ List.mem_cons_self)).2.1
      exact hRR _ _ m H3 ys s4 hCle hm hDn (by rw [upd_ne (Ne.symm hDC)]; exact I4.free) qn (block_end I2 fpo (Nat.le_refl _) I4 rv (Nat.le_of_lt hlen))
    · refine wpAny_mono (T.item (cxC X sc cl N' H2.objs.size s2 H fp) rfl rfl rfl (hc _ _ _ _ _) i _ s3 σ3 H3 (fun _ _ => False) I3 (stat (one _) fr3) st3 go) (fun r s4 ⟨u, hr, h4⟩ => ?_) fun _ _ z => z
      subst hr
      refine wpAny_mono h4 (fun _ s5 ⟨x, H5, I5, r5, y5, st5, fr5⟩ => ?_) fun _ _ z => z
      have I5' := I5.pinned (stat (one _) fr5) (T.obj _ _ st5)
      refine wpAny_mono (hg cl H2.objs.size s2 H fp _ s5 σ3 H5 x u _ I5' r5 (step x H5 y5)) (fun _ s6 ⟨σ6, H6, I6, q6⟩ => ?_) fun _ _ z => z
      refine wpAny_mono (hif cl H2.objs.size s2 H fp _ s6 σ6 H6 _ I6 q6) (fun b s7 ⟨H7, I7, q7⟩ => ?_) fun _ _ z => z
      have fps : ∀ {σ8 : St} {H8 : Hp} {s8 : Shared}, Inv (cxC X sc cl N' H2.objs.size s2 H fp) ([(s2.heap.objs.size, { cls := .type "list", data := .seq its.toArray k })] ++ pinsAt fp s5.heap) σ8 H8 s8 →
          tn (i + 1) s8.heap ∧ ∀ b ∈ fp, H8 b = none := fun {σ8 H8 s8} I8 => by
        refine ⟨T.keep _ _ _ st5 fun b hb o e => (I8.pin (b, o) (List.mem_append_right _ (List.mem_append_right _ (mem_pinsAt hb e)))).1, fun b hb => ?_⟩
        obtain ⟨o, e, d⟩ := T.obj _ _ st5 b hb
        exact (I8.pin (b, o) (List.mem_append_right _ (List.mem_append_right _ (mem_pinsAt hb e)))).2.1
      cases b with
      | false =>
        obtain ⟨m', hm, w7⟩ := hN ys σ6 H7 q7
        exact ⟨m', hm, i + 1, ys, its, k, σ6, H7, I7.unpinned, (fps I7).1, (fps I7).2, rv, w7⟩
      | true =>
        have q7' : te σ6 H7 fun y H4 => N (ys ++ [y]) σ6 H4 := q7
        refine wpAny_mono (he cl H2.objs.size s2 H fp _ s7 σ6 H7 _ I7 q7') (fun uy s8 ⟨y, H8, I8, r8, n8⟩ => ?_) fun _ _ z => z
        obtain ⟨m', hm, w8⟩ := hN _ _ _ n8
        obtain ⟨hDo, hDn, hDL, hDf, _⟩ := I8.pin (s2.heap.objs.size, { cls := .type "list", data := .seq its.toArray k }) (List.mem_append_right _ (List.mem_append_left _ List.mem_cons_self))
        have hys : its.toArray.size ≤ sizeLine := by rw [List.size_toArray, ← rv.length]; exact Nat.le_of_lt hlen
        refine wpAny_list_append_plain (hsz := hys) (⟨k, hDo⟩ : s8.heap.PlainList s2.heap.objs.size its.toArray) fun h9 ⟨k', hl9⟩ hs9 => ?_
        have hDp : ∀ p ∈ (cxC X sc cl N' H2.objs.size s2 H fp).pn ++ pinsAt fp s5.heap, p.1 ≠ s2.heap.objs.size := fun p hp => by
          have hp' : p ∈ pinsAt fp s5.heap := by
            have hp2 : p ∈ ([] : List (Addr × Obj)) ++ pinsAt fp s5.heap := hp
            simpa using hp2
          obtain ⟨hb, _⟩ := of_pinsAt hp'
          obtain ⟨_, ob, e⟩ := fpo p.1 hb
          exact (below p.1 (Heap.lt_size e)).2
        have I8' : Inv (cxC X sc cl N' H2.objs.size s2 H fp) (pinsAt fp s5.heap) σ6 H8 s8 := I8.pins_of fun p hp => I8.pin p (List.mem_append_right _ (List.mem_append_right _ hp))
        have I9 : Inv (cxC X sc cl N' H2.objs.size s2 H fp) (pinsAt fp s5.heap) σ6 H8 { s8 with heap := h9 } := I8'.turned (t' := s8.toks) (it := s2.heap.objs.size) (fun b o hb e => (hs9.2 b hb).trans e) hDn hDL (.inr (Nat.le_refl _))
          (fun x c e z => by
            obtain ⟨v, q⟩ := I2.cell x c (h1 x c e)
            have := q.lt
            rw [z] at this
            exact absurd this (Nat.lt_irrefl _)) hDp
        have key := fps I8
        refine ⟨m', hm, i + 1, ys ++ [y], its ++ [uy], k', σ6, H8, I9.pins_of fun p hp => ?_, T.keep _ _ _ key.1 fun b hb o e => ?_, key.2, rv.append (.cons r8 .nil), w8⟩
        · have e : p = (s2.heap.objs.size, { cls := .type "list", data := .seq (its ++ [uy]).toArray k' }) := by simpa using hp
          subst e
          refine ⟨?_, hDn, hDL, hDf, fun v z => by cases z⟩
          have : (its ++ [uy]).toArray = its.toArray.push uy := by simp
          rw [this]; exact hl9
        · obtain ⟨_, ob, e2⟩ := fpo b hb
          exact (hs9.2 b (below b (Heap.lt_size e2)).2).trans e
  exact codeAny_compStart_list (loop _ rfl) (wpAny_mono (T.self X.A 0 _ (fun it' s' => it' = .ref it ∧ s' = { s2 with heap := h₁, toks := s2.toks + ([] : List (Str × Value)).length }) _ st1 ⟨rfl, rfl⟩) (fun it' s' ⟨e1, e2⟩ => by subst e1 e2; exact loop _ rfl) fun _ _ z => z)
def tComp (n : Nat) (fr : List Nat) (wi : TI) (g : TG) (tt : TT) (te : TE) : TE := fun σ H Q => wi σ H fun J H1 => Comp J g tt te (fun ys H2 => ∀ D, H2 D = none → Q (.ref D) (upd H2 D (.lst ys))) (cst n fr σ) H1
theorem pe_comp (hc : X.calm = true) (cs : CompOk sc X.env.scope own X.N fr N') (hi : PI X tg iter wi) (hg : ∀ cl C s H fp, PG (cxC X sc cl N' C s H fp) tg g) (hif : ∀ cl C s H fp, PIf (cxC X sc cl N' C s H fp) ifs tt)
    (he : ∀ cl C s H fp, PE (cxC X sc cl N' C s H fp) elt te) (hs : ∀ x, foldedSetIterable iter X.env x = pure x := by intro _; rfl) : PE X (.ListComp elt [⟨tg, iter, ifs, 0⟩] sc pos) (tComp own.length fr wi g tt te) := by
  intro pins s σ H Q I h
  obtain ⟨cl, ecl, h1, h2⟩ := closure_has (env := X.env) (sc := sc) fun y hy hf => I.ok.has y.1 (cs.fre y hy hf)
  rw [eval_ListComp]
  refine wpAny_comprehension_free (use := none) rfl hs ecl cs.kind cs.loc (thn (hi pins s σ H _ I h) fun v s1 q1 => thn q1 fun itv s2 q2 => ?_)
  obtain ⟨it, fp, tn, J, H2, rfl, I2, T, st, f2, KK⟩ := q2
  refine comp_block (RR := fun acc C => compPost (model X.prog X.w) X.A X.xe none (EP X pins σ Q) acc C) I2 (fun _ _ _ _ _ => hc) T.x st f2 cs h1 h2 hg hif he KK fun D C m H' ys s' hC hn hD hCn hq I' => ?_
  refine ⟨m, hn, fun h' hs' => ⟨.ref D, upd H' D (.lst ys), ?_, rfl, hq D hD⟩⟩
  obtain ⟨f0, f1, f2, f3, f4, f5⟩ := I2.fpOk hC hCn
  exact I'.turned (t' := s'.toks) (it := C) (fun b o hb e => (hs'.2 b hb).trans e) f0 (Ne.symm (Ne.symm f1)) f3 f4 f5
def tSetC (i n : Nat) (fr : List Nat) (wi : TI) (g : TG) (tt : TT) (te : TE) : TS := fun D σ H => wi σ H fun J H1 => Comp J g tt te (fun ys H2 => ∀ p, H2 p = none → D.nx (σ.set i (some (.ref p))) (upd H2 p (.lst ys))) (cst n fr σ) H1
theorem ps_setC {i : Nat} {y : Str} {py spos : Pos} (hN : X.N.Nodup) (hy : X.N[i]? = some y) (hx : Loc X.env.scope y) (hc : X.calm = true) (cs : CompOk sc X.env.scope own X.N fr N') (hi : PI X tg iter wi)
    (hg : ∀ cl C s H fp, PG (cxC X sc cl N' C s H fp) tg g) (hif : ∀ cl C s H fp, PIf (cxC X sc cl N' C s H fp) ifs tt) (he : ∀ cl C s H fp, PE (cxC X sc cl N' C s H fp) elt te)
    (hsw : swapsWith (.ListComp elt [⟨tg, iter, ifs, 0⟩] sc pos) (some (.Name y py)) spos.line X.env = pure true) (hfn : X.fn y = true ∨ X.env.scope.names.lookup y = some .local := by first | exact .inl rfl | exact .inr rfl | assumption) (hs : ∀ x, foldedSetIterable iter X.env x = pure x := by intro _; rfl) :
    PS X (.Assign [.Name y py] (.ListComp elt [⟨tg, iter, ifs, 0⟩] sc pos) spos) (tSetC i own.length fr wi g tt te) := by
  intro pins s σ H D I h
  obtain ⟨cl, ecl, h1, h2⟩ := closure_has (env := X.env) (sc := sc) fun y hy hf => I.ok.has y.1 (cs.fre y hy hf)
  rw [exec_Assign_Name_used _ _ _ _ hsw]
  refine wpAny_bind (wpAny_standAt (wpAny_bind ?_))
  show wpAny _ X.A (do let _ ← comprehension (.ListComp elt [⟨tg, iter, ifs, 0⟩] sc pos) sc X.env _ (newList []) false (eval iter X.env) (some (assign (.Name y py) X.env))) _ _ s
  refine wpAny_bind (wpAny_mono (wpAny_comprehension_free (use := some (assign (.Name y py) X.env)) (Q := fun _ s' => ∃ σ' H', Inv X pins σ' H' s' ∧ D.nx σ' H') rfl hs ecl cs.kind cs.loc (thn (hi pins s σ H _ I h) fun v s1 q1 => thn q1 fun itv s2 q2 => ?_))
    (fun _ s' hq => wpAny_pure (wpAny_pure hq)) fun _ _ e => e)
  obtain ⟨it, fp, tn, J, H2, rfl, I2, T, st, f2, KK⟩ := q2
  refine comp_block (RR := fun acc C => compPost (model X.prog X.w) X.A X.xe (some (assign (.Name y py) X.env)) (fun _ s' => ∃ σ' H', Inv X pins σ' H' s' ∧ D.nx σ' H') acc C) I2 (fun _ _ _ _ _ => hc) T.x st f2 cs h1 h2 hg hif he KK fun p C m H' ys s' hC hn hD hCn hq I' => ?_
  obtain ⟨f0, f1, f2, f3, f4, f5⟩ := I2.fpOk hC hCn
  show wpAny _ X.A (assign (.Name y py) X.env (.ref p)) _ _ _
  refine wpAny_assign_Name (store_ok2 (v := .ref p) I' hN hy hx rfl (fun s'' I'' ⟨a, hsa, ha⟩ => ?_) hfn)
  have hCa : C ≠ a := by
    rcases ha with z | z
    · rw [z]; exact f1
    · exact Ne.symm (f4 y a z)
  refine ⟨m, hn.sameBut hsa hCa, fun h' hs' => ⟨_, _, ?_, hq p hD⟩⟩
  exact I''.turned (t' := s''.toks) (it := C) (fun b o hb e => (hs'.2 b hb).trans e) f0 f1 f3 f4 f5
end
theorem comp_by {J : It} {g : TG} {tt : TT} {te : TE} {Q : List V → Hp → Prop} {σ : St} {H : Hp} (n : Nat) (Pv : Nat → List V → St → Hp → Prop) (h0 : Pv 0 [] σ H) (hl : ∀ i ys σ H, i ≤ n → Pv i ys σ H → ys.length < sizeLine)
    (go : ∀ i ys σ H, i < n → Pv i ys σ H → J.go i H) (stop : ∀ ys σ H, Pv n ys σ H → J.stop n H)
    (turn : ∀ i ys σ H, i < n → Pv i ys σ H → ∀ x H', J.yld i H x H' → g x σ H' fun σ2 H2 => tt σ2 H2 fun b H3 => if b = true then te σ2 H3 fun y H4 => Pv (i + 1) (ys ++ [y]) σ2 H4 else Pv (i + 1) ys σ2 H3)
    (after : ∀ ys σ H, Pv n ys σ H → Q ys H) : Comp J g tt te Q σ H := by
  refine ⟨fun i m ys σ H => i ≤ n ∧ m = n - i ∧ Pv i ys σ H, ⟨n, Nat.zero_le _, rfl, h0⟩, fun i m ys σ H ⟨hi, hm, p⟩ => ⟨hl i ys σ H hi p, ?_⟩⟩
  rcases Nat.lt_or_ge i n with h | h
  · exact .inr ⟨go i ys σ H h p, Pv (i + 1), fun ys' σ' H' q => ⟨n - (i + 1), by omega, h, rfl, q⟩, turn i ys σ H h p⟩
  · have e : i = n := Nat.le_antisymm hi h
    subst e
    exact .inl ⟨stop ys σ H p, after ys σ H p⟩
theorem comp_range {lo : Int} {n : Nat} {g : TG} {tt : TT} {te : TE} {Q : List V → Hp → Prop} {σ : St} {H : Hp} (Pv : Nat → List V → St → Hp → Prop) (hn : n < sizeLine) (h0 : Pv 0 [] σ H) (hl : ∀ i ys σ H, i ≤ n → Pv i ys σ H → ys.length ≤ i)
    (turn : ∀ i ys σ H, i < n → Pv i ys σ H → g (.int (lo + i)) σ H fun σ2 H2 => tt σ2 H2 fun b H3 => if b = true then te σ2 H3 fun y H4 => Pv (i + 1) (ys ++ [y]) σ2 H4 else Pv (i + 1) ys σ2 H3)
    (after : ∀ ys σ H, Pv n ys σ H → Q ys H) : Comp (Itr lo n) g tt te Q σ H :=
  comp_by n Pv h0 (fun i ys σ H hi p => Nat.lt_of_le_of_lt (Nat.le_trans (hl i ys σ H hi p) hi) hn) (fun i _ _ _ hi _ => hi) (fun _ _ _ _ => Nat.le_refl _) (fun i ys σ H hi p x H' y => by obtain ⟨rfl, rfl⟩ := y; exact turn i ys σ _ hi p) after
theorem comp_list {K : PySem.W.Frag} {a : Addr} (xs : List V) {g : TG} {tt : TT} {te : TE} {Q : List V → Hp → Prop} {σ : St} {H : Hp} (Pv : Nat → List V → St → Hp → Prop) (hn : xs.length < sizeLine) (h0 : Pv 0 [] σ H) (hl : ∀ i ys σ H, i ≤ xs.length → Pv i ys σ H → ys.length ≤ i ∧ SqL K H a xs)
    (turn : ∀ i ys σ H x, xs[i]? = some x → Pv i ys σ H → g x σ H fun σ2 H2 => tt σ2 H2 fun b H3 => if b = true then te σ2 H3 fun y H4 => Pv (i + 1) (ys ++ [y]) σ2 H4 else Pv (i + 1) ys σ2 H3)
    (after : ∀ ys σ H, Pv xs.length ys σ H → Q ys H) : Comp (Itl K a) g tt te Q σ H :=
  comp_by xs.length Pv h0 (fun i ys σ H hi p => Nat.lt_of_le_of_lt (Nat.le_trans (hl i ys σ H hi p).1 hi) hn) (fun i ys σ H hi p => ⟨xs, xs[i], (hl i ys σ H (Nat.le_of_lt hi) p).2, List.getElem?_eq_getElem hi⟩)
    (fun ys σ H p => ⟨xs, (hl _ ys σ H (Nat.le_refl _) p).2, Nat.le_refl _⟩) (fun i ys σ H hi p x H' y => by obtain ⟨rfl, y⟩ := y; exact turn i ys σ _ x (y xs (hl i ys σ _ (Nat.le_of_lt hi) p).2) p) after
theorem comp_tup {K : PySem.W.Frag} {a : Addr} (xs : List V) {g : TG} {tt : TT} {te : TE} {Q : List V → Hp → Prop} {σ : St} {H : Hp} (Pv : Nat → List V → St → Hp → Prop) (hn : xs.length < sizeLine) (h0 : Pv 0 [] σ H) (hl : ∀ i ys σ H, i ≤ xs.length → Pv i ys σ H → ys.length ≤ i ∧ SqT K H a xs)
    (turn : ∀ i ys σ H x, xs[i]? = some x → Pv i ys σ H → g x σ H fun σ2 H2 => tt σ2 H2 fun b H3 => if b = true then te σ2 H3 fun y H4 => Pv (i + 1) (ys ++ [y]) σ2 H4 else Pv (i + 1) ys σ2 H3)
    (after : ∀ ys σ H, Pv xs.length ys σ H → Q ys H) : Comp (Itt K a) g tt te Q σ H :=
  comp_by xs.length Pv h0 (fun i ys σ H hi p => Nat.lt_of_le_of_lt (Nat.le_trans (hl i ys σ H hi p).1 hi) hn) (fun i ys σ H hi p => ⟨xs, xs[i], (hl i ys σ H (Nat.le_of_lt hi) p).2, List.getElem?_eq_getElem hi⟩)
    (fun ys σ H p => ⟨xs, (hl _ ys σ H (Nat.le_refl _) p).2, Nat.le_refl _⟩) (fun i ys σ H hi p x H' y => by obtain ⟨rfl, y⟩ := y; exact turn i ys σ _ x (y xs (hl i ys σ _ (Nat.le_of_lt hi) p).2) p) after
end L2

namespace L2
open PySem PySem.Spec PyProof.Rows
open AutoSeq1 (wpAny_loadPart') in
set_option maxHeartbeats 4000000 in
theorem meets_enumS_new (k : SK) (l : Addr) (xs : Array Value) :
    Meets (Builtin.«enumerate.__new__» ⟨[.type "enumerate", .ref l], []⟩) (fun _ R s => SIs k s.heap l xs ∧
      R (.ok (.ret (.ref (s.heap.push (itObj k l)).objs.size))) { s with heap := (s.heap.push (itObj k l)).push { cls := .type "enumerate", data := .fields #[.none, .bool false, .ref s.heap.objs.size, rawInt 0, .none, .none] } }) := by
  cases k with
  | list =>
    exact .of_wp fun prog w A R s h => by
      obtain ⟨hp, g, d, tk, os⟩ := s; obtain ⟨hL, h⟩ := h
      have hsub := sub_enumerate
      have hL : Heap.IsList (Shared.heap ⟨hp, g, d, tk, os⟩) l xs := hL
      obtain ⟨ol, hl, hlc, nl, hld⟩ := id hL
      wp_walk using wpAny_loadPart' hl
      refine wpAny_stack_any fun st => wpAny_pure ?_
      split
      · rename_i c _ _ _ _ _
        cases (c == Value.type "enumerate")
        · wp_walk using wpAny_loadPart' hl, wpAny_pyIter_list hL
          exact ⟨_, rfl, h⟩
        · wp_walk using wpAny_loadPart' hl, wpAny_pyIter_list hL
          exact ⟨_, rfl, h⟩
      · wp_walk using wpAny_loadPart' hl, wpAny_pyIter_list hL
        exact ⟨_, rfl, h⟩
  | tuple =>
    exact .of_wp fun prog w A R s h => by
      obtain ⟨hp, g, d, tk, os⟩ := s; obtain ⟨hL, h⟩ := h
      have hsub := sub_enumerate
      have hL : Heap.IsTuple (Shared.heap ⟨hp, g, d, tk, os⟩) l xs := hL
      obtain ⟨ol, hl, hlc, nl, hld⟩ := id hL
      wp_walk using wpAny_loadPart' hl
      refine wpAny_stack_any fun st => wpAny_pure ?_
      split
      · rename_i c _ _ _ _ _
        cases (c == Value.type "enumerate")
        · wp_walk using wpAny_loadPart' hl, wpAny_pyIter_tuple hL
          exact ⟨_, rfl, h⟩
        · wp_walk using wpAny_loadPart' hl, wpAny_pyIter_tuple hL
          exact ⟨_, rfl, h⟩
      · wp_walk using wpAny_loadPart' hl, wpAny_pyIter_tuple hL
        exact ⟨_, rfl, h⟩
section
variable {prog : Program} {w : World} {A : Around} {E : Value → Shared → Prop} {s : Shared}
theorem call_enumS {k : SK} {l : Addr} {xs : Array Value} {Q : Value → Shared → Prop} (hL : SIs k s.heap l xs)
    (h : ∀ h', IsEnum h' (s.heap.objs.size + 1) s.heap.objs.size 0 .none → SIt k h' s.heap.objs.size l 0 → (∀ b o, s.heap.get? b = some o → h'.get? b = some o) → Q (.ref (s.heap.objs.size + 1)) { s with heap := h' }) :
    wpAny (model prog w) A (call (.type "enumerate") [.ref l]) Q E s := by
  refine callType_new F.called_enumerate (by decide) (F.typeCall_enumerate_1 _) (F.newCall_enumerate_1 _) (fun obj => F.args_object_init_2 obj _) F.entry_enumerate_new (meets_enumS_new k l xs) ⟨hL, ?_⟩
  have hz : (s.heap.push (itObj k l)).objs.size = s.heap.objs.size + 1 := Heap.size_push ..
  have r1 : (itObj k l).isFreed = false := by cases k <;> rfl
  have he := Heap.get?_push_size (s.heap.push (itObj k l)) (o := { cls := .type "enumerate", data := .fields #[.none, .bool false, .ref s.heap.objs.size, rawInt 0, .none, .none] }) rfl
  rw [hz] at he
  show _ ∧ _
  rw [hz]
  exact ⟨⟨_, he, rfl⟩, h _ he (itObj_it (Heap.get?_push_of_some _ (Heap.get?_push_size _ r1))) fun b o x => Heap.get?_push_of_some _ (Heap.get?_push_of_some _ x)⟩
theorem enumS_item {k : SK} {e it l : Addr} {i : Nat} {items : Array Value} {x old : Value} {Q : Value → Shared → Prop}
    (he : IsEnum s.heap e it i old) (hit : SIt k s.heap it l i) (hl : SIs k s.heap l items) (hx : items[i]? = some x) (hne : e ≠ it)
    (hQ : ∀ h', IsEnumOut h' e it ((i : Int) + 1) x s.heap.objs.size → SIt k h' it l (i + 1) →
      h'.get? s.heap.objs.size = some { cls := .type "tuple", data := .seq #[.int i s.toks, x] } → h'.objs.size = s.heap.objs.size + 1 →
      (∀ b o, b ≠ e → b ≠ it → s.heap.get? b = some o → h'.get? b = some o) → Q (.ref s.heap.objs.size) { s with heap := h', toks := s.toks + 1 }) :
    wpAny (model prog w) A (Builtin.«enumerate.__next__» ⟨[.ref e], []⟩) (fun fin s' => ∃ v, fin = .done (.ret v) ∧ Q v s') E s := by
  obtain ⟨hp, g, d, tk, os⟩ := s
  show wpAny _ _ (field (.ref e) 2 >>= _) _ _ _
  refine wpAny_bind (wpAny_field he rfl (x := .ref it) rfl ?_)
  refine wpAny_bind (nextOf_item hit hl hx fun h₁ hit₁ hs₁ => ?_)
  replace hs₁ : Heap.SameBut it hp h₁ := hs₁
  have he₁ : IsEnum h₁ e it i old := (hs₁.2 e hne).trans he
  show wpAny _ _ (field (.ref e) 3 >>= _) _ _ ⟨h₁, g, d, tk, os⟩
  refine wpAny_bind (wpAny_field he₁ rfl (x := rawInt i) rfl ?_)
  show wpAny _ _ (field (.ref e) 4 >>= _) _ _ ⟨h₁, g, d, tk, os⟩
  refine wpAny_bind (wpAny_field he₁ rfl (x := .none) rfl ?_)
  show wpAny _ _ (mkInt i >>= _) _ _ ⟨h₁, g, d, tk, os⟩
  refine wpAny_bind (wpAny_mkInt ?_)
  show wpAny _ _ (setField (.ref e) 3 (rawInt ((i : Int) + 1)) >>= _) _ _ ⟨h₁, g, d, tk + 1, os⟩
  refine wpAny_bind (wpAny_setField_rec he₁ (by simp) fun h₂ he₂ hs₂ => ?_)
  replace hs₂ : Heap.SameBut e h₁ h₂ := hs₂
  replace he₂ : IsEnum h₂ e it ((i : Int) + 1) old := he₂
  show wpAny _ _ (setField (.ref e) 4 .none >>= _) _ _ ⟨h₂, g, d, tk + 1, os⟩
  refine wpAny_bind (wpAny_setField_rec he₂ (by simp) fun h₃ he₃ hs₃ => ?_)
  replace hs₃ : Heap.SameBut e h₂ h₃ := hs₃
  replace he₃ : IsEnum h₃ e it ((i : Int) + 1) old := he₃
  show wpAny _ _ (newTuple [.int i tk, x] >>= _) _ _ ⟨h₃, g, d, tk + 1, os⟩
  refine wpAny_bind (wpAny_newTuple ?_)
  have he₄ : IsEnum (h₃.push { cls := .type "tuple", data := .seq #[.int i tk, x] }) e it ((i : Int) + 1) old := Heap.get?_push_of_some _ he₃
  generalize hh₄ : h₃.push { cls := .type "tuple", data := .seq #[.int i tk, x] } = h₄ at he₄
  have hsz : h₃.objs.size = hp.objs.size := by rw [hs₃.1, hs₂.1, hs₁.1]
  have hel : e < hp.objs.size := Heap.lt_size he
  have ht₄ : h₄.get? hp.objs.size = some { cls := .type "tuple", data := .seq #[.int i tk, x] } := by rw [← hh₄, ← hsz]; exact Heap.get?_push_size _ rfl
  have hz₄ : h₄.objs.size = hp.objs.size + 1 := by rw [← hh₄, Heap.size_push, hsz]
  have hk₄ : ∀ b o, b ≠ e → b ≠ it → hp.get? b = some o → h₄.get? b = some o := fun b o hbe hbi hb => by
    rw [← hh₄]; exact Heap.get?_push_of_some _ (hs₃.extBut b o hbe (hs₂.extBut b o hbe (hs₁.extBut b o hbi hb)))
  have hit₄ : SIt k h₄ it l (i + 1) := by
    rw [← hh₄]; exact ((hit₁.ext hs₂.extBut (Ne.symm hne)).ext hs₃.extBut (Ne.symm hne)).at fun o ho => Heap.get?_push_of_some _ ho
  show wpAny _ _ (Builtin.SmallTypes.ownedTupleIsFree (.ref e) >>= _) _ _ ⟨h₄, g, d, tk + 1, os⟩
  rw [hsz]
  clear hh₄ he₃ hs₃ he₂ hs₂ he₁ hs₁ hit₁ hsz h₃ h₂ h₁
  refine wpAny_bind ?_
  · unfold Builtin.SmallTypes.ownedTupleIsFree
    refine wpAny_bind (wpAny_field he₄ rfl (x := .none) rfl (wpAny_pure ?_))
    simp only [if_true]
    refine wpAny_bind (wpAny_rule ?_)
    refine wpAny_bind (wpAny_field he₄ rfl (x := old) rfl ?_)
    refine wpAny_bind (wpAny_setField_rec he₄ (by simp) fun h₅ he₅ hs₅ => ?_)
    replace hs₅ : Heap.SameBut e h₄ h₅ := hs₅
    replace he₅ : IsEnum h₅ e it ((i : Int) + 1) x := he₅
    show wpAny _ _ (Builtin.SmallTypes.ownedTupleHandOut (.ref e) (.ref hp.objs.size) >>= _) _ _ ⟨h₅, g, d, tk + 1, os⟩
    refine wpAny_bind ?_
    · unfold Builtin.SmallTypes.ownedTupleHandOut
      refine wpAny_bind (wpAny_setField_rec he₅ (by simp) fun h₆ he₆ hs₆ => ?_)
      replace hs₆ : Heap.SameBut e h₅ h₆ := hs₆
      replace he₆ : IsEnumOut h₆ e it ((i : Int) + 1) x hp.objs.size := he₆
      refine wpAny_setField_rec he₆ (by simp) fun h₇ he₇ hs₇ => ?_
      replace hs₇ : Heap.SameBut e h₆ h₇ := hs₇
      replace he₇ : IsEnumOut h₇ e it ((i : Int) + 1) x hp.objs.size := he₇
      refine wpAny_bind (wpAny_letGo (wpAny_pure ⟨_, rfl, hQ h₇ he₇ ?_ ?_ ?_ ?_⟩))
      · exact ((hit₄.ext hs₅.extBut (Ne.symm hne)).ext hs₆.extBut (Ne.symm hne)).ext hs₇.extBut (Ne.symm hne)
      · exact hs₇.extBut _ _ (Nat.ne_of_gt hel) (hs₆.extBut _ _ (Nat.ne_of_gt hel) (hs₅.extBut _ _ (Nat.ne_of_gt hel) ht₄))
      · rw [hs₇.1, hs₆.1, hs₅.1, hz₄]
      · exact fun b o hbe hbi hb => hs₇.extBut b o hbe (hs₆.extBut b o hbe (hs₅.extBut b o hbe (hk₄ b o hbe hbi hb)))
theorem pyNext_enumS_item {k : SK} {e it l : Addr} {i : Nat} {items : Array Value} {x old : Value} {Q : Option Value → Shared → Prop}
    (he : IsEnum s.heap e it i old) (hit : SIt k s.heap it l i) (hl : SIs k s.heap l items) (hx : items[i]? = some x) (hne : e ≠ it)
    (hQ : ∀ h', IsEnumOut h' e it ((i : Int) + 1) x s.heap.objs.size → SIt k h' it l (i + 1) →
      h'.get? s.heap.objs.size = some { cls := .type "tuple", data := .seq #[.int i s.toks, x] } → h'.objs.size = s.heap.objs.size + 1 →
      (∀ b o, b ≠ e → b ≠ it → s.heap.get? b = some o → h'.get? b = some o) → Q (some (.ref s.heap.objs.size)) { s with heap := h', toks := s.toks + 1 }) :
    wpAny (model prog w) A (pyNext (.ref e)) Q E s := by
  have hT : s.TypeIs (.ref e) "enumerate" := ⟨_, he, rfl⟩
  unfold pyNext
  exact wpAny_bind (wpAny_attempt (wpAny_callSpecial?_slot (name := Str.ofString "__next__") hT F.slot_enumerate_next
    (wpAny_call_entry F.slot_enumerate_next hT F.entry_enumerate_next
      (enumS_item he hit hl hx hne fun h' a b c d k => wpAny_pure (hQ h' a b c d k)) (F.args_enumerate_next_1 _))))
theorem pyNext_enumS_end {k : SK} {e it l : Addr} {i : Nat} {items : Array Value} {old : Value} {Q : Option Value → Shared → Prop} (hh : A.handled = none)
    (he : IsEnum s.heap e it i old) (hit : SIt k s.heap it l i) (hl : SIs k s.heap l items) (hx : items[i]? = none)
    (hQ : ∀ h', Heap.ExtBut it s.heap h' → Q none { s with heap := h' }) : wpAny (model prog w) A (pyNext (.ref e)) Q E s := by
  have hT : s.TypeIs (.ref e) "enumerate" := ⟨_, he, rfl⟩
  unfold pyNext
  refine wpAny_bind (wpAny_attempt (wpAny_callSpecial?_slot (name := Str.ofString "__next__") hT F.slot_enumerate_next
    (wpAny_call_entry F.slot_enumerate_next hT F.entry_enumerate_next ?_ (F.args_enumerate_next_1 _))))
  show wpAny _ _ (field (.ref e) 2 >>= _) _ _ _
  refine wpAny_bind (wpAny_field he rfl (x := .ref it) rfl ?_)
  refine wpAny_bind (nextOf_end hh hit hl hx fun h' x he' hx' => ?_)
  obtain ⟨o, ho, hc⟩ := hx'
  refine wpAny_bind (wpAny_isInstance (T := "StopIteration") (b := true) ⟨o, ho, hc⟩ isSubtype_stop ?_)
  exact wpAny_pure (hQ _ he')
end
def Itn (K : PySem.W.Frag) (k : SK) (a : Addr) : It :=
  ⟨fun i H => ∃ xs x, Sq k K H a xs ∧ xs[i]? = some x,
   fun i H v H' => ∃ T, H T = none ∧ v = .ref T ∧ ∀ xs, Sq k K H a xs → ∃ x, xs[i]? = some x ∧ H' = upd H T (.tup [.int i, x]),
   fun i H => ∃ xs, Sq k K H a xs ∧ xs.length ≤ i⟩
theorem turn_enum {P : Program} {w : World} {K : PySem.W.Frag} {elts : List Expr} {kk : Nat} {tpos : Pos} {k : SK} {e it a : Addr} (hne : e ≠ it) :
    Turn P w K (.Tuple elts kk tpos) (Itn K k a) [e, it] e (fun i h => (∃ old, IsEnum h e it i old) ∧ SIt k h it a i) where
  mem := by simp
  obj := fun i h st b hb => by
    obtain ⟨⟨old, he⟩, h1⟩ := st
    simp only [List.mem_cons, List.not_mem_nil, or_false] at hb
    rcases hb with rfl | rfl
    · exact ⟨_, he, fun v q => nomatch q⟩
    · exact h1.obj
  keep := fun i h h' st k => by
    obtain ⟨⟨old, he⟩, h1⟩ := st
    exact ⟨⟨old, k _ (by simp) _ he⟩, h1.at fun o e => k _ (by simp) o e⟩
  item := by
    intro X hP hw hK hc i pins s σ H E I hf st hg
    subst hP hw hK
    obtain ⟨⟨old, he⟩, h1⟩ := st
    obtain ⟨xs, x, q1, hx⟩ := hg
    obtain ⟨ix, rx, px⟩ := I.sis q1
    obtain ⟨u, hu, ru⟩ := rx.get hx
    refine pyNext_enumS_item he h1 px (x := u) (by simpa using hu) hne fun h' a1 a2 a3 a4 a5 => ?_
    refine ⟨_, rfl, wpAny_letOwnedTupleGo_enum (s := { s with heap := h', toks := s.toks + 1 }) a1 fun h'' b1 b2 => ?_⟩
    have elt : e < s.heap.objs.size := Heap.lt_size he
    have ilt : it < s.heap.objs.size := by obtain ⟨o, ho, _⟩ := h1.obj; exact Heap.lt_size ho
    have k2 : ∀ c o, c ∉ [e, it] → s.heap.get? c = some o → h''.get? c = some o := fun c o hc ec => by
      simp only [List.mem_cons, List.not_mem_nil, or_false, not_or] at hc
      exact b2.extBut _ _ hc.1 (a5 c o hc.1 hc.2 ec)
    have hT2 : h''.get? s.heap.objs.size = some { cls := .type "tuple", data := .seq #[.int i s.toks, u] } := b2.extBut _ _ (Nat.ne_of_gt elt) a3
    refine ⟨.ref s.heap.objs.size, upd H s.heap.objs.size (.tup [.int i, x]), I.turnedNew (t' := s.toks + 1) (o := .tup [.int i, x]) k2 hf (Nat.le_refl _)
      ⟨by show 2 ≤ sizeLine; decide, [.int i s.toks, u], .cons ⟨_, rfl⟩ (.cons ru .nil), ⟨_, hT2, rfl, _, rfl⟩⟩, rfl,
      ⟨_, I.hok.fresh (Nat.le_refl _), rfl, fun xs' e1 => ?_⟩, ⟨⟨u, by simpa using b1⟩, a2.at fun o eo => b2.extBut _ _ (Ne.symm hne) eo⟩, fun b hb => ?_⟩
    · rw [I.sq_inj e1 q1]
      exact ⟨x, hx, rfl⟩
    · have blt : b < s.heap.objs.size := by
        simp only [List.mem_cons, List.not_mem_nil, or_false] at hb
        rcases hb with rfl | rfl
        · exact elt
        · exact ilt
      rw [upd_ne (Nat.ne_of_lt blt)]
      exact (hf b hb).1
  done := by
    intro X hP hw hK hc i pins s σ H E I hf st hg
    subst hP hw hK
    obtain ⟨⟨old, he⟩, h1⟩ := st
    obtain ⟨xs, q1, hl⟩ := hg
    obtain ⟨ix, rx, px⟩ := I.sis q1
    have l1 := rx.length
    refine pyNext_enumS_end (I.ok.hd hc) he h1 px (by simp; omega) fun h' hk => ⟨rfl, I.turnedL (t' := s.toks) (its := [e, it]) (fun b o hb eb => ?_) hf⟩
    simp only [List.mem_cons, List.not_mem_nil, or_false, not_or] at hb
    exact hk b o hb.2 eb
  self := fun _ _ _ _ _ st h => by
    obtain ⟨⟨old, he⟩, _⟩ := st
    exact wpAny_pyIter_enum he h
section
variable {X : Cx} {elts : List Expr} {kk : Nat} {tpos : Pos}
def iEnum (K : PySem.W.Frag) (k : SK) (ta : TA) : TI := fun σ H R => ta σ H fun vs H1 => ∃ a, vs = [.ref a] ∧ (∃ xs, Sq k K H1 a xs) ∧ R (Itn K k a) H1
theorem pi_enum (k : SK) {a : Expr} {ta : TA} {p pos : Pos} (hg : Gl X "enumerate") (hm : X.mg "enumerate" = none) (ha : PA X [a] ta) (hs : starEach [a] X.env = [(false, eval a X.env)] := by rfl) :
    PI X (.Tuple elts kk tpos) (.Call (.Name "enumerate" p) [a] [] pos) (iEnum X.K k ta) := by
  intro pins s σ H R I h
  refine Call_ (ld_blt I hg hm PyProof.Rows.Boot.«enumerate» (PyProof.Rows.callWith_type1 (thn (ha pos pins s σ H _ I h) fun us s1 ⟨vs, H1, I1, r1, q1⟩ => ?_) hs rfl))
  obtain ⟨a', e, ⟨xs, qx⟩, q⟩ := q1
  subst e
  cases r1 with
  | cons r rr =>
    cases rr
    cases r
    obtain ⟨ix, rx, px⟩ := I1.sis qx
    refine call_enumS px fun h' b1 b2 b3 => wpAny_pyIter_enum (s := { s1 with heap := h' }) b1 ?_
    have nn : ∀ b, s1.heap.objs.size ≤ b → FpOk X pins H1 b := fun b hb => I1.fpOk hb (I1.hok.fresh hb)
    refine ⟨_, [s1.heap.objs.size + 1, s1.heap.objs.size], _, _, H1, rfl, I1.kept (t' := s1.toks) b3, turn_enum (k := k) (Nat.ne_of_gt (Nat.lt_succ_self _)), ⟨⟨_, b1⟩, b2⟩, fun b hb => ?_, q⟩
    simp only [List.mem_cons, List.not_mem_nil, or_false] at hb
    rcases hb with rfl | rfl
    · exact nn _ (Nat.le_succ _)
    · exact nn _ (Nat.le_refl _)
end
theorem loop_enum {K : PySem.W.Frag} {k : SK} {a : Addr} {xs : List V} {g : TG} {tb : TS} {D : Ends} {σ : St} {H : Hp} (Pv : Nat → St → Hp → Prop) (h0 : Pv 0 σ H)
    (hl : ∀ i σ H, i ≤ xs.length → Pv i σ H → Sq k K H a xs)
    (hs : ∀ i x σ H T, xs[i]? = some x → Pv i σ H → H T = none → g (.ref T) σ (upd H T (.tup [.int i, x])) fun σ2 H2 => tb { D with nx := Pv (i + 1), ct := Pv (i + 1), bk := D.nx } σ2 H2)
    (hd : ∀ σ H, Pv xs.length σ H → D.nx σ H) : Loop (Itn K k a) g tb D σ H := by
  refine ⟨fun i m σ H => m = xs.length - i ∧ i ≤ xs.length ∧ Pv i σ H, ⟨xs.length, by simp, Nat.zero_le _, h0⟩, ?_⟩
  rintro i m σ H ⟨rfl, hi, p⟩
  have q1 := hl i σ H hi p
  by_cases hlt : i < xs.length
  · refine .inr ⟨⟨xs, xs[i], q1, by simp [hlt]⟩, Pv (i + 1), fun σ' H' p' => ⟨xs.length - (i + 1), by omega, rfl, hlt, p'⟩, fun x H' y => ?_⟩
    obtain ⟨T, hT, rfl, y⟩ := y
    obtain ⟨u, e1, rfl⟩ := y xs q1
    exact hs i u σ H T e1 p hT
  · have e : i = xs.length := by omega
    refine .inl ⟨⟨xs, q1, by omega⟩, ?_⟩
    subst e
    exact hd σ H p
theorem comp_zip {K : PySem.W.Frag} {k1 k2 : SK} {a b : Addr} (xs zs : List V) {g : TG} {tt : TT} {te : TE} {Q : List V → Hp → Prop} {σ : St} {H : Hp} (Pv : Nat → List V → St → Hp → Prop) (hn : xs.length < sizeLine) (hz : xs.length = zs.length) (h0 : Pv 0 [] σ H) (hl : ∀ i ys σ H, i ≤ xs.length → Pv i ys σ H → ys.length ≤ i ∧ Sq k1 K H a xs ∧ Sq k2 K H b zs)
    (turn : ∀ i ys σ H x z T, xs[i]? = some x → zs[i]? = some z → Pv i ys σ H → H T = none → g (.ref T) σ (upd H T (.tup [x, z])) fun σ2 H2 => tt σ2 H2 fun b H3 => if b = true then te σ2 H3 fun y H4 => Pv (i + 1) (ys ++ [y]) σ2 H4 else Pv (i + 1) ys σ2 H3)
    (after : ∀ ys σ H, Pv xs.length ys σ H → Q ys H) : Comp (Itz K k1 k2 a b) g tt te Q σ H :=
  comp_by xs.length Pv h0 (fun i ys σ H hi p => Nat.lt_of_le_of_lt (Nat.le_trans (hl i ys σ H hi p).1 hi) hn)
    (fun i ys σ H hi p => ⟨xs, zs, xs[i], zs[i]'(hz ▸ hi), (hl i ys σ H (Nat.le_of_lt hi) p).2.1, (hl i ys σ H (Nat.le_of_lt hi) p).2.2, List.getElem?_eq_getElem hi, List.getElem?_eq_getElem (hz ▸ hi)⟩)
    (fun ys σ H p => ⟨xs, zs, (hl _ ys σ H (Nat.le_refl _) p).2.1, (hl _ ys σ H (Nat.le_refl _) p).2.2, .inl (Nat.le_refl _)⟩) (fun i ys σ H hi p x H' y => by
      obtain ⟨T, hT, rfl, y⟩ := y
      obtain ⟨u, v, e1, e2, rfl⟩ := y xs zs (hl i ys σ _ (Nat.le_of_lt hi) p).2.1 (hl i ys σ _ (Nat.le_of_lt hi) p).2.2
      exact turn i ys σ _ u v T e1 e2 p hT) after
end L2

namespace L2
open PySem PySem.Spec PyProof.Rows
section
variable {prog : Program} {w : World} {A : Around} {E : Value → Shared → Prop} {s : Shared}
end
section
variable {prog : Program} {w : World} {K : Type} [DecidableEq K] {knd : KeyKind prog w K} {A : Around} {R : Result → Shared → Prop}
end
section
variable {prog : Program} {w : World} {K : Type} [DecidableEq K] {knd : KeyKind prog w K} {A : Around} {E : Value → Shared → Prop} {s : Shared}
end
end L2

namespace L2
open PySem PySem.Spec PyProof.Rows
abbrev IsZipK (h : Heap) (z TI TO : Addr) (T : Addr) (f1 : Bool) : Prop :=
  h.get? z = some { cls := .type "zip", dict := none, data := .fields #[rawInt T, .bool f1, .bool false, .ref TI, .ref TO], slots := #[] }
section
variable {prog : Program} {w : World} {A : Around} {E : Value → Shared → Prop} {s : Shared}
end
def PairsAt (h : Heap) (us : List Value) (xs ys : List Value) : Prop := us.length ≤ xs.length ∧ us.length ≤ ys.length ∧ ∀ (j : Nat) (u : Value), us[j]? = some u → ∃ (t : Addr) (x y : Value), u = .ref t ∧ xs[j]? = some x ∧ ys[j]? = some y ∧ IsPair h t x y
section
variable {prog : Program} {w : World} {A : Around} {R : Result → Shared → Prop}
end
section
variable {prog : Program} {w : World} {A : Around} {E : Value → Shared → Prop} {s : Shared}
end
end L2

namespace L2
open PySem PySem.Spec PyProof.Rows
section
variable {X : Cx} {pins : List (Addr × Obj)} {σ : List (Option V)} {H H' : Hp} {s : Shared} {h' : Heap}
end
section
variable {X : Cx}
def tLZ (K : PySem.W.Frag) (k1 k2 : SK) (ta : TA) : TE := fun σ H Q => ta σ H fun vs H1 => ∃ a b xs ys, vs = [.ref a, .ref b] ∧ Sq k1 K H1 a xs ∧ Sq k2 K H1 b ys ∧ xs.length = ys.length ∧ xs.length ≤ sizeLine ∧
  ∀ (p : Addr) (ts : List Addr) (H' : Hp), Ch [] H1 H' → H1 p = none → H' p = some (.lst (ts.map V.ref)) → ts.length = xs.length →
    (∀ (i : Nat) (t : Addr) (x y : V), ts[i]? = some t → xs[i]? = some x → ys[i]? = some y → H' t = some (.tup [x, y])) → Q (.ref p) H'
def adr : Value → Addr
  | .ref a => a
  | _ => 0
theorem bools_truth {prog : Program} {w : World} {A : Around} {bs : List Bool} : TruthOf prog w A (fun i v => (bs.map fun b => Value.bool b).toArray[i]? = some v) (fun i => bs.getD i false) := by
  intro i v s Q E hP hQ
  have hP' : (bs.map fun b => Value.bool b)[i]? = some v := by simpa using hP
  rw [List.getElem?_map] at hP'
  cases e : bs[i]? with
  | none => rw [e] at hP'; cases hP'
  | some b =>
    rw [e] at hP'
    cases hP'
    have : bs.getD i false = b := by rw [List.getD_eq_getElem?_getD, e]; rfl
    have hQ : Q (bs.getD i false) s := hQ
    rw [this] at hQ
    exact wpAny_pure hQ
theorem range_all (bs : List Bool) : ((List.range bs.length).all fun i => bs.getD i false) = bs.all id := by
  rw [Bool.eq_iff_iff, List.all_eq_true, List.all_eq_true]
  constructor
  · intro h b hb
    obtain ⟨i, hi, rfl⟩ := List.mem_iff_getElem.mp hb
    have := h i (List.mem_range.mpr hi)
    rw [List.getD_eq_getElem?_getD, List.getElem?_eq_getElem hi] at this
    exact this
  · intro h i hi
    have hi := List.mem_range.mp hi
    rw [List.getD_eq_getElem?_getD, List.getElem?_eq_getElem hi]
    exact h _ (List.getElem_mem hi)
theorem vals_bools : ∀ {bs : List Bool} {its : List Value}, Vals (bs.map V.bl) its → its = bs.map fun b => Value.bool b
  | [], _, .nil => rfl
  | b :: bs, _, .cons r t => by rw [List.map_cons, vals_bools t]; cases r; rfl
theorem call_all (hc : X.calm = true) : CallR X (.builtin "all") (fun xs H Q => ∃ (p : Addr) (bs : List Bool), xs = [.ref p] ∧ H p = some (.lst (bs.map V.bl)) ∧ Q (.bl (bs.all id)) H) := by
  intro pins s σ H xs us Q I r h
  obtain ⟨p, bs, rfl, hp, q⟩ := h
  obtain ⟨u, rfl, ru⟩ := vals1 r
  cases ru
  obtain ⟨z, its, n, rv, e⟩ := I.hok p _ hp
  have ei := vals_bools rv
  subst ei
  have hl : s.heap.IsList p (bs.map fun b => Value.bool b).toArray := ⟨_, e, rfl, n, rfl⟩
  refine call_all_walk (wpAny_pyIter_list hl ?_)
  have hne : p ≠ s.heap.objs.size := Nat.ne_of_lt (Heap.lt_size e)
  refine ⟨s.heap.objs.size, _, _, _, _, _, _, rfl, Walks.list (by first | exact I.ok.hd hc | (show X.A.in1.handled = none; exact I.ok.hd hc)) s.heap.objs.size p hne (bs.map fun b => Value.bool b).toArray,
    ⟨⟨_, Heap.get?_push_size _ rfl, rfl, rfl⟩, ⟨_, Heap.get?_push_of_some _ e, rfl, n, rfl⟩⟩, bools_truth, fun h' tk hk => ?_⟩
  have sz : (bs.map fun b => Value.bool b).toArray.size = bs.length := by simp
  rw [sz, range_all]
  exact ⟨.bl (bs.all id), H, I.kept (t' := tk) fun b o eb => hk b o (by simp; exact Nat.ne_of_lt (Heap.lt_size eb)) (Heap.get?_push_of_some _ eb), rfl, q⟩
end
end L2

namespace L2
open PySem PySem.Spec PyProof.Rows
section
variable {X : Cx} {pins : List (Addr × Obj)} {σ : St} {H : Hp} {s : Shared} {A : Around} {E : Value → Shared → Prop} {Q : Value → Shared → Prop} {b : Bool}
theorem isinsts_ok {x : V} {u t : Value} {tp : Addr} {its : List Value} {o : Obj} {n : Nat} (I : Inv X pins σ H s) (rx : RelV x u) (ty : TyOf X.K H x t) (ho : s.heap.get? tp = some o) (hoc : o.cls = .type "tuple") (hod : o.data = .seq its.toArray n)
    (e : PySem.W.kitAny X.K t its = some b) (h : ∀ tk, Q (.bool b) { s with toks := tk }) :
    wpAny (model X.prog X.w) A (call (.builtin "isinstance") [u, .ref tp]) Q E s := by
  obtain ⟨c0, d0, t0, l0⟩ := o
  replace hoc : c0 = .type "tuple" := hoc
  replace hod : t0 = .seq its.toArray n := hod
  subst hoc hod
  cases ty with
  | non => cases (show u = Value.none from rx); exact PySem.W.kia_tup PySem.W.kitx_none I.kIn True.intro ho e (fun z => nomatch z) h
  | bl y => cases (show u = Value.bool y from rx); exact PySem.W.kia_tup PySem.W.kitx_bool I.kIn True.intro ho e (fun z => nomatch z) h
  | int i => obtain ⟨t, q⟩ := (show ∃ t, u = Value.int i t from rx); cases q; exact PySem.W.kia_tup PySem.W.kitx_int I.kIn True.intro ho e (fun z => nomatch z) h
  | str y => obtain ⟨t, q⟩ := (show ∃ t, u = Value.str y t from rx); cases q; exact PySem.W.kia_tup PySem.W.kitx_str I.kIn True.intro ho e (fun z => nomatch z) h
  | flt y => obtain ⟨t, q⟩ := (show ∃ t, u = Value.float y t from rx); cases q; exact PySem.W.kia_tup PySem.W.kitx_float I.kIn True.intro ho e (fun z => nomatch z) h
  | @lst a xs ea =>
    cases (show u = Value.ref a from rx)
    obtain ⟨_, _, n, _, h1⟩ := (show ObjOk X.prog X.w H s.heap a (.lst xs) from I.hok a _ ea)
    exact PySem.W.kia_tup PySem.W.kitx_list I.kIn ⟨_, h1, rfl⟩ ho e (fun z => nomatch z) h
  | @frz a ob xs ea =>
    cases (show u = Value.ref a from rx)
    obtain ⟨_, _, _, n, _, h1⟩ := (show ObjOk X.prog X.w H s.heap a (.frz ob (.lst xs)) from I.hok a _ ea)
    exact PySem.W.kia_tup PySem.W.kitx_list I.kIn ⟨_, h1, rfl⟩ ho e (fun z => nomatch z) h
  | @tup a xs ea =>
    cases (show u = Value.ref a from rx)
    obtain ⟨_, _, _, p⟩ := (show ObjOk X.prog X.w H s.heap a (.tup xs) from I.hok a _ ea)
    obtain ⟨o, h1, h2, _⟩ := p
    exact PySem.W.kia_tup PySem.W.kitx_tuple I.kIn ⟨o, h1, h2⟩ ho e (fun z => nomatch z) h
  | @dK a kvs ea =>
    cases (show u = Value.ref a from rx)
    obtain ⟨_, _, vs, _, p⟩ := (show ObjOk X.prog X.w H s.heap a (.dK kvs) from I.hok a _ ea)
    obtain ⟨o, es, ep, h1, h2, _⟩ := p
    exact PySem.W.kia_tup PySem.W.kitx_dict I.kIn ⟨o, h1, h2.1⟩ ho e (fun z => nomatch z) h
  | @dT a kvs ea =>
    cases (show u = Value.ref a from rx)
    obtain ⟨_, _, xs, _, o, es, ep, h1, h2, _⟩ := (show ObjOk X.prog X.w H s.heap a (.dT kvs) from I.hok a _ ea)
    exact PySem.W.kia_tup PySem.W.kitx_dict I.kIn ⟨o, h1, h2.1⟩ ho e (fun z => nomatch z) h
  | @ins a C dx fs ea cl ha hn htk hm =>
    cases (show u = Value.ref a from rx)
    obtain ⟨mA, O, _⟩ := ins_get I.hok ea
    obtain ⟨od, J, _⟩ := O.look
    exact PySem.W.kia_tup (PySem.W.kitx_own (cl.get _) cl.hd ha hn htk hm) I.kIn J ho e (fun z => nomatch z) h
end
def rIsTs (K : PySem.W.Frag) : List V → Hp → VK → Prop := fun xs H Q => ∃ (x : V) (p : Addr) (Ts : List String) (t : Value) (b : Bool), xs = [x, .ref p] ∧ H p = some (.tup (Ts.map V.ty)) ∧ TyOf K H x t ∧ PySem.W.kitAny K t (Ts.map Value.type) = some b ∧ Q (.bl b) H
theorem vals_tys : ∀ {Ts : List String} {us : List Value}, Vals (Ts.map V.ty) us → us = Ts.map Value.type
  | [], _, .nil => rfl
  | T :: Ts, _, .cons r t => by rw [List.map_cons, vals_tys t]; cases r; rfl
theorem call_isTs {X : Cx} : CallR X (.builtin "isinstance") (rIsTs X.K) := by
  intro pins s σ H xs us Q I r h
  obtain ⟨x, p, Ts, t, b, rfl, hp, ty, e, q⟩ := h
  obtain ⟨u, v, rfl, ru, rv⟩ := vals2 r
  cases rv
  obtain ⟨_, its, rt, o, ho, hoc, n, hod⟩ := I.hok p _ hp
  have := vals_tys rt
  subst this
  exact isinsts_ok I ru ty ho hoc hod e fun tk => ⟨.bl b, H, I.tok _, rfl, q⟩
example (K : PySem.W.Frag) : PySem.W.kitAny K (.type "list") [.type "list", .type "tuple"] = some true := rfl
example (K : PySem.W.Frag) : PySem.W.kitAny K (.type "tuple") [.type "list", .type "tuple"] = some true := rfl
example (K : PySem.W.Frag) : PySem.W.kitAny K (.type "int") [.type "list", .type "tuple"] = some false := rfl
end L2

namespace L2
open PySem PySem.Spec PyProof.Rows
structure MethOk (P : Program) (w : World) (K : PySem.W.Frag) (mg : Str → Option Value) (base : Heap) (CX : CXT) (k : Nat) (C : Addr) (m : Str) (ps : List Str) (sp : Sp) : Prop where
  cl : Cls K C
  ex : ∃ (f : Addr) (fd : FuncData), FnOk P w K mg base CX k f fd ps sp ∧ Binds K fd ps [] ∧ Meth K C m f
theorem MethOk.mono {P : Program} {w : World} {K : PySem.W.Frag} {mg : Str → Option Value} {base : Heap} {CX : CXT} {j k : Nat} {C : Addr} {m : Str} {ps : List Str} {sp : Sp} (D : MethOk P w K mg base CX j C m ps sp) (h : j ≤ k) : MethOk P w K mg base CX k C m ps sp := by
  obtain ⟨f, fd, F, b⟩ := D.ex
  exact ⟨D.cl, f, fd, F.mono h, b⟩
structure MakeOk (P : Program) (w : World) (K : PySem.W.Frag) (mg : Str → Option Value) (base : Heap) (CX : CXT) (k : Nat) (C : Addr) (x : Str) (ps : List Str) (sp : Sp) : Prop where
  ex : ∃ (f : Addr) (fd : FuncData), FnOk P w K mg base CX k f fd ps sp ∧ Binds K fd ps [] ∧ Mk K C f ∧ mg x = some (.ref C)
theorem MakeOk.mono {P : Program} {w : World} {K : PySem.W.Frag} {mg : Str → Option Value} {base : Heap} {CX : CXT} {j k : Nat} {C : Addr} {x : Str} {ps : List Str} {sp : Sp} (D : MakeOk P w K mg base CX j C x ps sp) (h : j ≤ k) : MakeOk P w K mg base CX k C x ps sp := by
  obtain ⟨f, fd, F, b⟩ := D.ex
  exact ⟨f, fd, F.mono h, b⟩
section
variable {X : Cx} {CX : CXT} {k : Nat} {C : Addr} {ps : List Str} {sp : Sp} {E : XK} {x m : Str} {p pos apos : Pos} {e o : Expr} {es : List Expr} {ta : TE} {t : TA}
theorem qpe_methD {pl : Sem Bool} (he : Pr (PE X o ta)) (D : MethOk X.prog X.w X.K X.mg X.base CX k C m ps sp) (hr : Room k X.A) (hx : Passes CX X E) (ha : Pr (PA X (e :: es) t))
    (hst : starEach (e :: es) X.env = (false, eval e X.env) :: starEach es X.env := by rfl) (hpl : (backTo pos (starEach es X.env)).any (·.1) = false := by rfl)
    (ht : eval (.Call (.Attribute o m apos) (e :: es) [] pos) X.env = (do
      let ov ← eval o X.env
      standAt apos.atName
      let (f, first) ← holding [ov] (getMethod ov m pl)
      callWith pos f first (backTo pos (starEach (e :: es) X.env)) (backToKw pos (keywordEach [] X.env))) := by rfl) :
    Pr (PE X (.Call (.Attribute o m apos) (e :: es) [] pos) (tMeth C m sp [] E ta t)) := by
  obtain ⟨f, fd, F, b, hm⟩ := D.ex
  exact ⟨pe_meth he.h D.cl hm F hr b .nil hx ha.h hst hpl ht⟩
theorem qpe_makeD (D : MakeOk X.prog X.w X.K X.mg X.base CX k C x ps sp) (hr : Room (k + 1) X.A) (hg : Gl X x) (hx : Passes CX X E)
    (ha : Pr (PA X (e :: es) t)) (hdb : (x == ("__debug__" : Str)) = false := by decide) (he : starEach (e :: es) X.env = (false, eval e X.env) :: starEach es X.env := by rfl) (hpl : (backTo pos (starEach es X.env)).any (·.1) = false := by rfl) :
    Pr (PE X (.Call (.Name x p) (e :: es) [] pos) (tMake C sp [] E t)) := by
  obtain ⟨f, fd, F, b, M, hm⟩ := D.ex
  exact ⟨pe_make M F hr hg hm b .nil hx ha.h hdb he hpl⟩
end
section
variable {X : Cx} {sc : Scope} {own : List Str} {fr : List Nat} {N' : List Str} {tg elt iter : Expr} {ifs : List Expr} {g : TG} {tt : TT} {te : TE} {wi : TI} {pos : Pos}
theorem qpif_nil : Pr (PIf X [] tYes) := ⟨pif_nil⟩
theorem qpif_one {c : Expr} {t : TT} (h : Pr (PT X c t)) : Pr (PIf X [c] t) := ⟨pif_one h.h⟩
theorem qpe_comp (hc : X.calm = true) (cs : CompOk sc X.env.scope own X.N fr N') (hi : Pr (PI X tg iter wi)) (hg : ∀ cl C s H fp, Pr (PG (cxC X sc cl N' C s H fp) tg g)) (hif : ∀ cl C s H fp, Pr (PIf (cxC X sc cl N' C s H fp) ifs tt))
    (he : ∀ cl C s H fp, Pr (PE (cxC X sc cl N' C s H fp) elt te)) (hs : ∀ x, foldedSetIterable iter X.env x = pure x := by intro _; rfl) : Pr (PE X (.ListComp elt [⟨tg, iter, ifs, 0⟩] sc pos) (tComp own.length fr wi g tt te)) :=
  ⟨pe_comp hc cs hi.h (fun a b c d e => (hg a b c d e).h) (fun a b c d e => (hif a b c d e).h) (fun a b c d e => (he a b c d e).h) hs⟩
theorem qps_setC {i : Nat} {y : Str} {py spos : Pos} (hN : X.N.Nodup) (hy : X.N[i]? = some y) (hx : Loc X.env.scope y) (hc : X.calm = true) (cs : CompOk sc X.env.scope own X.N fr N') (hi : Pr (PI X tg iter wi))
    (hg : ∀ cl C s H fp, Pr (PG (cxC X sc cl N' C s H fp) tg g)) (hif : ∀ cl C s H fp, Pr (PIf (cxC X sc cl N' C s H fp) ifs tt)) (he : ∀ cl C s H fp, Pr (PE (cxC X sc cl N' C s H fp) elt te))
    (hsw : swapsWith (.ListComp elt [⟨tg, iter, ifs, 0⟩] sc pos) (some (.Name y py)) spos.line X.env = pure true) (hfn : X.fn y = true ∨ X.env.scope.names.lookup y = some .local := by first | exact .inl rfl | exact .inr rfl | assumption) (hs : ∀ x, foldedSetIterable iter X.env x = pure x := by intro _; rfl) :
    Pr (PS X (.Assign [.Name y py] (.ListComp elt [⟨tg, iter, ifs, 0⟩] sc pos) spos) (tSetC i own.length fr wi g tt te)) :=
  ⟨ps_setC hN hy hx hc cs hi.h (fun a b c d e => (hg a b c d e).h) (fun a b c d e => (hif a b c d e).h) (fun a b c d e => (he a b c d e).h) hsw hfn hs⟩
theorem qpi_enum (k : SK) {elts : List Expr} {kk : Nat} {tpos : Pos} {a : Expr} {ta : TA} {p pos : Pos} (hg : Gl X "enumerate") (hm : X.mg "enumerate" = none) (ha : Pr (PA X [a] ta)) (hs : starEach [a] X.env = [(false, eval a X.env)] := by rfl) :
    Pr (PI X (.Tuple elts kk tpos) (.Call (.Name "enumerate" p) [a] [] pos) (iEnum X.K k ta)) := ⟨pi_enum k hg hm ha.h hs⟩
theorem qpps_nil : Pr (PPs X pos [] [] []) := ⟨pps_nil⟩
theorem qpps_cons {k v : Expr} {ks : List (Option Expr)} {vs : List Expr} {tk tv : TE} {trs : List (TE × TE)} (hk : Pr (PE X k tk)) (hv : Pr (PE X v tv)) (hr : Pr (PPs X pos ks vs trs)) : Pr (PPs X pos (some k :: ks) (v :: vs) ((tk, tv) :: trs)) := ⟨pps_cons hk.h hv.h hr.h⟩
theorem qpe_disp {keys : List (Option Expr)} {values : List Expr} {trs : List (TE × TE)} (h : Pr (PPs X pos keys values trs)) (hall : keys.all (·.isSome) = true) (hl : keys.length = values.length) (h0 : keys ≠ [])
    (h15 : keys.length ≤ 15) : Pr (PE X (.Dict keys values pos) (tDisp trs)) := ⟨pe_disp h.h hall hl h0 h15⟩
theorem qpe_dnewK : Pr (PE X (.Dict [] [] pos) tDNewK) := ⟨pe_dnewK⟩
theorem qps_never {st : Stmt} : Pr (PS X st tNever) := ⟨ps_never⟩
theorem compOk {sc outer : Scope} {own N : List Str} {fr : List Nat} {N' : List Str} (h1 : sc.kind = .function) (h2 : ∀ y ∈ sc.names, y.2 ≠ .cell) (h3 : ∀ y ∈ sc.names, y.2 = .local → sc.names.lookup y.1 = some .local)
    (h4 : ∀ y ∈ sc.names, y.2 = .free → outer.names.lookup y.1 = some .cell ∨ outer.names.lookup y.1 = some .free) (h5 : N'.Nodup) (h6 : N'.map some = own.map some ++ fr.map fun j => N[j]?)
    (h7 : ∀ x ∈ fr.filterMap (fun j => N[j]?), sc.names.lookup x = some .free ∧ (outer.names.lookup x = some .cell ∨ outer.names.lookup x = some .free)) : CompOk sc outer own N fr N' :=
  ⟨h1, h2, h3, h4, h5, h6, fun j hj x hx => h7 x (List.mem_filterMap.mpr ⟨j, hj, hx⟩)⟩
end
def rIsT2 (K : PySem.W.Frag) : List V → Hp → VK → Prop := fun xs H Q => ∃ (x : V) (p : Addr) (T1 T2 : String) (t : Value) (b : Bool), xs = [x, .ref p] ∧ H p = some (.tup [.ty T1, .ty T2]) ∧ TyOf K H x t ∧ PySem.W.kitAny K t [.type T1, .type T2] = some b ∧ Q (.bl b) H
theorem call_isT2 {X : Cx} : CallR X (.builtin "isinstance") (rIsT2 X.K) := fun pins s σ H xs us Q I r h => by
  obtain ⟨x, p, T1, T2, t, b, e, hp, ty, k, q⟩ := h
  exact call_isTs pins s σ H xs us Q I r ⟨x, p, [T1, T2], t, b, e, hp, ty, k, q⟩
theorem iteNn {c : Prop} [Decidable c] {A B : Prop} (hc : c) (h : B) : if (!decide c) = true then A else B := by rw [if_neg (by simp [hc])]; exact h
def Tu (H H' : Hp) : Prop := ∀ b xs, H b = some (.tup xs) → H' b = some (.tup xs)
theorem Tu.trans {H H1 H2 : Hp} (a : Tu H H1) (b : Tu H1 H2) : Tu H H2 := fun c xs h => b c xs (a c xs h)
theorem Tu.same {H H' : Hp} (c : Ch [] H H') : Tu H H' := fun b xs h => c b _ h (by simp)
theorem Tu.ch {H H' : Hp} {b : Addr} {o : HO} (c : Ch [b] H H') (hb : H b = some o) (ho : ∀ xs, o ≠ .tup xs) : Tu H H' := fun d xs h => c d _ h (by
  intro z
  have e : d = b := by simpa using z
  subst e
  rw [hb] at h
  exact ho xs (Option.some.inj h))
theorem Tu.lst {H H' : Hp} {b : Addr} {ys : List V} (c : Ch [b] H H') (hb : H b = some (.lst ys)) : Tu H H' := Tu.ch c hb (fun xs z => by cases z)
theorem Tu.new {H : Hp} {p : Addr} (o : HO) (h : H p = none) : Tu H (upd H p o) := Tu.same (Ch.new h o)
end L2

namespace L2
open PySem PySem.Spec PyProof.Rows
section
variable {X : Cx} {a b o e value : Expr} {es : List Expr} {f : Str} {ta tb te : TE} {pos : Pos} {tg l : Expr}
theorem ixaK_list (K : PySem.W.Frag) (hK : X.K = K) : IxR X (aIxL K) := hK ▸ ixa_list
theorem ixaK_tup (K : PySem.W.Frag) (hK : X.K = K) : IxR X (aIxT K) := hK ▸ ixa_tup
theorem callK_len_seq (K : PySem.W.Frag) (hK : X.K = K) : CallR X (.builtin "len") (fun xs H Q => ∃ p ys, xs = [.ref p] ∧ (SqL K H p ys ∨ SqT K H p ys) ∧ Q (.int ys.length) H) := hK ▸ call_len_seq
theorem opK_in_seq (K : PySem.W.Frag) (hK : X.K = K) : OpR X (compareOp .In) (rIn K false) := hK ▸ op_in_seq
theorem qpg_tupK (K : PySem.W.Frag) (n : Nat) (hK : X.K = K) {k : Nat} {t : TGs} (hc : X.calm = true) (h : Pr (PGs X es t)) (hn : (assignEach es X.env).length = n := by rfl) (hst : (assignEach es X.env).findIdx? (·.1) = none := by rfl) :
    Pr (PG X (.Tuple es k pos) (gTup K n t)) := hK ▸ ⟨pg_tup hc h.h hn hst⟩
end
end L2

namespace L2
open PySem PySem.Spec PyProof.Rows
structure Fl (h : Heap) (e C T : Addr) (fl : Value) : Prop where
  ob : ∃ oe vs, h.get? e = some oe ∧ (oe.cls = .ref C ∧ oe.dict = none) ∧ oe.data = .fields vs ∧ vs[1]? = some (.ref T) ∧ vs[2]? = some .none
  tb : ∃ oT ts, h.get? T = some oT ∧ oT.data = .fields ts ∧ ts[3]? = some fl
  ne : T ≠ e
def KB (ex fs : List Addr) (h h' : Heap) : Prop := ∀ b o, h.get? b = some o → b ∉ ex → (b ∉ fs → h'.get? b = some o) ∧ ∃ sl, h'.get? b = some { o with slots := sl }
section
variable {M : Model} {A : Around} {E : Value → Shared → Prop} {s : Shared} {base : Heap} {env : Env} {outer : List Env} {L e C T : Addr} {Q : Unit → Shared → Prop}
end
end L2

namespace L2
open PySem PySem.Spec PyProof.Rows
def CXE (P : Program) (w : World) : CXT := fun outer H s E e s' => ∃ (ea C T : Addr) (H' : Hp), e = .ref ea ∧ s'.os = s.os ∧ AllBare s'.gens ∧ Un (frs outer) [] H H' s.heap s'.heap ∧ HOk P w H' s'.heap ∧ Fl s'.heap ea C T .none ∧
  s.heap.get? ea = none ∧ s.heap.get? T = none ∧ H' ea = none ∧ H' T = none ∧ E (.ref C) none H'
section
variable {X : Cx} {pins : List (Addr × Obj)} {σ : St} {H H' : Hp} {s s' : Shared}
end
section
variable {P : Program} {w : World} {K : PySem.W.Frag} {mg : Str → Option Value} {base : Heap} {N : List Str} {qual : Str} {scope : Scope} {f : Addr} {cd : Value} {A : Around} {outer : List Env} {s₀ : Shared} {H₀ : Hp} {E : XK}
abbrev cxE (P : Program) (w : World) (K : PySem.W.Frag) (mg : Str → Option Value) (base : Heap) (N : List Str) (qual : Str) (scope : Scope) (f : Addr) (cd : Value) (A : Around) (outer : List Env) (s₀ : Shared) (H₀ : Hp) (E : XK) : Cx :=
  cxOf (CXE P w) P w K mg base N qual scope f cd A outer s₀ H₀ E
end
end L2

namespace L2
open PySem PySem.Spec PyProof.Rows
abbrev bmV : List Value := [.type "ValueError", .type "Exception", .type "BaseException", .type "object"]
def XC (K : PySem.W.Frag) (C : Addr) : Prop := PySem.W.excIn K C bmV "ValueError.__new__" = true
def tRaise (C : Addr) (E : XK) (t : TA) : TS := fun _ σ H => t σ H fun vs H1 => vs.length ≤ sizeLine ∧ E (.ref C) none H1
section
variable {P : Program} {w : World} {K : PySem.W.Frag} {mg : Str → Option Value} {base : Heap} {N : List Str} {qual : Str} {scope : Scope} {f : Addr} {cd : Value} {A : Around} {outer : List Env} {s₀ : Shared} {H₀ : Hp} {E : XK}
end
section
variable {P : Program} {w : World} {K : PySem.W.Frag} {mg : Str → Option Value} {base : Heap}
end
end L2

namespace L2
open PySem PySem.Spec PyProof.Rows
def Cx.hand (X : Cx) (v : Value) : Cx := { X with A := X.A.mark (some v), calm := false }
section
variable {X : Cx} {pins : List (Addr × Obj)} {σ : St} {H H' : Hp} {s s' : Shared} {v : Value}
def exO (a C : Addr) : HO := .ext fun h => ∃ o vs, h.get? a = some o ∧ (o.cls = .ref C ∧ o.dict = none) ∧ o.data = .fields vs ∧ vs[2]? = some .none
end
def XSub (K : PySem.W.Frag) (C CF : Addr) : Prop := (match K.lookup C with
  | some ⟨_, _, .cls cd, _⟩ => cd.mro.contains (.ref CF)
  | _ => false) = true
section
variable {M : Model} {A : Around} {E : Value → Shared → Prop} {s : Shared} {K : PySem.W.Frag} {C CF e : Addr}
end
end L2

namespace L2
open PySem PySem.Spec PyProof.Rows
abbrev XW := Value → Hp → Prop
abbrev XD := St → Value → Hp → Prop
def XE (X : Cx) (pins : List (Addr × Obj)) (σ : St) (Ew : XW) (e : Value) (s' : Shared) : Prop := ∃ H1 s1, Inv X pins σ H1 s1 ∧ CXE X.prog X.w X.stack H1 s1 (fun c _ H' => Ew c H') e s'
def XPs (X : Cx) (pins : List (Addr × Obj)) (Dx : XD) (e : Value) (s' : Shared) : Prop := ∃ σ1, XE X pins σ1 (Dx σ1) e s'
abbrev TEX := St → Hp → VK → XW → Prop
abbrev TSX := Ends → XD → St → Hp → Prop
def PEX (X : Cx) (e : Expr) (t : TEX) : Prop :=
  ∀ (pins : List (Addr × Obj)) (s : Shared) (σ : St) (H : Hp) (Q : VK) (Ew : XW), Inv X pins σ H s → t σ H Q Ew → wpAny (model X.prog X.w) X.A (eval e X.env) (EP X pins σ Q) (XE X pins σ Ew) s
def PSX (X : Cx) (st : Stmt) (t : TSX) : Prop :=
  ∀ (pins : List (Addr × Obj)) (s : Shared) (σ : St) (H : Hp) (D : Ends) (Dx : XD), Inv X pins σ H s → t D Dx σ H → wpAny (model X.prog X.w) X.A (exec st X.env) (SP X pins D) (XPs X pins Dx) s
def PSXs (X : Cx) (st : List Stmt) (t : TSX) : Prop :=
  ∀ (pins : List (Addr × Obj)) (s : Shared) (σ : St) (H : Hp) (D : Ends) (Dx : XD), Inv X pins σ H s → t D Dx σ H → wpAny (model X.prog X.w) X.A (execs st X.env) (SP X pins D) (XPs X pins Dx) s
def Nox (X : Cx) : Prop := ∀ e s, X.xe e s → False
def tCallX (sp : Sp) (t : TA) : TEX := fun σ H Q Ew => t σ H fun vs H1 => sp vs H1 Q fun c _ H' => Ew c H'
def tMethX (C : Addr) (m : Str) (sp : Sp) (ta : TE) (t : TA) : TEX := fun σ H Q Ew => ta σ H fun x H1 => ∃ a dx fs, x = .ref a ∧ H1 a = some (.ins C dx fs) ∧ fs.lookup m = none ∧ t σ H1 fun vs H2 => sp (x :: vs) H2 Q fun c _ H' => Ew c H'
def tDropX (t : TEX) : TSX := fun D Dx σ H => t σ H (fun _ H1 => D.nx σ H1) (Dx σ)
def tIfX (tc : TT) (a b : TSX) : TSX := fun D Dx σ H => tc σ H fun c H1 => if c = true then a D Dx σ H1 else b D Dx σ H1
section
variable {X : Cx} {k : Nat} {f C : Addr} {fd : FuncData} {ps : List Str} {sp : Sp} {x m : Str} {p pos apos : Pos} {e o : Expr} {es : List Expr} {ta : TE} {t : TA}
end
def tTry (K : PySem.W.Frag) (CF : Addr) (i : Nat) (tb : TSX) (ts : Addr → TS) : TS := fun D σ H => tb D (fun σ1 c H' => ∃ C, c = .ref C ∧ XC K C ∧ XSub K C CF ∧ ∀ ea, H' ea = none →
  ts ea { nx := fun σ2 H2 => D.nx (σ2.set i none) H2, rt := D.rt, bk := fun σ2 H2 => D.bk (σ2.set i none) H2, ct := fun σ2 H2 => D.ct (σ2.set i none) H2 } (σ1.set i (some (.ref ea))) (upd H' ea (exO ea C))) σ H
section
variable {X : Cx}
end
end L2

namespace L2
open PySem PySem.Spec PyProof.Rows
section
variable {prog : Program} {w : World} {A : Around} {E : Value → Shared → Prop} {s : Shared}
end
def ItrH (ea : Addr) (lo : Int) (n : Nat) : It := ⟨fun i _ => i < n, fun i H x H' => H' = H ∧ x = .int (lo + i), fun i H => n ≤ i ∧ ∃ C, H ea = some (exO ea C)⟩
def PIG (G : Cx → Prop) (X : Cx) (tg iter : Expr) (wi : TI) : Prop :=
  ∀ (pins : List (Addr × Obj)) (s : Shared) (σ : St) (H : Hp) (R : It → Hp → Prop), Inv X pins σ H s → wi σ H R →
    wpAny (model X.prog X.w) X.A (eval iter X.env) (fun v s1 => wpAny (model X.prog X.w) X.A (pyIter v) (fun itv s2 => ∃ (it : Addr) (fp : List Addr) (tn : Nat → Heap → Prop) (J : It) (H' : Hp), itv = .ref it ∧ Inv X pins σ H' s2 ∧ TurnX G X.prog X.w X.K tg J fp it tn ∧ tn 0 s2.heap ∧ (∀ b ∈ fp, FpOk X pins H' b) ∧ R J H') X.xe s1) X.xe s
def iRngH (ea : Addr) (ta : TA) : TI := fun σ H R => ta σ H fun vs H1 => ∃ j : Int, vs = [.int j] ∧ -(2 ^ 62) ≤ j ∧ j < 2 ^ 62 ∧ R (ItrH ea 0 j.toNat) H1
section
variable {X : Cx} {tg : Expr}
end
end L2

namespace L2
open PySem PySem.Spec PyProof.Rows PySem.W
structure XA (K : PySem.W.Frag) (C : Addr) : Prop where
  xc : XC K C
  ga : findIn K (.ref C) "__getattribute__" = some (some (.builtin "BaseException.__getattribute__"))
  gt : findIn K (.ref C) "__getattr__" = some none
  cl : findIn K (.ref C) "__class__" = some (some (.builtin "object.__class__"))
  sg : specialIn K (.builtin "object.__class__") "__get__" = some (some (.builtin "getset_descriptor.__get__"))
  tk : takesIn K (.builtin "object.__class__") = some true
  mo : mroIn K C (.type "object") = some true
  cs : (clsIn K C).isSome = true
section
variable {prog : Program} {w : World} {A : Around} {E : Value → Shared → Prop} {s : Shared} {K : Frag} {x C : Addr} {ox : Obj}
end
def rIsX (K : Frag) : List V → Hp → VK → Prop := fun xs H Q => ∃ (ea C : Addr) (c : V) (b : Bool), xs = [.ref ea, c] ∧ H ea = some (exO ea C) ∧ XA K C ∧ ((∃ CF, c = .ref CF ∧ kitOne K (.ref C) (.ref CF) = some b) ∨ ∃ T, c = .ty T ∧ kitOne K (.ref C) (.type T) = some b) ∧ Q (.bl b) H
end L2

namespace L2
open PySem PySem.Spec PyProof.Rows
structure RoomH (ea : Addr) (k : Nat) (A : Around) : Prop where
  hd : A.handled = some (.ref ea)
  dp : A.depth + 3 * k + 5 < recursionLimit
  un : A.units + 16 * k + 200 < cLine
structure FnOkH (P : Program) (w : World) (K : PySem.W.Frag) (mg : Str → Option Value) (base : Heap) (k : Nat) (f : Addr) (fd : FuncData) (ps : List Str) (sp : Addr → Sp) : Prop where
  len : ∀ ea vs H Q E, sp ea vs H Q E → vs.length = ps.length
  run : ∀ (ea : Addr) (A : Around) (outer : List Env) (s : Shared) (H : Hp) (args : Args) (us : List Value) (vs : List V) (Q : VK), RoomH ea k A → Env0 P w K mg base A outer s H → BindsTo s fd args (ps.zip us) → Vals vs us → sp ea vs H Q E0 →
    codeAny (model P w) A (.call (.ref f) args) (CR CX0 outer P w H s Q E0) s
structure DefOkH (P : Program) (w : World) (K : PySem.W.Frag) (mg : Str → Option Value) (base : Heap) (k : Nat) (x : Str) (ps : List Str) (sp : Addr → Sp) : Prop where
  ex : ∃ (f : Addr) (fd : FuncData), FnOkH P w K mg base k f fd ps sp ∧ Binds K fd ps [] ∧ PySem.W.keepIn K (.ref f) = true ∧ mg x = some (.ref f)
def tCallH (ea : Addr) (sp : Addr → Sp) (t : TA) : TE := fun σ H Q => t σ H fun vs H1 => sp ea vs H1 Q E0
section
variable {X : Cx} {k : Nat} {x : Str} {ps : List Str} {p pos : Pos} {e : Expr} {es : List Expr} {t : TA}
end
def cxH (P : Program) (w : World) (K : PySem.W.Frag) (mg : Str → Option Value) (base : Heap) (N : List Str) (qual : Str) (scope : Scope) (f : Addr) (cd : Value) (A : Around) (outer : List Env) (s : Shared) (H : Hp) : Cx :=
  { cxOf CX0 P w K mg base N qual scope f cd { A with handled := none } outer s H E0 with A := A.deeper (envOfC qual scope s.heap.objs.size f cd), calm := false, xe := fun _ _ => False }
section
variable {X : Cx} {sc : Scope} {own : List Str} {fr : List Nat} {N' : List Str} {tg elt iter : Expr} {ifs : List Expr} {g : TG} {tt : TT} {te : TE} {wi : TI} {pos : Pos} {G : Cx → Prop}
end
section
variable {X : Cx}
end
end L2

namespace L2
open PySem PySem.Spec PyProof.Rows PySem.SeqAt
section
variable {X : Cx}
end
def Itv (K : PySem.W.Frag) (a : Addr) (xs : List V) : It :=
  ⟨fun i H => SqL K H a xs ∧ i < xs.length, fun i H x H' => H' = H ∧ xs.reverse[i]? = some x, fun i H => SqL K H a xs ∧ xs.length ≤ i⟩
section
variable {X : Cx} {tg : Expr}
def iRev (K : PySem.W.Frag) (ta : TA) : TI := fun σ H R => ta σ H fun vs H1 => ∃ a xs, vs = [.ref a] ∧ SqL K H1 a xs ∧ R (Itv K a xs) H1
end
def Eq0 (x y : V) : Prop := x = y ∧ ((∃ i, x = .int i) ∨ ∃ a, x = .ref a)
def Eq1 (H : Hp) (x y : V) : Prop := ∃ (p q : Addr) (zs : List V), x = .ref p ∧ y = .ref q ∧ p ≠ q ∧ H p = some (.lst zs) ∧ H q = some (.lst zs) ∧ ∀ z ∈ zs, Eq0 z z
section
variable {X : Cx}
def rNeL : R2 := fun x y H Q => ∃ (a b : Addr) (xs ys : List V), x = .ref a ∧ y = .ref b ∧ H a = some (.lst xs) ∧ H b = some (.lst ys) ∧ xs.length = ys.length ∧ (∀ (i : Nat) (x y : V), xs[i]? = some x → ys[i]? = some y → Eq1 H x y) ∧ Q (.bl false) H
end
end L2

namespace L2
open PySem PySem.Spec PyProof.Rows PySem.SeqAt
def Sca (x : V) : Prop := (∃ i, x = .int i) ∨ ∃ t, x = .str t
structure ScaL (xs : List V) : Prop where
  h : ∀ z ∈ xs, Sca z
theorem dec_beq {α : Type} [BEq α] [LawfulBEq α] [DecidableEq α] (a b : α) : (a == b) = decide (a = b) := by
  by_cases h : a = b
  · subst h; simp
  · rw [decide_eq_false h]; exact beq_eq_false_iff_ne.mpr h
theorem sca_at {A : Around} {s : Shared} {x y : V} {u v : Value} (hx : Sca x) (hy : Sca y) (ru : RelV x u) (rv : RelV y v) : EqAt A s u v (decide (x = y)) := by
  rcases hx with ⟨i, rfl⟩ | ⟨i, rfl⟩ <;> rcases hy with ⟨j, rfl⟩ | ⟨j, rfl⟩ <;> obtain ⟨t, rfl⟩ := ru <;> obtain ⟨t', rfl⟩ := rv
  · have := EqAt.int_int (A := A) (s := s) i t j t'
    rw [dec_beq] at this
    rwa [show decide (V.int i = V.int j) = decide (i = j) from by by_cases h : i = j <;> simp [h]]
  · rw [show decide (V.int i = V.str j) = false from by simp]
    exact EqAt.int_str i t j t'
  · rw [show decide (V.str i = V.int j) = false from by simp]
    exact EqAt.str_int i t j t'
  · have := EqAt.str_str (A := A) (s := s) i t j t'
    rw [show decide (V.str i = V.str j) = (i == j) from by
      by_cases h : i = j
      · subst h; simp
      · rw [decide_eq_false (fun z => h (V.str.inj z))]; exact (beq_eq_false_iff_ne.mpr h).symm]
    exact this
theorem all_at {xs ys : List V} : ((List.range (min xs.length ys.length)).all (fun j => decide (xs[j]? = ys[j]?)) && xs.length == ys.length) = decide (xs = ys) := by
  by_cases h : xs = ys
  · subst h
    simp
  · rw [decide_eq_false h]
    by_cases hl : xs.length = ys.length
    · rw [Bool.and_eq_false_iff]
      refine .inl ?_
      rw [List.all_eq_false]
      refine Classical.byContradiction fun z => h (List.ext_getElem? fun j => ?_)
      by_cases hj : j < xs.length
      · refine Classical.byContradiction fun y => z ⟨j, List.mem_range.mpr (by omega), by simpa using y⟩
      · rw [List.getElem?_eq_none (by omega), List.getElem?_eq_none (by omega)]
    · rw [Bool.and_eq_false_iff]
      exact .inr (beq_eq_false_iff_ne.mpr hl)
theorem sca_pair {A : Around} {s : Shared} {xs ys : List V} {us vs : List Value} (hx : ScaL xs) (hy : ScaL ys) (ru : Vals xs us) (rv : Vals ys vs) (j : Nat) (h1 : j < us.toArray.size) (h2 : j < vs.toArray.size) :
    EqAt A s us.toArray[j] vs.toArray[j] (decide (xs[j]? = ys[j]?)) := by
  have l1 := ru.length
  have l2 := rv.length
  have h1' : j < us.length := by simpa using h1
  have h2' : j < vs.length := by simpa using h2
  have gx : xs[j]? = some (xs[j]'(by omega)) := List.getElem?_eq_getElem (by omega)
  have gy : ys[j]? = some (ys[j]'(by omega)) := List.getElem?_eq_getElem (by omega)
  obtain ⟨w1, hw1, r1⟩ := ru.get gx
  obtain ⟨w2, hw2, r2⟩ := rv.get gy
  have k1 : us.toArray[j] = w1 := by
    have := List.getElem?_eq_getElem h1'
    rw [hw1] at this
    simpa using (Option.some.inj this).symm
  have k2 : vs.toArray[j] = w2 := by
    have := List.getElem?_eq_getElem h2'
    rw [hw2] at this
    simpa using (Option.some.inj this).symm
  rw [k1, k2, gx, gy]
  have e : decide (some (xs[j]'(by omega)) = some (ys[j]'(by omega))) = decide (xs[j]'(by omega) = ys[j]'(by omega)) := by
    by_cases h : (xs[j]'(by omega)) = (ys[j]'(by omega)) <;> simp [h]
  rw [e]
  exact sca_at (hx.h _ (List.getElem_mem _)) (hy.h _ (List.getElem_mem _)) r1 r2
section
variable {X : Cx}
def rEqT : R2 := fun x y H Q => ∃ (a b : Addr) (xs ys : List V), x = .ref a ∧ y = .ref b ∧ H a = some (.tup xs) ∧ H b = some (.tup ys) ∧ ScaL xs ∧ ScaL ys ∧ Q (.bl (decide (xs = ys))) H
def rNeT : R2 := fun x y H Q => ∃ (a b : Addr) (xs ys : List V), x = .ref a ∧ y = .ref b ∧ H a = some (.tup xs) ∧ H b = some (.tup ys) ∧ ScaL xs ∧ ScaL ys ∧ Q (.bl (!decide (xs = ys))) H
def rEqS : R2 := fun x y H Q => ∃ (a b : Addr) (xs ys : List V), x = .ref a ∧ y = .ref b ∧ H a = some (.lst xs) ∧ H b = some (.lst ys) ∧ ScaL xs ∧ ScaL ys ∧ Q (.bl (decide (xs = ys))) H
def rNeS : R2 := fun x y H Q => ∃ (a b : Addr) (xs ys : List V), x = .ref a ∧ y = .ref b ∧ H a = some (.lst xs) ∧ H b = some (.lst ys) ∧ ScaL xs ∧ ScaL ys ∧ Q (.bl (!decide (xs = ys))) H
theorem op_eqS (hu : X.A.units + 64 < cLine) : OpR X (compareOp .Eq) rEqS := by
  intro pins s σ H x y v u Q I rx ry h
  obtain ⟨a, b, xs, ys, rfl, rfl, ha, hb, hx, hy, q⟩ := h
  cases rx
  cases ry
  obtain ⟨z, its, n, rv, e⟩ := I.hok a _ ha
  obtain ⟨z2, its2, n2, rv2, e2⟩ := I.hok b _ hb
  have i1 : s.heap.IsList a its.toArray := ⟨_, e, rfl, n, rfl⟩
  have i2 : s.heap.IsList b its2.toArray := ⟨_, e2, rfl, n2, rfl⟩
  by_cases hl : xs.length = ys.length
  · have key := RcAt.lists (A := X.A) (s := s) i1 i2 (by simp [← rv.length, ← rv2.length, hl]) (by omega) (sca_pair hx hy rv rv2)
    have ea : ((List.range its.toArray.size).all (fun j => decide (xs[j]? = ys[j]?))) = decide (xs = ys) := by
      rw [← all_at, List.size_toArray, ← rv.length, ← hl, Nat.min_self]; simp
    rw [ea] at key
    exact key X.prog X.w X.xe _ ⟨.bl _, H, I, rfl, q⟩
  · have key := RcAt.lists_lengths (A := X.A) (s := s) i1 i2 (by simp [← rv.length, ← rv2.length, hl]) (by omega)
    have ea : decide (xs = ys) = false := decide_eq_false fun z => hl (by rw [z])
    rw [ea] at q
    exact key X.prog X.w X.xe _ ⟨.bl _, H, I, rfl, q⟩
theorem op_neS (hu : X.A.units + 64 < cLine) : OpR X (compareOp .NotEq) rNeS := by
  intro pins s σ H x y v u Q I rx ry h
  obtain ⟨a, b, xs, ys, rfl, rfl, ha, hb, hx, hy, q⟩ := h
  cases rx
  cases ry
  obtain ⟨z, its, n, rv, e⟩ := I.hok a _ ha
  obtain ⟨z2, its2, n2, rv2, e2⟩ := I.hok b _ hb
  have i1 : s.heap.IsList a its.toArray := ⟨_, e, rfl, n, rfl⟩
  have i2 : s.heap.IsList b its2.toArray := ⟨_, e2, rfl, n2, rfl⟩
  by_cases hl : xs.length = ys.length
  · have key := RcNeAt.lists (A := X.A) (s := s) i1 i2 (by simp [← rv.length, ← rv2.length, hl]) (by omega) (sca_pair hx hy rv rv2)
    have ea : ((List.range its.toArray.size).all (fun j => decide (xs[j]? = ys[j]?))) = decide (xs = ys) := by
      rw [← all_at, List.size_toArray, ← rv.length, ← hl, Nat.min_self]; simp
    rw [ea] at key
    exact key X.prog X.w X.xe _ ⟨.bl _, H, I, rfl, q⟩
  · have key := RcNeAt.lists_lengths (A := X.A) (s := s) i1 i2 (by simp [← rv.length, ← rv2.length, hl]) (by omega)
    have ea : decide (xs = ys) = false := decide_eq_false fun z => hl (by rw [z])
    rw [ea] at q
    exact key X.prog X.w X.xe _ ⟨.bl _, H, I, rfl, q⟩
def rInN : R2 := fun x y H Q => ∃ (b : Addr) (ys : List V), x = .non ∧ y = .ref b ∧ H b = some (.lst ys) ∧ (∀ z ∈ ys, ∃ p, z = .ref p ∧ ((∃ zs, H p = some (.lst zs)) ∨ ∃ zs, H p = some (.tup zs))) ∧ Q (.bl false) H
end
end L2


namespace L2
open PySem PySem.W PyProof.Rows
structure Pm (n : Nat) (p : Array Nat) : Prop where
  perm : p.toList.Perm (List.range n)
section
variable {n : Nat} {L : Nat → Nat → Prop} [DecidableRel L] {cmp : Nat → Nat → (Bool → Shared → Prop) → Shared → Prop} {s : Shared}
def lR (L : Nat → Nat → Prop) (p : Array Nat) (i j : Nat) : Prop := L (p.getD i 0) (p.getD j 0)
instance lR_dec (p : Array Nat) (i j : Nat) : Decidable (lR L p i j) := inferInstanceAs (Decidable (L (p.getD i 0) (p.getD j 0)))
def Up (L : Nat → Nat → Prop) (p : Array Nat) (m : Nat) : Prop := ∀ i j, i < j → j < m → lR L p i j
def Dn (L : Nat → Nat → Prop) (p : Array Nat) (m : Nat) : Prop := ∀ i j, i < j → j < m → lR L p j i
structure Ord (n : Nat) (L : Nat → Nat → Prop) [DecidableRel L] (cmp : Nat → Nat → (Bool → Shared → Prop) → Shared → Prop) (s : Shared) : Prop where
  tr : ∀ {i j k}, L i j → L j k → L i k
  tot : ∀ i j, i < n → j < n → i ≠ j → ¬ L i j → L j i
  ask : ∀ i j C, i < n → j < n → C (decide (L i j)) s → cmp i j C s
end
end L2

namespace L2
open PySem PySem.W PyProof.Rows PySem.Calls
def KeptBut (a : Addr) (h h' : Heap) : Prop := ∀ b o, b ≠ a → h.get? b = some o → h'.get? b = some o
section
variable {prog : Program} {w : World} {A : Around} {E : Value → Shared → Prop} {s : Shared} {a : Addr} {vs : List Value} {κ : SortKind} {L : Nat → Nat → Prop} [DecidableRel L]
end
end L2

namespace L2
open PySem PySem.W PyProof.Rows PySem.SeqAt
def kLt : Key → Key → Prop
  | .inl a, .inl b => a < b
  | .inr x, .inr y => x.cps.toList < y.cps.toList
  | _, _ => False
instance kLt_dec : (a b : Key) → Decidable (kLt a b)
  | .inl a, .inl b => inferInstanceAs (Decidable (a < b))
  | .inr x, .inr y => inferInstanceAs (Decidable (x.cps.toList < y.cps.toList))
  | .inl _, .inr _ => isFalse id
  | .inr _, .inl _ => isFalse id
def kLex : List Key → List Key → Prop
  | k :: ks, k' :: ks' => if k = k' then kLex ks ks' else kLt k k'
  | _, _ => False
instance kLex_dec : (a b : List Key) → Decidable (kLex a b)
  | k :: ks, k' :: ks' => by
    unfold kLex
    by_cases h : k = k'
    · rw [if_pos h]; exact kLex_dec ks ks'
    · rw [if_neg h]; exact kLt_dec k k'
  | [], [] => isFalse id
  | [], _ :: _ => isFalse id
  | _ :: _, [] => isFalse id
section
variable {prog : Program} {w : World} {A : Around} {E : Value → Shared → Prop} {s : Shared}
end
end L2

namespace L2
open PySem PySem.W PyProof.Rows
structure DAt (h : Heap) (d : Addr) (es : Array DictEntry) (ep : Nat) : Prop where
  ex : ∃ o, h.get? d = some o ∧ o.ExactDict ∧ o.data = .dict es ep
def kitO (d : Addr) (i n ep : Nat) : Obj := { cls := .type "dict_keyiterator", data := .fields #[.ref d, .int i 0, .int n 0, .int ep 0] }
section
variable {prog : Program} {w : World} {A : Around} {E : Value → Shared → Prop} {s : Shared} {d it : Addr} {es : Array DictEntry} {ep i : Nat}
end
section
variable {prog : Program} {w : World} {A : Around} {R : Result → Shared → Prop} {d it S : Addr} {es : Array DictEntry} {ep : Nat}
end
end L2

namespace L2
open PySem PySem.W PyProof.Rows
section
variable {prog : Program} {w : World} {A : Around} {E : Value → Shared → Prop} {s : Shared} {d : Addr} {es : Array DictEntry} {ep : Nat}
end
end L2

namespace L2
open PySem PySem.W PyProof.Rows
def TKey (h : Heap) (k : List Key) (v : Value) : Prop := ∃ (p : Addr) (us : List Value), v = .ref p ∧ h.IsTuple p us.toArray ∧ Vals (k.map kV) us
abbrev TKs (h : Heap) : List (List Key) → List Value → Prop := Paired (TKey h)
theorem paired_get {Φ : List Key → Value → Prop} : ∀ {ks : List (List Key)} {vs : List Value} {i : Nat} {k : List Key}, Paired Φ ks vs → ks[i]? = some k → ∃ v, vs[i]? = some v ∧ Φ k v
  | _, _, _, _, .nil, e => by simp at e
  | _, _, 0, _, .cons r _, e => by simp at e; subst e; exact ⟨_, rfl, r⟩
  | _, _, i + 1, _, .cons _ t, e => by
    obtain ⟨v, a, b⟩ := paired_get t (i := i) (by simpa using e)
    exact ⟨v, by simpa using a, b⟩
section
variable {prog : Program} {w : World} {A : Around} {E : Value → Shared → Prop} {s : Shared} {a : Addr} {vs : List Value} {ks : List (List Key)} {g : Heap}
end
end L2

namespace L2
open PySem PySem.W PyProof.Rows PySem.Calls
section
variable {prog : Program} {w : World} {A : Around} {E : Value → Shared → Prop} {s : Shared} {a : Addr} {vs : List Value}
end
section
variable {X : Cx}
def rSrtT : List V → Hp → VK → Prop := fun xs H Q => ∃ (a : Addr) (kvs : List (List Key × V)) (b0 : Bool) (t0 : List Bool), xs = [.ref a] ∧ H a = some (.dT kvs) ∧ kvs.length < 64 ∧ (∀ p ∈ kvs, p.1.map Sum.isLeft = b0 :: t0) ∧
  ∀ (D : Addr) (ks : List (List Key)) (ps : List Addr), H D = none → ks.Perm (kvs.map (·.1)) → ks.Pairwise kLex → Paired (fun k p => H p = some (.tup (k.map kV))) ks ps → Q (.ref D) (upd H D (.lst (ps.map V.ref)))
end
end L2

namespace L2
open PySem PySem.W PyProof.Rows
section
variable {prog : Program} {w : World} {K : Type} [DecidableEq K] {knd : HeapKind prog w K} {A : Around} {E : Value → Shared → Prop} {s : Shared}
end
section
variable {X : Cx} {pins : List (Addr × Obj)} {σ : St} {H : Hp} {s : Shared} {A : Around} {E : Value → Shared → Prop}
end
def tDSetD (td ty tx : TE) : TE := fun σ H Q => td σ H fun x H1 => ∃ a, x = .ref a ∧ IsD H1 a ∧ ty σ H1 fun y H2 => tx σ H2 fun z H3 => ∃ b kvs k, H3 a = some (.dT kvs) ∧ y = .ref b ∧ H3 b = some (.tup (k.map kV)) ∧ kvs.length < sizeLine ∧
  (∀ v, valV kvs k = some v → Q v H3) ∧ (valV kvs k = none → Q z (upd H3 a (.dT (putK kvs k z))))
section
variable {X : Cx} {o e f : Expr} {apos cpos : Pos} {td ty tx : TE}
theorem qpe_dnewT {pos : Pos} : Pr (PE X (.Dict [] [] pos) tDNewT) := ⟨pe_dnewT⟩
theorem qpt_dnotin {i : Expr} {pos : Pos} (hu : X.A.units + 1 < cLine) (hi : Pr (PE X i ty)) (ho : Pr (PE X o td)) (h1 : behindInMarks .NotIn o = false := by rfl) : Pr (PT X (.Compare i [.NotIn] [o] pos) (tB (tDNotIn ty td))) := ⟨pt_cmp (pc_dnotin hu hi.h ho.h) h1⟩
theorem qpe_dgetT {i : Expr} {pos : Pos} (hu : X.A.units + 1 < cLine) (ho : Pr (PE X o td)) (hi : Pr (PE X i ty)) (hs : NoSl i) : Pr (PE X (.Subscript o i pos) (tDGet td ty)) := ⟨pe_dget hu ho.h hi.h hs⟩
theorem qps_dput {i value : Expr} {tv : TE} {pos pos' : Pos} (hu : X.A.units + 1 < cLine) (ho : Pr (PE X o td)) (hi : Pr (PE X i ty)) (hv : Pr (PE X value tv)) (hs : swapsWith value (some (.Subscript o i pos')) pos.line X.env = pure false) :
    Pr (PS X (.Assign [.Subscript o i pos'] value pos) (sDPut td ty tv)) := ⟨ps_dput hu ho.h hi.h hv.h hs⟩
end
end L2

namespace L2
open PySem PySem.W PyProof.Rows
def sqO (k : SK) (xs : List V) : HO := match k with
  | .list => .lst xs
  | .tuple => .tup xs
def ItK (K : PySem.W.Frag) (k : SK) (a : Addr) : It := match k with
  | .list => Itl K a
  | .tuple => Itt K a
def iSq (K : PySem.W.Frag) (k : SK) (tl : TE) : TI := fun σ H R => tl σ H fun x H1 => ∃ a, x = .ref a ∧ (∃ xs, Sq k K H1 a xs) ∧ R (ItK K k a) H1
section
variable {X : Cx} {tg l : Expr}
end
theorem dget_some {H : Hp} {a b : Addr} {kvs : List (List Key × V)} {k : List Key} {v : V} (e : H a = some (.dT kvs)) (eb : H b = some (.tup (k.map kV))) (h : valV kvs k = some v) : DGet H a (.ref b) (some v) := h ▸ DGet.t e eb
theorem dget_none {H : Hp} {a b : Addr} {kvs : List (List Key × V)} {k : List Key} (e : H a = some (.dT kvs)) (eb : H b = some (.tup (k.map kV))) (h : valV kvs k = none) : DGet H a (.ref b) none := h ▸ DGet.t e eb
theorem callK_tuple_of {X : Cx} (K : PySem.W.Frag) (hK : X.K = K) : CallR X (.type "tuple") (fun xs H Q => ∃ p ys, xs = [V.ref p] ∧ ((SqL K H p ys ∧ ∀ (l : Addr), H l = none → Q (V.ref l) (upd H l (HO.tup ys))) ∨ SqT K H p ys ∧ Q (V.ref p) H)) := by subst hK; exact call_tuple_of
end L2

namespace L2
open PySem PySem.Spec PyProof.Rows PySem.SeqAt
section
variable {prog : Program} {w : World} {A : Around} {E : Value → Shared → Prop} {s : Shared} {I : Addr} {fp wr : List Addr} {G : Array GenState → Array GenState → Prop} {n : Nat} {P : Nat → Value → Prop} {St : Nat → Shared → Prop}
end
section
variable {X : Cx}
def tTR (K : PySem.W.Frag) (ta : TA) : TE := fun σ H Q => ta σ H fun vs H1 => ∃ a xs, vs = [.ref a] ∧ SqL K H1 a xs ∧ ∀ D, H1 D = none → Q (.ref D) (upd H1 D (.tup xs.reverse))
theorem all_true (n : Nat) : (List.range n).all (fun _ => true) = true := by simp
def SameL (H : Hp) (u v : Addr) : Prop := u ≠ v ∧ ∃ ps : List Addr, H u = some (.lst (ps.map V.ref)) ∧ H v = some (.lst (ps.map V.ref))
def rNeW : R2 := fun x y H Q => ∃ (a b : Addr) (us vs : List Addr), x = .ref a ∧ y = .ref b ∧ H a = some (.tup (us.map V.ref)) ∧ H b = some (.tup (vs.map V.ref)) ∧ Paired (SameL H) us vs ∧ Q (.bl false) H
theorem paired_at {α β : Type} {R : α → β → Prop} : ∀ {xs : List α} {ys : List β}, Paired R xs ys → ∀ (j : Nat) (h1 : j < xs.length) (h2 : j < ys.length), R xs[j] ys[j]
  | _, _, .nil, j, h1, _ => absurd h1 (Nat.not_lt_zero _)
  | _, _, .cons a t, 0, _, _ => a
  | _, _, .cons a t, j + 1, h1, h2 => by
    have := paired_at t j (by simpa using h1) (by simpa using h2)
    simpa using this
end
end L2

namespace L2
open PySem PySem.Spec PyProof.Rows PySem.SeqAt
section
variable {X : Cx}
def Pl (x : V) : Prop := (∃ i, x = .int i) ∨ ∃ p, x = .ref p
def EqD (H : Hp) (x y : V) : Prop := (x = y ∧ Pl x) ∨ ∃ u v zs, x = .ref u ∧ y = .ref v ∧ H u = some (.tup zs) ∧ H v = some (.tup zs) ∧ ∀ z ∈ zs, Pl z
theorem eqat_pl {A : Around} {s : Shared} {x : V} {v u : Value} (h : Pl x) (r1 : RelV x v) (r2 : RelV x u) : EqAt A s v u true := by
  rcases h with ⟨i, rfl⟩ | ⟨p, rfl⟩
  · obtain ⟨t, rfl⟩ := r1
    obtain ⟨t', rfl⟩ := r2
    have := EqAt.int_int (A := A) (s := s) i t i t'
    rwa [beq_self_eq_true] at this
  · cases r1
    cases r2
    exact EqAt.same _
def rNeD : R2 := fun x y H Q => ∃ (a b : Addr) (xs ys : List V), x = .ref a ∧ y = .ref b ∧ H a = some (.tup xs) ∧ H b = some (.tup ys) ∧ Paired (EqD H) xs ys ∧ Q (.bl false) H
theorem vals_at {xs : List V} {us : List Value} (r : Vals xs us) (j : Nat) (h1 : j < xs.length) (h2 : j < us.length) : RelV xs[j] us[j] := paired_at r j h1 h2
theorem op_neD (hu : X.A.units + 64 < cLine) : OpR X (compareOp .NotEq) rNeD := by
  intro pins s σ H x y v u Q I rx ry h
  obtain ⟨a, b, xs, ys, rfl, rfl, ha, hb, pr, q⟩ := h
  cases rx
  cases ry
  obtain ⟨z, its, rv, t1⟩ := I.hok a _ ha
  obtain ⟨z2, its2, rv2, t2⟩ := I.hok b _ hb
  have l1 := rv.length
  have l2 := rv2.length
  have el := Paired.length pr
  have key := RcNeAt.tuples (A := X.A) (s := s) (e := fun _ => true) t1 t2 (by omega) (fun j h1 h2 => by
    have j1 : j < its.length := by simpa using h1
    have j2 : j < its2.length := by simpa using h2
    have r1 := vals_at rv j (by omega) j1
    have r2 := vals_at rv2 j (by omega) j2
    simp only [List.getElem_toArray]
    rcases paired_at pr j (by omega) (by omega) with ⟨e, pl⟩ | ⟨u, v, zs, e1, e2, g1, g2, pl⟩
    · rw [← e] at r2
      exact eqat_pl pl r1 r2
    · rw [e1] at r1
      rw [e2] at r2
      have q1 : its[j] = .ref u := r1
      have q2 : its2[j] = .ref v := r2
      rw [q1, q2]
      by_cases ne : u = v
      · rw [ne]; exact EqAt.same _
      · obtain ⟨_, as, ra, ta⟩ := I.hok _ _ g1
        obtain ⟨_, bs, rb, tb⟩ := I.hok _ _ g2
        have m1 := ra.length
        have m2 := rb.length
        have k := RcAt.tuples (A := X.A.in1) (s := s) (e := fun _ => true) ta tb (show X.A.units + 1 < cLine by omega) (fun i h1 h2 => by
          have i1 : i < as.length := by simpa using h1
          have i2 : i < bs.length := by simpa using h2
          simp only [List.getElem_toArray]
          exact eqat_pl (pl _ (List.getElem_mem (by omega))) (vals_at ra i (by omega) i1) (vals_at rb i (by omega) i2))
        have e : ((List.range (min as.toArray.size bs.toArray.size)).all (fun _ => true) && as.toArray.size == bs.toArray.size) = true := by
          rw [all_true]
          simp only [List.size_toArray, Bool.true_and, beq_iff_eq]
          omega
        rw [e] at k
        exact EqAt.of_refs ne k)
  have e : (!((List.range (min its.toArray.size its2.toArray.size)).all (fun _ => true) && its.toArray.size == its2.toArray.size)) = false := by
    rw [all_true]
    simp only [List.size_toArray, Bool.true_and, Bool.not_eq_false', beq_iff_eq]
    omega
  rw [e] at key
  exact key X.prog X.w X.xe _ ⟨.bl _, H, I, rfl, q⟩
theorem qpe_din {i o : Expr} {ty td : TE} {pos : Pos} (hu : X.A.units + 1 < cLine) (hi : Pr (PE X i ty)) (ho : Pr (PE X o td)) (h1 : behindInMarks .In o = false := by rfl) : Pr (PE X (.Compare i [.In] [o] pos) (tDIn ty td)) := ⟨pe_cmp (pc_din hu hi.h ho.h) h1⟩
end
theorem dgetS_some {H : Hp} {a : Addr} {kvs : List (Key × V)} {x : Str} {v : V} (e : H a = some (.dK kvs)) (h : valV kvs (.inr x) = some v) : DGet H a (.str x) (some v) := h ▸ DGet.k (k := .inr x) e
theorem dgetI_some {H : Hp} {a : Addr} {kvs : List (Key × V)} {i : Int} {v : V} (e : H a = some (.dK kvs)) (h : valV kvs (.inl i) = some v) : DGet H a (.int i) (some v) := h ▸ DGet.k (k := .inl i) e
theorem dgetI_none {H : Hp} {a : Addr} {kvs : List (Key × V)} {i : Int} (e : H a = some (.dK kvs)) (h : valV kvs (.inl i) = none) : DGet H a (.int i) none := h ▸ DGet.k (k := .inl i) e
theorem dputI {H : Hp} {a : Addr} {kvs : List (Key × V)} {i : Int} {v : V} (e : H a = some (.dK kvs)) (hl : kvs.length < sizeLine) : DPut H a (.int i) v (upd H a (.dK (putK kvs (.inl i) v))) := DPut.k (k := .inl i) e hl
end L2

set_option maxHeartbeats 4000000
namespace B17
open PySem L2
abbrev Vs (sc : Scope) (x : Str) : Prop := sc.names.lookup x = some NameKind.local ∨ sc.names.lookup x = some NameKind.cell ∨ sc.names.lookup x = some NameKind.free
abbrev Lc (sc : Scope) (x : Str) : Prop := sc.names.lookup x = some NameKind.local ∨ sc.names.lookup x = some NameKind.cell
abbrev Gi (sc : Scope) (x : Str) : Prop := sc.names.lookup x = some NameKind.globalImplicit
abbrev Nd (x : Str) : Prop := (x == ("__debug__" : Str)) = false
abbrev Nc (x : Str) : Prop := (x == ("__classdict__" : Str)) = false
local macro_rules | `(tactic| walk_at "few") => `(tactic| (with_reducible show (List.length (α := Str × V) _) < 1000); first | exact (by decide : 0 < 1000) | exact (by decide : 1 < 1000) | exact (by decide : 2 < 1000) | exact (by decide : 3 < 1000) | exact (by decide : 4 < 1000) | exact (by decide : 5 < 1000) | exact (by decide : 6 < 1000))
local macro_rules | `(tactic| walk_at "get") => `(tactic| first
  | with_reducible assumption
  | exact upd_same
  | (apply g_new; (focus with_reducible assumption); (focus walk_at "get"))
  | (apply g_put; (focus walk_at "ne"); (focus walk_at "get"))
  | (apply Ch.get; (focus with_reducible assumption); (focus walk_at "get"); (focus walk_at "notin")))
local macro_rules | `(tactic| walk_at "ne") => `(tactic| first | with_reducible assumption | (apply Ne.symm; with_reducible assumption) | (apply ne_of; (focus with_reducible assumption); (focus with_reducible assumption); (focus (intro z; cases z))))
local macro_rules | `(tactic| walk_at "notin") => `(tactic| first | exact List.not_mem_nil | (simp only [List.mem_cons, List.not_mem_nil, or_false, not_or, not_false_eq_true]; first | walk_at "ne" | trivial))
local macro_rules | `(tactic| walk_at "scr") => `(tactic| first
  | with_reducible assumption
  | (apply Scr.ch; (focus with_reducible assumption); (focus with_reducible assumption); (focus walk_at "ch"))
  | (apply Scr.same; (focus with_reducible assumption); (focus walk_at "ch")))
local macro_rules | `(tactic| walk_at "ch") => `(tactic| first
  | with_reducible assumption
  | exact Ch.refl _ _
  | exact Ch.put
  | (apply Ch.new; with_reducible assumption)
  | (apply Ch.wk; with_reducible assumption)
  | (apply Ch.own; (focus with_reducible assumption); (focus walk_at "ch"))
  | (apply Ch.trans; (rotate_left; focus with_reducible assumption); (focus walk_at "ch"))
  | (apply Ch.trans; (rotate_left; focus (apply Ch.wk; with_reducible assumption)); (focus walk_at "ch"))
  | (apply Ch.trans; (rotate_left; focus exact Ch.put); (focus walk_at "ch"))
  | (apply Ch.trans; (rotate_left; focus (apply Ch.new; with_reducible assumption)); (focus walk_at "ch")))
local macro_rules | `(tactic| walk_at "sq") => `(tactic| first
  | (apply Scr.sq; walk_at "scr")
  | (apply Exists.intro; walk_at "sq")
  | (refine (‹∀ H : Hp, SqT _ H _ _›) _)
  | (apply SqL.of; walk_at "get")
  | (apply SqT.of; walk_at "get")
  | (apply Or.inl; apply Scr.sq; walk_at "scr")
  | (apply Or.inl; apply SqL.of; walk_at "get")
  | (apply Or.inr; apply SqT.of; walk_at "get"))
local macro_rules | `(tactic| walk_at "arith") => `(tactic| first
  | omega
  | (simp only [List.length_map, List.length_cons, List.length_nil, List.length_append, List.length_singleton, List.length_replicate]; done)
  | ((try dsimp only); (try simp only [List.length_map, List.length_cons, List.length_nil, List.length_append, List.length_singleton, List.length_replicate, sizeLine_eq]); omega)
  | ((try dsimp only); (try simp only [List.length_map, List.length_cons, List.length_nil, List.length_append, List.length_singleton, List.length_replicate, sizeLine_eq] at *); omega))
local macro_rules | `(tactic| walk_at "cond") => `(tactic| first
  | (refine Or.inl (And.intro ?_ ?_) <;> walk_at "arith")
  | (refine Or.inr (And.intro ?_ ?_) <;> walk_at "arith")
  | (refine And.intro ?_ (And.intro ?_ ?_) <;> walk_at "arith")
  | (refine And.intro ?_ ?_ <;> walk_at "arith"))
local macro_rules | `(tactic| walk_at "len") => `(tactic| first
  | with_reducible assumption
  | exact len_one
  | (apply len_slice; walk_at "len")
  | (apply len_app; (focus walk_at "len"); (focus walk_at "len"))
  | exact Nat.le_refl _)
local macro_rules | `(tactic| walk_at "lens") => `(tactic| first
  | (apply len_sum; (focus walk_at "len"); (focus walk_at "len"); (focus first | decide +kernel | walk_at "arith"))
  | (apply len_top; (focus walk_at "len"); (focus first | decide +kernel | walk_at "arith")))
local macro_rules | `(tactic| walk_at "side") => `(tactic| first
  | with_reducible rfl | with_reducible assumption | walk_at "sq" | walk_at "get" | walk_at "scr" | walk_at "ch" | walk_at "ty" | exact TyOf.int _ | exact TyOf.str _ | (apply TyOf.tup; walk_at "get") | (apply TyOf.lst; walk_at "get") | exact TyOf.bl _ | exact TyOf.non | walk_at "few" | decide | omega | walk_at "arith" | walk_at "cond" | ((try simp only [List.length_map]); with_reducible assumption) | walk_at "lens" | (apply Or.inr; with_reducible assumption) | walk_at "user" | exact rfl | assumption)
local macro_rules | `(tactic| walk_at "ty") => `(tactic| (refine Or.inl (And.intro rfl ?_); apply Exists.intro; walk_at "sq"))
local macro_rules | `(tactic| walk_at "user") => `(tactic| fail)
local macro_rules | `(tactic| walk_at "rd1") => `(tactic| first
  | apply Exists.intro
  | (refine And.intro rfl ?_)
  | (refine And.intro (show V.str _ = L2.kV (Sum.inr _) from rfl) ?_)
  | (refine And.intro (show V.int _ = L2.kV (Sum.inl _) from rfl) ?_)
  | (refine And.intro (L2.cut1_not _ _) ?_)
  | (apply And.intro; (focus (walk_at "side"; done)))
  | apply Atx.head
  | (apply Atx.of; (focus first | exact rfl | with_reducible assumption | ((try simp only [List.length_map]); with_reducible assumption)))
  | (apply Or.inl; apply Exists.intro; (refine And.intro rfl ?_))
  | (apply Or.inr; apply Exists.intro; (refine And.intro rfl ?_))
  | (apply Or.inl; apply And.intro; (focus walk_at "sq"))
  | (apply Or.inr; apply And.intro; (focus walk_at "sq"))
  | (intro _)
  | walk_at "fin")
local macro_rules | `(tactic| walk_at "fin") => `(tactic| first | exact rfl | (walk_at "get"; done))
local macro_rules | `(tactic| walk_at "rd") => `(tactic| repeat walk_at "rd1")
section
local macro_rules | `(tactic| walk_at "user") => `(tactic| first
  | (apply dgetS_some; (focus walk_at "get"); (focus with_reducible assumption))
  | (apply dgetI_some; (focus walk_at "get"); (focus with_reducible assumption)))
def top (i : Nat) : Stmt := PySem.Challenge.pw_bitfloor_k75_opened_nets.main.body.getD i (.Pass ⟨0, 0, 0, 0⟩)
def SqX (k : SK) (H : Hp) (a : Addr) (xs : List V) : Prop := match k with
  | .list => H a = some (.lst xs)
  | .tuple => H a = some (.tup xs)
def bi : Bool → Int
  | true => 1
  | false => 0
def bV (b : Bool) : V := .int (bi b)
theorem chFree {H H' : Hp} (c : Ch [] H H') {r : Addr} (h : H' r = none) : H r = none := by
  cases e : H r with
  | none => rfl
  | some o => rw [c r o e (by simp)] at h; cases h
inductive Th (H : Hp) : V → Prop
  | int (i : Int) : Th H (.int i)
  | non : Th H .non
  | bl (b : Bool) : Th H (.bl b)
  | str (x : Str) : Th H (.str x)
def isI : V → Bool
  | .int _ => true
  | _ => false
def belB (v : V) (b : Int) : Bool := match v with
  | .int i => decide (0 ≤ i) && decide (i < b)
  | _ => false
def okB (v : V) : Prop := belB v 2 = true
abbrev Wr := List Key
inductive Wd
  | i
  | k
  | t
def Wd.s : Wd → Str
  | .i => "in"
  | .k => "keep"
  | .t => "table"
abbrev Plc := Wd × Nat
def plK (p : Plc) : Wr := [.inr p.1.s, .inl (p.2 : Int)]
def lim (a b c : Nat) : Wd → Nat
  | .i => a
  | .k => b
  | .t => c
def cntK (a b c : Nat) : List (Key × V) := [(.inr "in", .int (a : Int)), (.inr "keep", .int (b : Int)), (.inr "table", .int (c : Int))]
theorem cnt_val (a b c : Nat) (x : Wd) : valV (cntK a b c) (.inr x.s) = some (.int (lim a b c x : Int)) := by cases x <;> rfl
abbrev WsAt (H : Hp) : List Wr → List Addr → Prop := Paired (fun k p => H p = some (.tup (k.map kV)))
theorem paired_imp {α β : Type} {R S : α → β → Prop} (h : ∀ x y, R x y → S x y) : ∀ {xs : List α} {ys : List β}, Paired R xs ys → Paired S xs ys
  | _, _, .nil => .nil
  | _, _, .cons a t => .cons (h _ _ a) (paired_imp h t)
theorem paired_snoc {α β : Type} {R : α → β → Prop} {x : α} {y : β} (h : R x y) : ∀ {xs : List α} {ys : List β}, Paired R xs ys → Paired R (xs ++ [x]) (ys ++ [y])
  | _, _, .nil => .cons h .nil
  | _, _, .cons a t => .cons a (paired_snoc h t)
theorem paired_get {α : Type} {R : α → Addr → Prop} : ∀ {xs : List α} {ps : List Addr}, Paired R xs ps → ∀ (i : Nat) (v : V), (ps.map V.ref)[i]? = some v → ∃ p x, v = .ref p ∧ xs[i]? = some x ∧ R x p
  | _, _, .nil, i, x, h => by simp at h
  | k :: ws, p :: ps, .cons a t, 0, x, h => ⟨p, k, by simpa using h.symm, rfl, a⟩
  | k :: ws, p :: ps, .cons a t, i + 1, x, h => by
    obtain ⟨p', k', e1, e2, e3⟩ := paired_get t i x (by simpa using h)
    exact ⟨p', k', e1, by simpa using e2, e3⟩
theorem WsAt.tu {H H' : Hp} (h : Tu H H') {ks : List Wr} {ps : List Addr} (s : WsAt H ks ps) : WsAt H' ks ps := paired_imp (fun _ _ e => h _ _ e) s
theorem pl_get {H : Hp} {ls : List Plc} {ps : List Addr} (s : WsAt H (ls.map plK) ps) (i : Nat) (v : V) (h : (ps.map V.ref)[i]? = some v) : ∃ p x, v = .ref p ∧ ls[i]? = some x ∧ H p = some (.tup [.str x.1.s, .int (x.2 : Int)]) := by
  obtain ⟨p, k, e1, e2, e3⟩ := paired_get s i v h
  rw [List.getElem?_map] at e2
  obtain ⟨x, ex, rfl⟩ := Option.map_eq_some_iff.mp e2
  exact ⟨p, x, e1, ex, e3⟩
structure Tb where
  ls : List Plc
  bits : Int
def room (n : Nat) : Int := [2, 4, 16, 256, 65536].getD n 2
structure Tb.ok (a b c : Nat) (t : Tb) : Prop where
  l4 : t.ls.length ≤ 4
  lo : ∀ p ∈ t.ls, p.2 < lim a b c p.1
  b0 : 0 ≤ t.bits
  b1 : t.bits < room t.ls.length
structure Kp where
  f : Bool
  pl : Plc
def TbL (ex : List Addr) (H : Hp) (t : Tb) (p : Addr) : Prop := ∃ (lp : Addr) (ps : List Addr), lp ∉ ex ∧ H p = some (.tup [.ref lp, .int t.bits]) ∧ H lp = some (.lst (ps.map V.ref)) ∧ WsAt H (t.ls.map plK) ps
def TbT (H : Hp) (t : Tb) (p : Addr) : Prop := ∃ (lp : Addr) (ps : List Addr), H p = some (.tup [.ref lp, .int t.bits]) ∧ H lp = some (.tup (ps.map V.ref)) ∧ WsAt H (t.ls.map plK) ps
def KpAt (H : Hp) (k : Kp) (p : Addr) : Prop := ∃ pp, H p = some (.tup [bV k.f, .ref pp]) ∧ H pp = some (.tup [.str k.pl.1.s, .int (k.pl.2 : Int)])
structure Kl (ex : List Addr) (H H' : Hp) : Prop where
  t : Tu H H'
  l : ∀ p xs, p ∉ ex → H p = some (.lst xs) → H' p = some (.lst xs)
theorem Kl.new {ex : List Addr} {H H' : Hp} (c : Ch [] H H') : Kl ex H H' := ⟨Tu.same c, fun p xs _ h => c.get h (by simp)⟩
theorem Kl.one {ex : List Addr} {H H' : Hp} {b : Addr} {zs : List V} (c : Ch [b] H H') (hb : H b = some (.lst zs)) (m : b ∈ ex) : Kl ex H H' := ⟨Tu.lst c hb, fun p xs n h => c.get h (fun z => n (by rw [List.mem_singleton.mp z]; exact m))⟩
theorem Kl.ob {ex : List Addr} {H H' : Hp} {y C d : Addr} {fs : List (Str × V)} (c : Ch [y] H H') (hy : H y = some (.ins C d fs)) : Kl ex H H' := ⟨Tu.ch c hy (fun _ z => by cases z), fun p xs _ h => c.get h (by simpa using ne_of h hy (by intro z; cases z))⟩
theorem Kl.trans {ex : List Addr} {H H1 H2 : Hp} (a : Kl ex H H1) (b : Kl ex H1 H2) : Kl ex H H2 := ⟨a.t.trans b.t, fun p xs n h => b.l p xs n (a.l p xs n h)⟩
theorem TbL.kl {ex : List Addr} {H H' : Hp} (k : Kl ex H H') {t : Tb} {p : Addr} (s : TbL ex H t p) : TbL ex H' t p := let ⟨lp, ps, n, a, b, w⟩ := s; ⟨lp, ps, n, k.t _ _ a, k.l _ _ n b, WsAt.tu k.t w⟩
theorem TbT.tu {H H' : Hp} (k : Tu H H') {t : Tb} {p : Addr} (s : TbT H t p) : TbT H' t p := let ⟨lp, ps, a, b, w⟩ := s; ⟨lp, ps, k _ _ a, k _ _ b, WsAt.tu k w⟩
theorem KpAt.tu {H H' : Hp} (k : Tu H H') {t : Kp} {p : Addr} (s : KpAt H t p) : KpAt H' t p := let ⟨pp, a, b⟩ := s; ⟨pp, k _ _ a, k _ _ b⟩
theorem bi01 (b : Bool) : 0 ≤ bi b ∧ bi b < 2 := by cases b <;> decide
section
variable {P : Program} {w : World} {K : PySem.W.Frag} {mg : Str → Option Value} {base : Heap} {f : Addr} {fd : FuncData} {k : Nat}
theorem bo_isinstance : bootBuiltins "isinstance" = some (.builtin "isinstance") := by decide +kernel
theorem bo_bool : bootBuiltins "bool" = some (.type "bool") := by decide +kernel
theorem nn_bool : ("bool" : Str) ≠ "__name__" := by decide +kernel
theorem gd_bool : Nd "bool" := by decide +kernel
theorem nn_isinstance : ("isinstance" : Str) ≠ "__name__" := by decide +kernel
theorem gd_isinstance : Nd "isinstance" := by decide +kernel
theorem bo_int : bootBuiltins "int" = some (.type "int") := by decide +kernel
theorem nn_int : ("int" : Str) ≠ "__name__" := by decide +kernel
theorem gd_int : Nd "int" := by decide +kernel
theorem gd_is_whole : Nd "is_whole" := by decide +kernel
theorem bo_tuple : bootBuiltins "tuple" = some (.type "tuple") := by decide +kernel
theorem nn_tuple : ("tuple" : Str) ≠ "__name__" := by decide +kernel
theorem gd_tuple : Nd "tuple" := by decide +kernel
theorem bo_list : bootBuiltins "list" = some (.type "list") := by decide +kernel
theorem nn_list : ("list" : Str) ≠ "__name__" := by decide +kernel
theorem gd_list : Nd "list" := by decide +kernel
theorem bo_str : bootBuiltins "str" = some (.type "str") := by decide +kernel
theorem nn_str : ("str" : Str) ≠ "__name__" := by decide +kernel
theorem gd_str : Nd "str" := by decide +kernel
theorem nn_len : ("len" : Str) ≠ "__name__" := by decide +kernel
theorem gd_len : Nd "len" := by decide +kernel
theorem gd_is_below : Nd "is_below" := by decide +kernel
theorem gd_is_listed : Nd "is_listed" := by decide +kernel
theorem bo_all : bootBuiltins "all" = some (.builtin "all") := by decide +kernel
theorem gd_is_place : Nd "is_place" := by decide +kernel
theorem nn_all : ("all" : Str) ≠ "__name__" := by decide +kernel
theorem gd_all : Nd "all" := by decide +kernel
theorem g5_isinstance : Gi (defScope (top 5)) "isinstance" := by decide +kernel
theorem v5_0 : Vs (defScope (top 5)) "thing" := by decide +kernel
theorem d5_0 : Nd "thing" := by decide +kernel
theorem c5_0 : Nc "thing" := by decide +kernel
theorem g5_bool : Gi (defScope (top 5)) "bool" := by decide +kernel
theorem g5_int : Gi (defScope (top 5)) "int" := by decide +kernel
def spWholeG : Sp := fun vs H Q _ => ∃ v : V, vs = [v] ∧ Th H v ∧ Q (.bl (isI v)) H
theorem scWhole : FnScope ["thing"] ["thing"] (defScope (top 5)) := ⟨rfl, rfl, rfl, by decide +kernel, rfl, by decide +kernel, by decide +kernel⟩
theorem ok_wholeG (F : Fun K "is_whole" "is_whole" (top 5) f fd) (z_isinstance : mg "isinstance" = none) (z_int : mg "int" = none) (z_bool : mg "bool" = none) : FnOk P w K mg base CX0 (k + 1) f fd ["thing"] spWholeG := by
  have nd := scWhole.nd
  refine F.ok scWhole (fun vs H Q E h => by obtain ⟨i, rfl, _⟩ := h; rfl) (fun cdv A outer s H vs Q E hr h => ?_)
  obtain ⟨v, rfl, t, q⟩ := h
  refine ⟨_, (Pr.h (qpss_one (qps_ret (qpe_and (qpe_callB call_isT g5_isinstance z_isinstance bo_isinstance (qpa_cons (qpe_var (i := 0) rfl v5_0 d5_0 c5_0) (qpa_cons (qpe_bltn (v := .ty "int") g5_int z_int bo_int rfl nn_int gd_int) qpa_nil)) nn_isinstance gd_isinstance) (qpe_one (qpe_not (qpe_callB call_isT g5_isinstance z_isinstance bo_isinstance (qpa_cons (qpe_var (i := 0) rfl v5_0 d5_0 c5_0) (qpa_cons (qpe_bltn (v := .ty "bool") g5_bool z_bool bo_bool rfl nn_bool gd_bool) qpa_nil)) nn_isinstance gd_isinstance))))))), ?_⟩
  (try dsimp only [cxOf])
  cases t with
  | int i => walk_at "rd"; exact q
  | non => walk_at "rd"; exact q
  | bl b => walk_at "rd"; exact q
  | str x => walk_at "rd"; exact q
def spWhole : Sp := fun vs H Q _ => ∃ i : Int, vs = [.int i] ∧ Q (.bl true) H
theorem whole_imp : ∀ vs H Q E, spWhole vs H Q E → spWholeG vs H Q E := fun vs H Q E ⟨i, e, q⟩ => ⟨_, e, .int i, q⟩
theorem v6_0 : Vs (defScope (top 6)) "thing" := by decide +kernel
theorem d6_0 : Nd "thing" := by decide +kernel
theorem c6_0 : Nc "thing" := by decide +kernel
theorem v6_1 : Vs (defScope (top 6)) "bound" := by decide +kernel
theorem d6_1 : Nd "bound" := by decide +kernel
theorem c6_1 : Nc "bound" := by decide +kernel
theorem g6_is_whole : Gi (defScope (top 6)) "is_whole" := by decide +kernel
def spBelowG : Sp := fun vs H Q _ => ∃ (v : V) (b : Int), vs = [v, .int b] ∧ Th H v ∧ Q (.bl (belB v b)) H
theorem scBelow : FnScope ["thing", "bound"] ["thing", "bound"] (defScope (top 6)) := ⟨rfl, rfl, rfl, by decide +kernel, rfl, by decide +kernel, by decide +kernel⟩
theorem ok_belowG (F : Fun K "is_below" "is_below" (top 6) f fd) (Dis_whole : DefOk P w K mg base CX0 k "is_whole" ["thing"] spWholeG) : FnOk P w K mg base CX0 (k + 1) f fd ["thing", "bound"] spBelowG := by
  have nd := scBelow.nd
  refine F.ok scBelow (fun vs H Q E h => by obtain ⟨v, b, rfl, _⟩ := h; rfl) (fun cdv A outer s H vs Q E hr h => ?_)
  obtain ⟨v, b, rfl, t, q⟩ := h
  refine ⟨_, (Pr.h (qpss_one (qps_ret (qpe_and (qpe_callD Dis_whole hr g6_is_whole pass0 (qpa_cons (qpe_var (i := 0) rfl v6_0 d6_0 c6_0) qpa_nil se_Name) gd_is_whole) (qpe_one (qpe_chain op_le op_lt qpe_int (qpe_var (i := 0) rfl v6_0 d6_0 c6_0) (qpe_var (i := 1) rfl v6_1 d6_1 c6_1))))))), ?_⟩
  (try dsimp only [cxOf])
  refine ⟨_, rfl, _, rfl, t, ?_⟩
  cases t with
  | int i =>
    walk_at "rd"
    refine ite2 (fun h0 => ?_) (fun h0 => ?_)
    · walk_at "rd"
      have h0 : 0 ≤ i := by simpa using h0
      have e : belB (.int i) b = decide (i < b) := by show (decide (0 ≤ i) && decide (i < b)) = _; rw [decide_eq_true h0, Bool.true_and]
      rw [e] at q
      exact q
    · have h0 : ¬ 0 ≤ i := by simpa using h0
      have e : belB (.int i) b = false := by show (decide (0 ≤ i) && decide (i < b)) = _; rw [decide_eq_false h0, Bool.false_and]
      rw [e] at q
      walk_at "rd"
      all_goals first | exact q | (rw [decide_eq_false h0]; exact q)
  | non => walk_at "rd"; exact q
  | bl b => walk_at "rd"; exact q
  | str x => walk_at "rd"; exact q
def spBelow : Sp := fun vs H Q _ => ∃ i b : Int, vs = [.int i, .int b] ∧ 0 ≤ i ∧ i < b ∧ Q (.bl true) H
theorem below_imp : ∀ vs H Q E, spBelow vs H Q E → spBelowG vs H Q E := fun vs H Q E ⟨i, b, e, h0, h1, q⟩ => ⟨_, _, e, .int i, by
  have z : belB (.int i) b = true := by show (decide (0 ≤ i) && decide (i < b)) = _; rw [decide_eq_true h0, decide_eq_true h1]; rfl
  rw [z]; exact q⟩
theorem g7_tuple : Gi (defScope (top 7)) "tuple" := by decide +kernel
theorem g7_list : Gi (defScope (top 7)) "list" := by decide +kernel
theorem g7_isinstance : Gi (defScope (top 7)) "isinstance" := by decide +kernel
theorem v7_0 : Vs (defScope (top 7)) "thing" := by decide +kernel
theorem d7_0 : Nd "thing" := by decide +kernel
theorem c7_0 : Nc "thing" := by decide +kernel
def spListed : Sp := fun vs H Q _ => ∃ (kd : SK) (a : Addr) (xs : List V), vs = [.ref a] ∧ SqX kd H a xs ∧ ∀ H', Ch [] H H' → Q (.bl true) H'
theorem scListed : FnScope ["thing"] ["thing"] (defScope (top 7)) := ⟨rfl, rfl, rfl, by decide +kernel, rfl, by decide +kernel, by decide +kernel⟩
theorem ok_listed (F : Fun K "is_listed" "is_listed" (top 7) f fd) (z_isinstance : mg "isinstance" = none) (z_list : mg "list" = none) (z_tuple : mg "tuple" = none) : FnOk P w K mg base CX0 (k + 1) f fd ["thing"] spListed := by
  have nd := scListed.nd
  refine F.ok scListed (fun vs H Q E h => by obtain ⟨kd, a, xs, rfl, _⟩ := h; rfl) (fun cdv A outer s H vs Q E hr h => ?_)
  obtain ⟨kd, a, xs, rfl, hx, q⟩ := h
  refine ⟨_, (Pr.h (qpss_one (qps_ret (qpe_callB call_isT2 g7_isinstance z_isinstance bo_isinstance (qpa_cons (qpe_var (i := 0) rfl v7_0 d7_0 c7_0) (qpa_cons (qpe_tup (qpa_cons (qpe_bltn (v := .ty "list") g7_list z_list bo_list rfl nn_list gd_list) (qpa_cons (qpe_bltn (v := .ty "tuple") g7_tuple z_tuple bo_tuple rfl nn_tuple gd_tuple) qpa_nil se_Name) se_Name)) qpa_nil)) nn_isinstance gd_isinstance)))), ?_⟩
  (try dsimp only [cxOf])
  cases kd with
  | list =>
    have hx : H a = some (.lst xs) := hx
    walk_at "rd"
    exact q _ (Ch.new (by assumption) _)
  | tuple =>
    have hx : H a = some (.tup xs) := hx
    walk_at "rd"
    exact q _ (Ch.new (by assumption) _)
theorem g8_isinstance : Gi (defScope (top 8)) "isinstance" := by decide +kernel
theorem v8_0 : Vs (defScope (top 8)) "thing" := by decide +kernel
theorem d8_0 : Nd "thing" := by decide +kernel
theorem c8_0 : Nc "thing" := by decide +kernel
theorem g8_str : Gi (defScope (top 8)) "str" := by decide +kernel
theorem g8_len : Gi (defScope (top 8)) "len" := by decide +kernel
theorem g8_tuple : Gi (defScope (top 8)) "tuple" := by decide +kernel
theorem g8_is_below : Gi (defScope (top 8)) "is_below" := by decide +kernel
theorem v8_1 : Vs (defScope (top 8)) "counts" := by decide +kernel
theorem d8_1 : Nd "counts" := by decide +kernel
theorem c8_1 : Nc "counts" := by decide +kernel
def spPlace : Sp := fun vs H Q _ => ∃ (p cd : Addr) (a b c : Nat) (x : Plc), vs = [.ref p, .ref cd] ∧ H p = some (.tup [.str x.1.s, .int (x.2 : Int)]) ∧ H cd = some (.dK (cntK a b c)) ∧ x.2 < lim a b c x.1 ∧ Q (.bl true) H
theorem scPlace : FnScope ["thing", "counts"] ["thing", "counts"] (defScope (top 8)) := ⟨rfl, rfl, rfl, by decide +kernel, rfl, by decide +kernel, by decide +kernel⟩
theorem ok_place (F : Fun K "is_place" "is_place" (top 8) f fd) (Dis_below : DefOk P w K mg base CX0 k "is_below" ["thing", "bound"] spBelow) (z_isinstance : mg "isinstance" = none) (z_tuple : mg "tuple" = none) (z_str : mg "str" = none) (z_len : mg "len" = none) : FnOk P w K mg base CX0 (k + 1) f fd ["thing", "counts"] spPlace := by
  have nd := scPlace.nd
  refine F.ok scPlace (fun vs H Q E h => by obtain ⟨p, cd, a, b, c, x, rfl, _⟩ := h; rfl) (fun cdv A outer s H vs Q E hr h => ?_)
  obtain ⟨p, cd, a, b, c, ⟨x, n⟩, rfl, hp, hc, hl, q⟩ := h
  have hu := hu_of hr
  refine ⟨_, (Pr.h (qpss_cons (qps_if (qPW_pt (qpw_or (qpt_not (qpt_val (qpe_callB call_isT g8_isinstance z_isinstance bo_isinstance (qpa_cons (qpe_var (i := 0) rfl v8_0 d8_0 c8_0) (qpa_cons (qpe_bltn (v := .ty "tuple") g8_tuple z_tuple bo_tuple rfl nn_tuple gd_tuple) qpa_nil)) nn_isinstance gd_isinstance))) (qpw_or (qpt_cmpR op_ne (qpe_callB call_len_seq g8_len z_len PySem.boot_len (qpa_cons (qpe_var (i := 0) rfl v8_0 d8_0 c8_0) qpa_nil se_Name) nn_len gd_len) qpe_int (nomark _)) (qpw_or1 (qpt_not (qpt_val (qpe_callB call_isT g8_isinstance z_isinstance bo_isinstance (qpa_cons (qpe_ix ixa_tup (qpe_var (i := 0) rfl v8_0 d8_0 c8_0) qpe_int (fun _ _ => rfl)) (qpa_cons (qpe_bltn (v := .ty "str") g8_str z_str bo_str rfl nn_str gd_str) qpa_nil)) nn_isinstance gd_isinstance)))))))
  (qpss_one (qps_ret qpe_bl))
  qpss_nil)
 (qpss_one (qps_ret (qpe_and (qpe_din hu (qpe_ix ixa_tup (qpe_var (i := 0) rfl v8_0 d8_0 c8_0) qpe_int (fun _ _ => rfl)) (qpe_var (i := 1) rfl v8_1 d8_1 c8_1)) (qpe_one (qpe_callD Dis_below hr g8_is_below pass0 (qpa_cons (qpe_ix ixa_tup (qpe_var (i := 0) rfl v8_0 d8_0 c8_0) qpe_int (fun _ _ => rfl)) (qpa_cons (qpe_dgetT hu (qpe_var (i := 1) rfl v8_1 d8_1 c8_1) (qpe_ix ixa_tup (qpe_var (i := 0) rfl v8_0 d8_0 c8_0) qpe_int (fun _ _ => rfl)) (fun _ _ => rfl)) qpa_nil se_Subscript) se_Subscript) gd_is_below))))))), ?_⟩
  (try dsimp only [cxOf])
  have cv := cnt_val a b c x
  have hl' : (n : Int) < (lim a b c x : Int) := by have : n < lim a b c x := hl; omega
  dsimp only at hp
  walk_at "rd"
theorem g19_len : Gi (defScope (top 19)) "len" := by decide +kernel
theorem v19_0 : Vs (defScope (top 19)) "thing" := by decide +kernel
theorem d19_0 : Nd "thing" := by decide +kernel
theorem c19_0 : Nc "thing" := by decide +kernel
theorem g19_is_listed : Gi (defScope (top 19)) "is_listed" := by decide +kernel
theorem g19_isinstance : Gi (defScope (top 19)) "isinstance" := by decide +kernel
theorem g19_tuple : Gi (defScope (top 19)) "tuple" := by decide +kernel
theorem g19_all : Gi (defScope (top 19)) "all" := by decide +kernel
def csc19_0 : Scope := { kind := PySem.ScopeKind.function, names := [ (PySem.Str.ofString ".0", PySem.NameKind.local), (PySem.Str.ofString "leaf", PySem.NameKind.local), (PySem.Str.ofString "is_place", PySem.NameKind.globalImplicit), (PySem.Str.ofString "counts", PySem.NameKind.free)], isGenerator := false, isCoroutine := false, more := [] : PySem.Scope }
theorem cok19_0 : CompOk csc19_0 (defScope (top 19)) (["leaf"] : List Str) (["thing", "counts"] : List Str) [1] (["leaf", "counts"] : List Str) := compOk rfl (by decide +kernel) (by decide +kernel) (by decide +kernel) (by decide +kernel) rfl (by decide +kernel)
theorem kq19_0_0 : (relab csc19_0 (defScope (top 19))).names.lookup (Str.ofString "leaf") = some NameKind.local := by decide +kernel
theorem gq19_0_is_place : Gi (relab csc19_0 (defScope (top 19))) "is_place" := by decide +kernel
theorem vq19_0_1 : Vs (relab csc19_0 (defScope (top 19))) "counts" := by decide +kernel
theorem dq19_0_1 : Nd "counts" := by decide +kernel
theorem cq19_0_1 : Nc "counts" := by decide +kernel
theorem vq19_0_0 : Vs (relab csc19_0 (defScope (top 19))) "leaf" := by decide +kernel
theorem dq19_0_0 : Nd "leaf" := by decide +kernel
theorem cq19_0_0 : Nc "leaf" := by decide +kernel
theorem g19_is_below : Gi (defScope (top 19)) "is_below" := by decide +kernel
def spTable : Sp := fun vs H Q _ => ∃ (ex : List Addr) (p cd : Addr) (a b c : Nat) (t : Tb), vs = [.ref p, .ref cd] ∧ TbL ex H t p ∧ H cd = some (.dK (cntK a b c)) ∧ t.ok a b c ∧ ∀ H', Ch [] H H' → Q (.bl true) H'
theorem scTable : FnScope ["thing", "counts"] ["thing", "counts"] (defScope (top 19)) := ⟨rfl, rfl, rfl, by decide +kernel, rfl, by decide +kernel, by decide +kernel⟩
theorem ok_table (F : Fun K "is_table" "is_table" (top 19) f fd) (Dis_below : DefOk P w K mg base CX0 k "is_below" ["thing", "bound"] spBelow) (Dis_listed : DefOk P w K mg base CX0 k "is_listed" ["thing"] spListed) (Dis_place : DefOk P w K mg base CX0 k "is_place" ["thing", "counts"] spPlace) (z_isinstance : mg "isinstance" = none) (z_tuple : mg "tuple" = none) (z_all : mg "all" = none) (z_len : mg "len" = none) : FnOk P w K mg base CX0 (k + 1) f fd ["thing", "counts"] spTable := by
  have nd := scTable.nd
  refine F.ok scTable (fun vs H Q E h => by obtain ⟨ex, p, cd, a, b, c, t, rfl, _⟩ := h; rfl) (fun cdv A outer s H vs Q E hr h => ?_)
  obtain ⟨ex, p, cd, a, b, c, t, rfl, ⟨lp, sps, _, hp, hs, ws⟩, hc, ok, q⟩ := h
  have hu := hu_of hr
  have ls := Paired.length ws
  rw [List.length_map] at ls
  have s4 := ok.l4
  have sx : SqX .list H lp (sps.map V.ref) := hs
  have b0 := ok.b0
  have b1 : t.bits < 1 * 2 ^ (1 * 2 ^ ((sps.map V.ref).length : Int).toNat : Int).toNat := by
    have := ok.b1
    rw [List.length_map, ← ls, Int.toNat_natCast]
    have e5 : t.ls.length = 0 ∨ t.ls.length = 1 ∨ t.ls.length = 2 ∨ t.ls.length = 3 ∨ t.ls.length = 4 := by omega
    rcases e5 with e | e | e | e | e <;> rw [e] at this ⊢ <;> exact this
  have l4 : (sps.map V.ref).length ≤ 4 := by rw [List.length_map]; omega
  refine ⟨_, (Pr.h (qpss_cons (qps_if (qPW_pt (qpw_or (qpt_not (qpt_val (qpe_callB call_isT g19_isinstance z_isinstance bo_isinstance (qpa_cons (qpe_var (i := 0) rfl v19_0 d19_0 c19_0) (qpa_cons (qpe_bltn (v := .ty "tuple") g19_tuple z_tuple bo_tuple rfl nn_tuple gd_tuple) qpa_nil)) nn_isinstance gd_isinstance))) (qpw_or (qpt_cmpR op_ne (qpe_callB call_len_seq g19_len z_len PySem.boot_len (qpa_cons (qpe_var (i := 0) rfl v19_0 d19_0 c19_0) qpa_nil se_Name) nn_len gd_len) qpe_int (nomark _)) (qpw_or (qpt_not (qpt_val (qpe_callD Dis_listed hr g19_is_listed pass0 (qpa_cons (qpe_ix ixa_tup (qpe_var (i := 0) rfl v19_0 d19_0 c19_0) qpe_int (fun _ _ => rfl)) qpa_nil se_Subscript) gd_is_listed))) (qpw_or1 (qpt_cmpR op_gt (qpe_callB call_len_seq g19_len z_len PySem.boot_len (qpa_cons (qpe_ix ixa_tup (qpe_var (i := 0) rfl v19_0 d19_0 c19_0) qpe_int (fun _ _ => rfl)) qpa_nil se_Subscript) nn_len gd_len) qpe_int (nomark _)))))))
  (qpss_one (qps_ret qpe_bl))
  qpss_nil)
 (qpss_one (qps_ret (qpe_and (qpe_callD Dis_below hr g19_is_below pass0 (qpa_cons (qpe_ix ixa_tup (qpe_var (i := 0) rfl v19_0 d19_0 c19_0) qpe_int (fun _ _ => rfl)) (qpa_cons (qpe_op op_shl qpe_int (qpe_op op_shl qpe_int (qpe_callB call_len_seq g19_len z_len PySem.boot_len (qpa_cons (qpe_ix ixa_tup (qpe_var (i := 0) rfl v19_0 d19_0 c19_0) qpe_int (fun _ _ => rfl)) qpa_nil se_Subscript) nn_len gd_len))) qpa_nil se_BinOp) se_Subscript) gd_is_below) (qpe_one (qpe_callB (call_all rfl) g19_all z_all bo_all (qpa_cons (qpe_comp rfl cok19_0 (qpi_list (qpe_ix ixa_tup (qpe_var (i := 0) rfl v19_0 d19_0 c19_0) qpe_int (fun _ _ => rfl))) (fun _ _ _ _ _ => (qpg_name (i := 0) cok19_0.nd rfl (Or.inl kq19_0_0) (Or.inr kq19_0_0))) (fun _ _ _ _ _ => qpif_nil) (fun _ _ _ _ _ => (qpe_callD Dis_place hr gq19_0_is_place pass0 (qpa_cons (qpe_var (i := 0) rfl vq19_0_0 dq19_0_0 cq19_0_0) (qpa_cons (qpe_var (i := 1) rfl vq19_0_1 dq19_0_1 cq19_0_1) qpa_nil se_Name) se_Name) gd_is_place))) qpa_nil se_ListComp) nn_all gd_all))))))), ?_⟩
  (try dsimp only [cxOf])
  walk_at "rd"
  rename_i H1 c1
  refine ite2 (fun hc => absurd (of_decide_eq_true hc) (by omega)) (fun _ => ?_)
  have hp1 : H1 p = some (.tup [.ref lp, .int t.bits]) := c1.get hp (by simp)
  have hs1 : H1 lp = some (.lst (sps.map V.ref)) := c1.get hs (by simp)
  have p0 : (0 : Int) ≤ 1 * 2 ^ ((sps.map V.ref).length : Int).toNat := by rw [Int.one_mul]; exact Int.le_of_lt (Int.pow_pos (by decide))
  have p1 : (1 : Int) * 2 ^ ((sps.map V.ref).length : Int).toNat ≤ 16 := by
    rw [Int.toNat_natCast]
    have e5 : (sps.map V.ref).length = 0 ∨ (sps.map V.ref).length = 1 ∨ (sps.map V.ref).length = 2 ∨ (sps.map V.ref).length = 3 ∨ (sps.map V.ref).length = 4 := by omega
    rcases e5 with e | e | e | e | e <;> rw [e] <;> decide
  clear hp hs sx
  walk_at "rd"
  refine comp_list (sps.map V.ref) (fun i ys σ H' => H' = H1 ∧ ys = List.replicate i (V.bl true) ∧ ∃ u, σ = [u, some (.ref cd)]) (by rw [sizeLine_eq]; omega) ⟨rfl, rfl, _, rfl⟩ ?_ ?_ ?_
  · rintro i ys σ H' hi ⟨rfl, rfl, _⟩
    exact ⟨by simp, SqL.of hs1⟩
  · rintro i ys σ H' z hz ⟨rfl, rfl, u, rfl⟩
    obtain ⟨pl, x, rfl, es, e2⟩ := pl_get (ws.tu (Tu.same c1)) i z hz
    have so := ok.lo x (List.mem_of_getElem? es)
    have hc1 : H' cd = some (.dK (cntK a b c)) := c1.get hc (by simp)
    walk_at "rd"
    exact ⟨by rw [← List.replicate_succ'], _, rfl⟩
  · rintro ys σ H' ⟨rfl, rfl, _⟩
    intro D hD
    refine ⟨D, List.replicate (sps.map V.ref).length true, rfl, by rw [upd_same, List.map_replicate], ?_⟩
    rw [show (List.replicate (sps.map V.ref).length true).all id = true from by simp [List.all_replicate]]
    exact q _ (c1.trans (Ch.new hD _))
theorem g20_is_place : Gi (defScope (top 20)) "is_place" := by decide +kernel
theorem v20_1 : Vs (defScope (top 20)) "counts" := by decide +kernel
theorem d20_1 : Nd "counts" := by decide +kernel
theorem c20_1 : Nc "counts" := by decide +kernel
theorem v20_0 : Vs (defScope (top 20)) "thing" := by decide +kernel
theorem d20_0 : Nd "thing" := by decide +kernel
theorem c20_0 : Nc "thing" := by decide +kernel
theorem g20_is_below : Gi (defScope (top 20)) "is_below" := by decide +kernel
theorem g20_len : Gi (defScope (top 20)) "len" := by decide +kernel
theorem g20_isinstance : Gi (defScope (top 20)) "isinstance" := by decide +kernel
theorem g20_tuple : Gi (defScope (top 20)) "tuple" := by decide +kernel
def spKeep : Sp := fun vs H Q _ => ∃ (p cd : Addr) (a b c : Nat) (t : Kp), vs = [.ref p, .ref cd] ∧ KpAt H t p ∧ H cd = some (.dK (cntK a b c)) ∧ t.pl.2 < lim a b c t.pl.1 ∧ Q (.bl true) H
theorem scKeep : FnScope ["thing", "counts"] ["thing", "counts"] (defScope (top 20)) := ⟨rfl, rfl, rfl, by decide +kernel, rfl, by decide +kernel, by decide +kernel⟩
theorem ok_keep (F : Fun K "is_keep" "is_keep" (top 20) f fd) (Dis_below : DefOk P w K mg base CX0 k "is_below" ["thing", "bound"] spBelow) (Dis_place : DefOk P w K mg base CX0 k "is_place" ["thing", "counts"] spPlace) (z_isinstance : mg "isinstance" = none) (z_tuple : mg "tuple" = none) (z_len : mg "len" = none) : FnOk P w K mg base CX0 (k + 1) f fd ["thing", "counts"] spKeep := by
  have nd := scKeep.nd
  refine F.ok scKeep (fun vs H Q E h => by obtain ⟨p, cd, a, b, c, t, rfl, _⟩ := h; rfl) (fun cdv A outer s H vs Q E hr h => ?_)
  obtain ⟨p, cd, a, b, c, t, rfl, ⟨pp, hp, hpp⟩, hc, hl, q⟩ := h
  obtain ⟨z0, z1⟩ := bi01 t.f
  unfold bV at hp
  refine ⟨_, (Pr.h (qpss_one (qps_ret (qpe_and (qpe_callB call_isT g20_isinstance z_isinstance bo_isinstance (qpa_cons (qpe_var (i := 0) rfl v20_0 d20_0 c20_0) (qpa_cons (qpe_bltn (v := .ty "tuple") g20_tuple z_tuple bo_tuple rfl nn_tuple gd_tuple) qpa_nil)) nn_isinstance gd_isinstance) (qpe_and (qpe_cmpR op_eq (qpe_callB call_len_seq g20_len z_len PySem.boot_len (qpa_cons (qpe_var (i := 0) rfl v20_0 d20_0 c20_0) qpa_nil se_Name) nn_len gd_len) qpe_int (nomark _)) (qpe_and (qpe_callD Dis_below hr g20_is_below pass0 (qpa_cons (qpe_ix ixa_tup (qpe_var (i := 0) rfl v20_0 d20_0 c20_0) qpe_int (fun _ _ => rfl)) (qpa_cons qpe_int qpa_nil se_Constant) se_Subscript) gd_is_below) (qpe_one (qpe_callD Dis_place hr g20_is_place pass0 (qpa_cons (qpe_ix ixa_tup (qpe_var (i := 0) rfl v20_0 d20_0 c20_0) qpe_int (fun _ _ => rfl)) (qpa_cons (qpe_var (i := 1) rfl v20_1 d20_1 c20_1) qpa_nil se_Name) se_Subscript) gd_is_place)))))))), ?_⟩
  (try dsimp only [cxOf])
  walk_at "rd"
end
end

section
structure Okd (ins : Nat) (ts : List Tb) (ks : List Kp) (os : List Plc) : Prop where
  t : ∀ (i : Nat) (t : Tb), ts[i]? = some t → t.ok ins ks.length i
  k : ∀ x ∈ ks, x.pl.2 < lim ins ks.length ts.length x.pl.1
  o : ∀ x ∈ os, x.2 < lim ins ks.length ts.length x.1
  li : ins ≤ 12
  lt : ts.length ≤ 12
  lk : ks.length ≤ 12
  lo : os.length ≤ 12
structure DrAt (ex : List Addr) (H : Hp) (tl kl ol : Addr) (ts : List Tb) (ks : List Kp) (os : List Plc) : Prop where
  t : tl ∉ ex ∧ ∃ ps, H tl = some (.lst (ps.map V.ref)) ∧ Paired (TbL ex H) ts ps
  k : kl ∉ ex ∧ ∃ ps, H kl = some (.lst (ps.map V.ref)) ∧ Paired (KpAt H) ks ps
  o : ol ∉ ex ∧ ∃ ps, H ol = some (.lst (ps.map V.ref)) ∧ WsAt H (os.map plK) ps
theorem DrAt.kl {ex : List Addr} {H H' : Hp} {tl kl ol : Addr} {ts : List Tb} {ks : List Kp} {os : List Plc} (s : DrAt ex H tl kl ol ts ks os) (k : Kl ex H H') : DrAt ex H' tl kl ol ts ks os :=
  ⟨⟨s.t.1, let ⟨ps, a, b⟩ := s.t.2; ⟨ps, k.l _ _ s.t.1 a, paired_imp (fun _ _ => TbL.kl k) b⟩⟩, ⟨s.k.1, let ⟨ps, a, b⟩ := s.k.2; ⟨ps, k.l _ _ s.k.1 a, paired_imp (fun _ _ => KpAt.tu k.t) b⟩⟩, ⟨s.o.1, let ⟨ps, a, b⟩ := s.o.2; ⟨ps, k.l _ _ s.o.1 a, WsAt.tu k.t b⟩⟩⟩
theorem DrAt.ch {ex : List Addr} {H H' : Hp} {tl kl ol : Addr} {ts : List Tb} {ks : List Kp} {os : List Plc} (s : DrAt ex H tl kl ol ts ks os) (c : Ch [] H H') : DrAt ex H' tl kl ol ts ks os := s.kl (Kl.new c)
structure Tp (H : Hp) (tt kt ot : Addr) (ts : List Tb) (ks : List Kp) (os : List Plc) : Prop where
  t : ∃ ps, H tt = some (.tup (ps.map V.ref)) ∧ Paired (TbT H) ts ps
  k : ∃ ps, H kt = some (.tup (ps.map V.ref)) ∧ Paired (KpAt H) ks ps
  o : ∃ ps, H ot = some (.tup (ps.map V.ref)) ∧ WsAt H (os.map plK) ps
theorem Tp.tu {H H' : Hp} {tt kt ot : Addr} {ts : List Tb} {ks : List Kp} {os : List Plc} (s : Tp H tt kt ot ts ks os) (k : Tu H H') : Tp H' tt kt ot ts ks os :=
  ⟨let ⟨ps, a, b⟩ := s.t; ⟨ps, k _ _ a, paired_imp (fun _ _ => TbT.tu k) b⟩, let ⟨ps, a, b⟩ := s.k; ⟨ps, k _ _ a, paired_imp (fun _ _ => KpAt.tu k) b⟩, let ⟨ps, a, b⟩ := s.o; ⟨ps, k _ _ a, WsAt.tu k b⟩⟩
def fldsT (ins : Nat) (tt kt ot : Addr) : List (Str × V) := [("ins", .int (ins : Int)), ("tables", .ref tt), ("keeps", .ref kt), ("outs", .ref ot)]
section
variable {ins : Nat} {tt kt ot kl : Addr}
theorem ft_i : List.lookup (Str.ofString "ins") (fldsT ins tt kt ot) = some (.int (ins : Int)) := rfl
theorem ft_t : List.lookup (Str.ofString "tables") (fldsT ins tt kt ot) = some (.ref tt) := rfl
theorem ft_k : List.lookup (Str.ofString "keeps") (fldsT ins tt kt ot) = some (.ref kt) := rfl
theorem ft_o : List.lookup (Str.ofString "outs") (fldsT ins tt kt ot) = some (.ref ot) := rfl
end
structure TlAt (C : Addr) (H : Hp) (x : Addr) (ins : Nat) (tt kt ot : Addr) (ts : List Tb) (ks : List Kp) (os : List Plc) : Prop where
  ob : ∃ dx, H x = some (.ins C dx (fldsT ins tt kt ot))
  tp : Tp H tt kt ot ts ks os
structure BC (H0 H' : Hp) (ts : List Tb) (ys : List V) : Prop where
  ch : Ch [] H0 H'
  ex : ∃ us : List Addr, ys = us.map V.ref ∧ Paired (TbT H') ts us
def num : List Bool → Nat
  | [] => 0
  | b :: r => (if b then 1 else 0) + 2 * num r
def tbit (bits : Int) (bs : List Bool) : Bool := decide (bits / 2 ^ num bs % 2 = 1)
theorem num_lt : ∀ bs : List Bool, num bs < 2 ^ bs.length
  | [] => by decide
  | b :: r => by
    have := num_lt r
    rw [num, List.length_cons, Nat.pow_succ]
    split <;> omega
theorem tb_bi (z : Int) : V.int (z % 2) = bV (decide (z % 2 = 1)) := by
  have : z % 2 = 0 ∨ z % 2 = 1 := by omega
  rcases this with h | h <;> rw [h] <;> rfl
end

section
section
variable {P : Program} {w : World} {K : PySem.W.Frag} {mg : Str → Option Value} {base : Heap} {f : Addr} {fd : FuncData} {k : Nat}
theorem gd_is_table : Nd "is_table" := by decide +kernel
theorem gd_is_keep : Nd "is_keep" := by decide +kernel
theorem v21_0 : Vs (defScope (top 21)) "ins" := by decide +kernel
theorem d21_0 : Nd "ins" := by decide +kernel
theorem c21_0 : Nc "ins" := by decide +kernel
theorem g21_is_whole : Gi (defScope (top 21)) "is_whole" := by decide +kernel
theorem g21_is_listed : Gi (defScope (top 21)) "is_listed" := by decide +kernel
theorem v21_3 : Vs (defScope (top 21)) "outs" := by decide +kernel
theorem d21_3 : Nd "outs" := by decide +kernel
theorem c21_3 : Nc "outs" := by decide +kernel
theorem v21_2 : Vs (defScope (top 21)) "keeps" := by decide +kernel
theorem d21_2 : Nd "keeps" := by decide +kernel
theorem c21_2 : Nc "keeps" := by decide +kernel
theorem v21_1 : Vs (defScope (top 21)) "tables" := by decide +kernel
theorem d21_1 : Nd "tables" := by decide +kernel
theorem c21_1 : Nc "tables" := by decide +kernel
theorem l21_4 : Lc (defScope (top 21)) "counts" := by decide +kernel
theorem g21_len : Gi (defScope (top 21)) "len" := by decide +kernel
theorem g21_enumerate : Gi (defScope (top 21)) "enumerate" := by decide +kernel
theorem l21_6 : Lc (defScope (top 21)) "table" := by decide +kernel
theorem l21_5 : Lc (defScope (top 21)) "number" := by decide +kernel
theorem g21_is_table : Gi (defScope (top 21)) "is_table" := by decide +kernel
theorem v21_5 : Vs (defScope (top 21)) "number" := by decide +kernel
theorem d21_5 : Nd "number" := by decide +kernel
theorem c21_5 : Nc "number" := by decide +kernel
theorem v21_6 : Vs (defScope (top 21)) "table" := by decide +kernel
theorem d21_6 : Nd "table" := by decide +kernel
theorem c21_6 : Nc "table" := by decide +kernel
theorem g21_all : Gi (defScope (top 21)) "all" := by decide +kernel
def csc21_0 : Scope := { kind := PySem.ScopeKind.function, names := [ (PySem.Str.ofString ".0", PySem.NameKind.local), (PySem.Str.ofString "keep", PySem.NameKind.local), (PySem.Str.ofString "is_keep", PySem.NameKind.globalImplicit), (PySem.Str.ofString "counts", PySem.NameKind.free)], isGenerator := false, isCoroutine := false, more := [] : PySem.Scope }
theorem cok21_0 : CompOk csc21_0 (defScope (top 21)) (["keep"] : List Str) (["ins", "tables", "keeps", "outs", "counts", "number", "table"] : List Str) [4] (["keep", "counts"] : List Str) := compOk rfl (by decide +kernel) (by decide +kernel) (by decide +kernel) (by decide +kernel) rfl (by decide +kernel)
theorem kq21_0_0 : (relab csc21_0 (defScope (top 21))).names.lookup (Str.ofString "keep") = some NameKind.local := by decide +kernel
theorem gq21_0_is_keep : Gi (relab csc21_0 (defScope (top 21))) "is_keep" := by decide +kernel
theorem vq21_0_1 : Vs (relab csc21_0 (defScope (top 21))) "counts" := by decide +kernel
theorem dq21_0_1 : Nd "counts" := by decide +kernel
theorem cq21_0_1 : Nc "counts" := by decide +kernel
theorem vq21_0_0 : Vs (relab csc21_0 (defScope (top 21))) "keep" := by decide +kernel
theorem dq21_0_0 : Nd "keep" := by decide +kernel
theorem cq21_0_0 : Nc "keep" := by decide +kernel
def csc21_1 : Scope := { kind := PySem.ScopeKind.function, names := [ (PySem.Str.ofString ".0", PySem.NameKind.local), (PySem.Str.ofString "out", PySem.NameKind.local), (PySem.Str.ofString "is_place", PySem.NameKind.globalImplicit), (PySem.Str.ofString "counts", PySem.NameKind.free)], isGenerator := false, isCoroutine := false, more := [] : PySem.Scope }
theorem cok21_1 : CompOk csc21_1 (defScope (top 21)) (["out"] : List Str) (["ins", "tables", "keeps", "outs", "counts", "number", "table"] : List Str) [4] (["out", "counts"] : List Str) := compOk rfl (by decide +kernel) (by decide +kernel) (by decide +kernel) (by decide +kernel) rfl (by decide +kernel)
theorem kq21_1_0 : (relab csc21_1 (defScope (top 21))).names.lookup (Str.ofString "out") = some NameKind.local := by decide +kernel
theorem gq21_1_is_place : Gi (relab csc21_1 (defScope (top 21))) "is_place" := by decide +kernel
theorem vq21_1_1 : Vs (relab csc21_1 (defScope (top 21))) "counts" := by decide +kernel
theorem dq21_1_1 : Nd "counts" := by decide +kernel
theorem cq21_1_1 : Nc "counts" := by decide +kernel
theorem vq21_1_0 : Vs (relab csc21_1 (defScope (top 21))) "out" := by decide +kernel
theorem dq21_1_0 : Nd "out" := by decide +kernel
theorem cq21_1_0 : Nc "out" := by decide +kernel
def spAsk : Sp := fun vs H Q _ => ∃ (ex : List Addr) (tl kl ol : Addr) (ins : Nat) (ts : List Tb) (ks : List Kp) (os : List Plc), vs = [.int (ins : Int), .ref tl, .ref kl, .ref ol] ∧ DrAt ex H tl kl ol ts ks os ∧ Okd ins ts ks os ∧ ∀ H', Ch [] H H' → Q .non H'
theorem scAsk : FnScope ["ins", "tables", "keeps", "outs", "counts", "number", "table"] ["ins", "tables", "keeps", "outs"] (defScope (top 21)) := ⟨rfl, rfl, rfl, by decide +kernel, rfl, by decide +kernel, by decide +kernel⟩
theorem ok_ask (F : Fun K "ask_tables" "ask_tables" (top 21) f fd) (Dis_whole : DefOk P w K mg base CX0 k "is_whole" ["thing"] spWhole) (Dis_listed : DefOk P w K mg base CX0 k "is_listed" ["thing"] spListed) (Dis_table : DefOk P w K mg base CX0 k "is_table" ["thing", "counts"] spTable) (Dis_keep : DefOk P w K mg base CX0 k "is_keep" ["thing", "counts"] spKeep) (Dis_place : DefOk P w K mg base CX0 k "is_place" ["thing", "counts"] spPlace) (z_len : mg "len" = none) (z_all : mg "all" = none) (z_enumerate : mg "enumerate" = none) : FnOk P w K mg base CX0 (k + 1) f fd ["ins", "tables", "keeps", "outs"] spAsk := by
  have nd := scAsk.nd
  refine F.ok scAsk (fun vs H Q E h => by obtain ⟨ex, tl, kl, ol, ins, ts, ks, os, rfl, _⟩ := h; rfl) (fun cdv A outer s H vs Q E hr h => ?_)
  obtain ⟨ex, tl, kl, ol, ins, ts, ks, os, rfl, dr, ok, q⟩ := h
  have hu := hu_of hr
  obtain ⟨nt, tps, ht, tt⟩ := dr.t
  obtain ⟨nk, kps, hk, kk⟩ := dr.k
  obtain ⟨no, ops, ho, oo⟩ := dr.o
  have lt := Paired.length tt
  have lk := Paired.length kk
  have lo := Paired.length oo
  rw [List.length_map] at lo
  have t12 := ok.lt
  have k12 := ok.lk
  have o12 := ok.lo
  have x1 : SqX .list H tl (tps.map V.ref) := ht
  have x2 : ∀ {H'}, Ch [] H H' → SqX .list H' kl (kps.map V.ref) := fun c => c.get hk (by simp)
  have x3 : ∀ {H'}, Ch [] H H' → SqX .list H' ol (ops.map V.ref) := fun c => c.get ho (by simp)
  refine ⟨_, (Pr.h (qpss_cons (qps_if (qPW_pt (qpw_or (qpt_not (qpt_val (qpe_callD Dis_whole hr g21_is_whole pass0 (qpa_cons (qpe_var (i := 0) rfl v21_0 d21_0 c21_0) qpa_nil se_Name) gd_is_whole))) (qpw_or1 (qpt_cmpR op_lt (qpe_var (i := 0) rfl v21_0 d21_0 c21_0) qpe_int (nomark _)))))
  (qpss_one qps_never)
  qpss_nil)
 (qpss_cons (qps_if (qPW_pt (qpw_or (qpt_not (qpt_val (qpe_callD Dis_listed hr g21_is_listed pass0 (qpa_cons (qpe_var (i := 1) rfl v21_1 d21_1 c21_1) qpa_nil se_Name) gd_is_listed))) (qpw_or (qpt_not (qpt_val (qpe_callD Dis_listed hr g21_is_listed pass0 (qpa_cons (qpe_var (i := 2) rfl v21_2 d21_2 c21_2) qpa_nil se_Name) gd_is_listed))) (qpw_or1 (qpt_not (qpt_val (qpe_callD Dis_listed hr g21_is_listed pass0 (qpa_cons (qpe_var (i := 3) rfl v21_3 d21_3 c21_3) qpa_nil se_Name) gd_is_listed)))))))
  (qpss_one qps_never)
  qpss_nil)
 (qpss_cons (qps_set (i := 4) nd rfl l21_4 (qpe_disp (qpps_cons qpe_str (qpe_var (i := 0) rfl v21_0 d21_0 c21_0) (qpps_cons qpe_str (qpe_callB call_len_seq g21_len z_len PySem.boot_len (qpa_cons (qpe_var (i := 2) rfl v21_2 d21_2 c21_2) qpa_nil se_Name) nn_len gd_len) (qpps_cons qpe_str (qpe_callB call_len_seq g21_len z_len PySem.boot_len (qpa_cons (qpe_var (i := 1) rfl v21_1 d21_1 c21_1) qpa_nil se_Name) nn_len gd_len) qpps_nil))) rfl rfl (by intro z; cases z) (by decide)))
 (qpss_cons (qps_loop PassesOwn.never rfl (qpi_enum .list g21_enumerate z_enumerate (qpa_cons (qpe_var (i := 1) rfl v21_1 d21_1 c21_1) qpa_nil se_Name)) (qpg_tup rfl (qpgs_cons (qpg_name (i := 5) nd rfl l21_5) (qpgs_cons (qpg_name (i := 6) nd rfl l21_6) qpgs_nil)))
  (qpss_one (qps_if (qpt_not (qpt_val (qpe_callD Dis_table hr g21_is_table pass0 (qpa_cons (qpe_var (i := 6) rfl v21_6 d21_6 c21_6) (qpa_cons (qpe_disp (qpps_cons qpe_str (qpe_var (i := 0) rfl v21_0 d21_0 c21_0) (qpps_cons qpe_str (qpe_callB call_len_seq g21_len z_len PySem.boot_len (qpa_cons (qpe_var (i := 2) rfl v21_2 d21_2 c21_2) qpa_nil se_Name) nn_len gd_len) (qpps_cons qpe_str (qpe_var (i := 5) rfl v21_5 d21_5 c21_5) qpps_nil))) rfl rfl (by intro z; cases z) (by decide)) qpa_nil se_Dict) se_Name) gd_is_table)))
  (qpss_one qps_never)
  qpss_nil)))
 (qpss_cons (qps_if (qpt_not (qpt_val (qpe_callB (call_all rfl) g21_all z_all bo_all (qpa_cons (qpe_comp rfl cok21_0 (qpi_list (qpe_var (i := 2) rfl v21_2 d21_2 c21_2)) (fun _ _ _ _ _ => (qpg_name (i := 0) cok21_0.nd rfl (Or.inl kq21_0_0) (Or.inr kq21_0_0))) (fun _ _ _ _ _ => qpif_nil) (fun _ _ _ _ _ => (qpe_callD Dis_keep hr gq21_0_is_keep pass0 (qpa_cons (qpe_var (i := 0) rfl vq21_0_0 dq21_0_0 cq21_0_0) (qpa_cons (qpe_var (i := 1) rfl vq21_0_1 dq21_0_1 cq21_0_1) qpa_nil se_Name) se_Name) gd_is_keep))) qpa_nil se_ListComp) nn_all gd_all)))
  (qpss_one qps_never)
  qpss_nil)
 (qpss_one (qps_if (qpt_not (qpt_val (qpe_callB (call_all rfl) g21_all z_all bo_all (qpa_cons (qpe_comp rfl cok21_1 (qpi_list (qpe_var (i := 3) rfl v21_3 d21_3 c21_3)) (fun _ _ _ _ _ => (qpg_name (i := 0) cok21_1.nd rfl (Or.inl kq21_1_0) (Or.inr kq21_1_0))) (fun _ _ _ _ _ => qpif_nil) (fun _ _ _ _ _ => (qpe_callD Dis_place hr gq21_1_is_place pass0 (qpa_cons (qpe_var (i := 0) rfl vq21_1_0 dq21_1_0 cq21_1_0) (qpa_cons (qpe_var (i := 1) rfl vq21_1_1 dq21_1_1 cq21_1_1) qpa_nil se_Name) se_Name) gd_is_place))) qpa_nil se_ListComp) nn_all gd_all)))
  (qpss_one qps_never)
  qpss_nil)))))))), ?_⟩
  (try dsimp only [cxOf])
  walk_at "rd"
  rename_i H1 c1
  refine ⟨x2 c1, fun H2 c2 => ?_⟩
  walk_at "rd"
  refine ⟨x3 (c1.trans c2), fun H3 c3 => ?_⟩
  have c03 := (c1.trans c2).trans c3
  clear c1 c2 c3 x1 x2 x3
  have ht3 : H3 tl = some (.lst (tps.map V.ref)) := c03.get ht (by simp)
  have hk3 : H3 kl = some (.lst (kps.map V.ref)) := c03.get hk (by simp)
  have ho3 : H3 ol = some (.lst (ops.map V.ref)) := c03.get ho (by simp)
  walk_at "rd"
  rename_i cd hcd
  refine ⟨(show _ = List.map (fun kv => (kV kv.1, kv.2)) (cntK ins ks.length ts.length) from by rw [List.length_map, List.length_map, ← lt, ← lk]; rfl), (by show (3 : Nat) ≤ 15; decide), ?_⟩
  have em : mergeK [] (cntK ins ks.length ts.length) = cntK ins ks.length ts.length := rfl
  rw [em]
  have c4 : Ch [] H3 (upd (upd H3 cd (.dK [])) cd (.dK (cntK ins ks.length ts.length))) := Ch.own hcd (Ch.new hcd _)
  have g4 : (upd (upd H3 cd (.dK [])) cd (.dK (cntK ins ks.length ts.length))) cd = some (.dK (cntK ins ks.length ts.length)) := upd_same
  have c04 := c03.trans c4
  generalize upd (upd H3 cd (.dK [])) cd (.dK (cntK ins ks.length ts.length)) = H4 at c4 g4 c04 ⊢
  clear ht3 hk3 ho3 c4 hcd c03
  have ht4 : H4 tl = some (.lst (tps.map V.ref)) := c04.get ht (by simp)
  walk_at "rd"
  refine loop_enum (xs := tps.map V.ref) (fun i σ H' => Ch [] H4 H' ∧ ∃ u v, σ = [some (.int (ins : Int)), some (.ref tl), some (.ref kl), some (.ref ol), some (.ref cd), u, v]) ⟨Ch.refl _ _, _, _, rfl⟩ ?_ ?_ ?_
  · rintro i σ H' hi ⟨c, _⟩
    exact SqL.of (c.get ht4 (by simp))
  · rintro i x σ H' T hx ⟨c, u, v, rfl⟩ hT
    obtain ⟨p, t, rfl, et, tp⟩ := paired_get tt i x hx
    have okt := ok.t i t et
    have cT : Ch [] H (upd H' T (.tup [.int (i : Int), .ref p])) := (c04.trans c).trans (Ch.new hT _)
    have hk5 : (upd H' T (.tup [.int (i : Int), .ref p])) kl = some (.lst (kps.map V.ref)) := cT.get hk (by simp)
    have gT : (upd H' T (.tup [.int (i : Int), .ref p])) T = some (.tup [.int (i : Int), .ref p]) := upd_same
    have c4T : Ch [] H4 (upd H' T (.tup [.int (i : Int), .ref p])) := c.trans (Ch.new hT _)
    generalize upd H' T (.tup [.int (i : Int), .ref p]) = H5 at cT hk5 gT c4T ⊢
    clear hT c
    walk_at "rd"
    rename_i ce hce
    refine ⟨(show _ = List.map (fun kv => (kV kv.1, kv.2)) (cntK ins ks.length i) from by rw [List.length_map, ← lk]; rfl), (by show (3 : Nat) ≤ 15; decide), ?_⟩
    have em : mergeK [] (cntK ins ks.length i) = cntK ins ks.length i := rfl
    rw [em]
    have c6 : Ch [] H5 (upd (upd H5 ce (.dK [])) ce (.dK (cntK ins ks.length i))) := Ch.own hce (Ch.new hce _)
    refine ⟨ex, p, ce, ins, ks.length, i, t, rfl, tp.kl (Kl.new (cT.trans c6)), upd_same, okt, fun H7 c7 => ?_⟩
    walk_at "rd"
  rintro σ H5 ⟨c5, u, v, rfl⟩
  have c05 := c04.trans c5
  have g5 := c5.get g4 (by simp)
  clear c04 c5 g4 ht4
  have hk5 : H5 kl = some (.lst (kps.map V.ref)) := c05.get hk (by simp)
  walk_at "rd"
  refine comp_list (kps.map V.ref) (fun i ys σ H' => H' = H5 ∧ ys = List.replicate i (V.bl true) ∧ ∃ u, σ = [u, some (.ref cd)]) (by rw [sizeLine_eq, List.length_map]; omega) ⟨rfl, rfl, _, rfl⟩ ?_ ?_ ?_
  · rintro i ys σ H' hi ⟨rfl, rfl, _⟩
    exact ⟨by simp, SqL.of hk5⟩
  · rintro i ys σ H' z hz ⟨rfl, rfl, u, rfl⟩
    obtain ⟨p, t, rfl, et, tp⟩ := paired_get kk i z hz
    have okt := ok.k t (List.mem_of_getElem? et)
    have tp5 := tp.tu (Tu.same c05)
    walk_at "rd"
    exact ⟨by rw [← List.replicate_succ'], _, rfl⟩
  rintro ys σ H' ⟨rfl, rfl, _⟩
  intro D hD
  refine ⟨D, List.replicate (kps.map V.ref).length true, rfl, by rw [upd_same, List.map_replicate], ?_⟩
  rw [show (List.replicate (kps.map V.ref).length true).all id = true from by simp [List.all_replicate]]
  have c06 : Ch [] H (upd H' D (.lst (List.replicate (kps.map V.ref).length (V.bl true)))) := c05.trans (Ch.new hD _)
  have g6 : (upd H' D (.lst (List.replicate (kps.map V.ref).length (V.bl true)))) cd = some (.dK (cntK ins ks.length ts.length)) := g_new hD g5
  generalize upd H' D (.lst (List.replicate (kps.map V.ref).length (V.bl true))) = H6 at c06 g6 ⊢
  clear c05 g5 hk5 hD
  have ho6 : H6 ol = some (.lst (ops.map V.ref)) := c06.get ho (by simp)
  walk_at "rd"
  refine comp_list (ops.map V.ref) (fun i ys σ H' => H' = H6 ∧ ys = List.replicate i (V.bl true) ∧ ∃ u, σ = [u, some (.ref cd)]) (by rw [sizeLine_eq, List.length_map]; omega) ⟨rfl, rfl, _, rfl⟩ ?_ ?_ ?_
  · rintro i ys σ H' hi ⟨rfl, rfl, _⟩
    exact ⟨by simp, SqL.of ho6⟩
  · rintro i ys σ H' z hz ⟨rfl, rfl, u, rfl⟩
    obtain ⟨p, x, rfl, ex, e2⟩ := pl_get (oo.tu (Tu.same c06)) i z hz
    have so := ok.o x (List.mem_of_getElem? ex)
    walk_at "rd"
    exact ⟨by rw [← List.replicate_succ'], _, rfl⟩
  rintro ys σ H' ⟨rfl, rfl, _⟩
  intro D hD
  refine ⟨D, List.replicate (ops.map V.ref).length true, rfl, by rw [upd_same, List.map_replicate], ?_⟩
  rw [show (List.replicate (ops.map V.ref).length true).all id = true from by simp [List.all_replicate]]
  walk_at "rd"
  exact q _ (c06.trans (Ch.new hD _))
end
end

section
section
variable {P : Program} {w : World} {K : PySem.W.Frag} {mg : Str → Option Value} {base : Heap} {f : Addr} {fd : FuncData} {k : Nat}
theorem gd_ask_tables : Nd "ask_tables" := by decide +kernel
theorem g22m0_ask_tables : Gi (defScope (inClass (top 22) 0)) "ask_tables" := by decide +kernel
theorem v22m0_4 : Vs (defScope (inClass (top 22) 0)) "outs" := by decide +kernel
theorem d22m0_4 : Nd "outs" := by decide +kernel
theorem c22m0_4 : Nc "outs" := by decide +kernel
theorem v22m0_3 : Vs (defScope (inClass (top 22) 0)) "keeps" := by decide +kernel
theorem d22m0_3 : Nd "keeps" := by decide +kernel
theorem c22m0_3 : Nc "keeps" := by decide +kernel
theorem v22m0_2 : Vs (defScope (inClass (top 22) 0)) "tables" := by decide +kernel
theorem d22m0_2 : Nd "tables" := by decide +kernel
theorem c22m0_2 : Nc "tables" := by decide +kernel
theorem v22m0_1 : Vs (defScope (inClass (top 22) 0)) "ins" := by decide +kernel
theorem d22m0_1 : Nd "ins" := by decide +kernel
theorem c22m0_1 : Nc "ins" := by decide +kernel
theorem v22m0_0 : Vs (defScope (inClass (top 22) 0)) "self" := by decide +kernel
theorem d22m0_0 : Nd "self" := by decide +kernel
theorem c22m0_0 : Nc "self" := by decide +kernel
theorem g22m0_tuple : Gi (defScope (inClass (top 22) 0)) "tuple" := by decide +kernel
def csc22m0_0 : Scope := { kind := PySem.ScopeKind.function, names := [ (PySem.Str.ofString ".0", PySem.NameKind.local), (PySem.Str.ofString "leaves", PySem.NameKind.local), (PySem.Str.ofString "bits", PySem.NameKind.local), (PySem.Str.ofString "tuple", PySem.NameKind.globalImplicit)], isGenerator := false, isCoroutine := false, more := [] : PySem.Scope }
theorem cok22m0_0 : CompOk csc22m0_0 (defScope (inClass (top 22) 0)) (["leaves", "bits"] : List Str) (["self", "ins", "tables", "keeps", "outs"] : List Str) [] (["leaves", "bits"] : List Str) := compOk rfl (by decide +kernel) (by decide +kernel) (by decide +kernel) (by decide +kernel) rfl (by decide +kernel)
theorem kq22m0_0_1 : (relab csc22m0_0 (defScope (inClass (top 22) 0))).names.lookup (Str.ofString "bits") = some NameKind.local := by decide +kernel
theorem kq22m0_0_0 : (relab csc22m0_0 (defScope (inClass (top 22) 0))).names.lookup (Str.ofString "leaves") = some NameKind.local := by decide +kernel
theorem vq22m0_0_1 : Vs (relab csc22m0_0 (defScope (inClass (top 22) 0))) "bits" := by decide +kernel
theorem dq22m0_0_1 : Nd "bits" := by decide +kernel
theorem cq22m0_0_1 : Nc "bits" := by decide +kernel
theorem gq22m0_0_tuple : Gi (relab csc22m0_0 (defScope (inClass (top 22) 0))) "tuple" := by decide +kernel
theorem vq22m0_0_0 : Vs (relab csc22m0_0 (defScope (inClass (top 22) 0))) "leaves" := by decide +kernel
theorem dq22m0_0_0 : Nd "leaves" := by decide +kernel
theorem cq22m0_0_0 : Nc "leaves" := by decide +kernel
def spTabs (C : Addr) : Sp := fun vs H Q _ => ∃ (ex : List Addr) (x dx tl kl ol : Addr) (ins : Nat) (ts : List Tb) (ks : List Kp) (os : List Plc), vs = [.ref x, .int (ins : Int), .ref tl, .ref kl, .ref ol] ∧ H x = some (.ins C dx []) ∧ DrAt ex H tl kl ol ts ks os ∧ Okd ins ts ks os ∧
  ∀ tt kt ot H', Ch [x] H H' → TlAt C H' x ins tt kt ot ts ks os → Q .non H'
theorem scTabs : FnScope ["self", "ins", "tables", "keeps", "outs"] ["self", "ins", "tables", "keeps", "outs"] (defScope (inClass (top 22) 0)) := ⟨rfl, rfl, rfl, by decide +kernel, rfl, by decide +kernel, by decide +kernel⟩
theorem ok_Tabs {C : Addr} (F : Fun K "__init__" "Tables.__init__" (inClass (top 22) 0) f fd) (cl : Cls K C) (nI : NoAttr K C "ins") (nT : NoAttr K C "tables") (nK : NoAttr K C "keeps") (nO : NoAttr K C "outs") (Dask_tables : DefOk P w K mg base CX0 k "ask_tables" ["ins", "tables", "keeps", "outs"] spAsk) (z_tuple : mg "tuple" = none) :
    FnOk P w K mg base CX0 (k + 1) f fd ["self", "ins", "tables", "keeps", "outs"] (spTabs C) := by
  have nd := scTabs.nd
  refine F.ok scTabs (fun vs H Q E h => by obtain ⟨ex, x, dx, tl, kl, ol, ins, ts, ks, os, rfl, _⟩ := h; rfl) (fun cdv A outer s H vs Q E hr h => ?_)
  obtain ⟨ex, x, dx, tl, kl, ol, ins, ts, ks, os, rfl, hx, dr, ok, q⟩ := h
  refine ⟨_, (Pr.h (qpss_cons (qps_expr (qpe_callD Dask_tables hr g22m0_ask_tables pass0 (qpa_cons (qpe_var (i := 1) rfl v22m0_1 d22m0_1 c22m0_1) (qpa_cons (qpe_var (i := 2) rfl v22m0_2 d22m0_2 c22m0_2) (qpa_cons (qpe_var (i := 3) rfl v22m0_3 d22m0_3 c22m0_3) (qpa_cons (qpe_var (i := 4) rfl v22m0_4 d22m0_4 c22m0_4) qpa_nil se_Name) se_Name) se_Name) se_Name) gd_ask_tables))
 (qpss_cons (qps_fld (qpe_var (i := 0) rfl v22m0_0 d22m0_0 c22m0_0) (qpe_var (i := 1) rfl v22m0_1 d22m0_1 c22m0_1) rfl)
 (qpss_cons (qps_fld (qpe_var (i := 0) rfl v22m0_0 d22m0_0 c22m0_0) (qpe_callTy call_tuple_of g22m0_tuple z_tuple bo_tuple (qpa_cons (qpe_comp rfl cok22m0_0 (qpi_list (qpe_var (i := 2) rfl v22m0_2 d22m0_2 c22m0_2)) (fun _ _ _ _ _ => (qpg_tupK K 2 rfl rfl (qpgs_cons (qpg_name (i := 0) cok22m0_0.nd rfl (Or.inl kq22m0_0_0) (Or.inr kq22m0_0_0)) (qpgs_cons (qpg_name (i := 1) cok22m0_0.nd rfl (Or.inl kq22m0_0_1) (Or.inr kq22m0_0_1)) qpgs_nil)))) (fun _ _ _ _ _ => qpif_nil) (fun _ _ _ _ _ => (qpe_tup (qpa_cons (qpe_callTy (callK_tuple_of K rfl) gq22m0_0_tuple z_tuple bo_tuple (qpa_cons (qpe_var (i := 0) rfl vq22m0_0_0 dq22m0_0_0 cq22m0_0_0) qpa_nil se_Name) nn_tuple gd_tuple) (qpa_cons (qpe_var (i := 1) rfl vq22m0_0_1 dq22m0_0_1 cq22m0_0_1) qpa_nil se_Name) se_Call)))) qpa_nil se_ListComp) nn_tuple gd_tuple) rfl)
 (qpss_cons (qps_fld (qpe_var (i := 0) rfl v22m0_0 d22m0_0 c22m0_0) (qpe_callTy call_tuple_of g22m0_tuple z_tuple bo_tuple (qpa_cons (qpe_var (i := 3) rfl v22m0_3 d22m0_3 c22m0_3) qpa_nil se_Name) nn_tuple gd_tuple) rfl)
 (qpss_one (qps_fld (qpe_var (i := 0) rfl v22m0_0 d22m0_0 c22m0_0) (qpe_callTy call_tuple_of g22m0_tuple z_tuple bo_tuple (qpa_cons (qpe_var (i := 4) rfl v22m0_4 d22m0_4 c22m0_4) qpa_nil se_Name) nn_tuple gd_tuple) rfl))))))), ?_⟩
  (try dsimp only [cxOf])
  walk_at "rd"
  rename_i H1 c1
  have hx1 : H1 x = some (.ins C dx []) := c1.get hx (by simp)
  have k2 : Kl ex H (upd H1 x (.ins C dx (putF "ins" (.int (ins : Int)) []))) := (Kl.new c1).trans (Kl.ob Ch.put hx1)
  have hx2 : (upd H1 x (.ins C dx (putF "ins" (.int (ins : Int)) []))) x = some (.ins C dx (putF "ins" (.int (ins : Int)) [])) := upd_same
  have c2 : Ch [x] H (upd H1 x (.ins C dx (putF "ins" (.int (ins : Int)) []))) := c1.wk.trans Ch.put
  have dr2 := dr.kl k2
  obtain ⟨nt, tps, ht, tt⟩ := dr2.t
  refine ⟨⟨_, SqL.of ht⟩, ?_⟩
  generalize upd H1 x (.ins C dx (putF "ins" (.int (ins : Int)) [])) = H2 at hx2 c2 dr2 ht tt ⊢
  clear k2 hx1 c1 dr
  have lt := Paired.length tt
  have t12 := ok.lt
  refine comp_list (tps.map V.ref) (fun i ys σ H' => BC H2 H' (ts.take i) ys ∧ ∃ u0 u1, σ = [u0, u1]) (by rw [sizeLine_eq, List.length_map]; omega) ⟨⟨Ch.refl _ _, [], rfl, .nil⟩, _, _, rfl⟩ ?_ ?_ ?_
  · rintro i ys σ H' hi ⟨⟨c, us, rfl, uu⟩, _⟩
    refine ⟨?_, SqL.of (c.get ht (by simp))⟩
    rw [List.length_map, ← Paired.length uu, List.length_take]
    omega
  · rintro i ys σ H' z hz ⟨⟨c, us, rfl, uu⟩, u0, u1, rfl⟩
    obtain ⟨p, t, rfl, et, tp⟩ := paired_get tt i z hz
    obtain ⟨lp, sps, n, hp, hs, ws⟩ := tp.kl (Kl.new c)
    walk_at "rd"
    rename_i T1 h1 T2 h2
    have cT : Ch [] H' (upd (upd H' T1 (.tup (sps.map V.ref))) T2 (.tup [.ref T1, .int t.bits])) := (Ch.new h1 _).trans (Ch.new h2 _)
    refine ⟨⟨c.trans cT, us ++ [T2], by simp, ?_⟩, _, _, rfl⟩
    rw [List.take_add_one, et]
    exact paired_snoc ⟨T1, sps, upd_same, g_new h2 upd_same, ws.tu (Tu.same cT)⟩ (paired_imp (fun _ _ => TbT.tu (Tu.same cT)) uu)
  rintro ys σ H3 ⟨⟨c3, us, rfl, uu⟩, _⟩
  rw [List.length_map, ← lt, List.take_length] at uu
  intro D hD
  have hx3 : H3 x = some (.ins C dx (putF "ins" (.int (ins : Int)) [])) := c3.get hx2 (by simp)
  have dr3 := dr2.ch c3
  obtain ⟨nk, kps, hk, kk⟩ := dr3.k
  obtain ⟨no, ops, ho, oo⟩ := dr3.o
  have nkx : kl ≠ x := ne_of hk hx3 (by intro z; cases z)
  have nox : ol ≠ x := ne_of ho hx3 (by intro z; cases z)
  walk_at "rd"
  rename_i tb h1 tk h2 to h3
  have cA : Ch [] H3 (upd (upd H3 D (.lst (us.map V.ref))) tb (.tup (us.map V.ref))) := (Ch.new hD _).trans (Ch.new h1 _)
  have ntx : tb ≠ x := (ne_of_none (g_new hD hx3) h1).symm
  have nkx2 : tk ≠ x := fun z => by rw [z, upd_same] at h2; cases h2
  have nox2 : to ≠ x := fun z => by rw [z, upd_same] at h3; cases h3
  have cF : Ch [x] H3 (upd (upd (upd (upd (upd (upd (upd H3 D (.lst (us.map V.ref))) tb (.tup (us.map V.ref))) x (.ins C dx (putF "tables" (.ref tb) (putF "ins" (.int (ins : Int)) [])))) tk (.tup (kps.map V.ref))) x (.ins C dx (putF "keeps" (.ref tk) (putF "tables" (.ref tb) (putF "ins" (.int (ins : Int)) []))))) to (.tup (ops.map V.ref))) x (.ins C dx (putF "outs" (.ref to) (putF "keeps" (.ref tk) (putF "tables" (.ref tb) (putF "ins" (.int (ins : Int)) [])))))) :=
    ((((cA.wk.trans Ch.put).trans (Ch.new h2 _)).trans Ch.put).trans (Ch.new h3 _)).trans Ch.put
  have tu := Tu.ch cF hx3 (fun _ z => by cases z)
  exact q tb tk to _ ((c2.trans c3.wk).trans cF) ⟨⟨dx, upd_same⟩, ⟨us, g_put ntx (g_new h3 (g_put ntx (g_new h2 (g_put ntx upd_same)))), paired_imp (fun _ _ => TbT.tu tu) uu⟩, ⟨kps, g_put nkx2 (g_new h3 (g_put nkx2 upd_same)), paired_imp (fun _ _ => KpAt.tu tu) kk⟩, ⟨ops, g_put nox2 upd_same, oo.tu tu⟩⟩
end
end

section
def spNext (K : PySem.W.Frag) : Sp := fun vs H Q _ => ∃ (a b : Addr) (ns : List Int) (c : Int), vs = [.ref a, .ref b] ∧ Scr K H a ns ∧ H b = some (.lst [.int c]) ∧ 0 ≤ c ∧ c < 2 ^ 60 ∧
  ∀ (n : Int) (H' : Hp), 0 ≤ n → n < 2147483629 → Ch [b] H H' → H' b = some (.lst [.int (c + 1)]) → Q (.int n) H'
section
variable {P : Program} {w : World} {K : PySem.W.Frag} {mg : Str → Option Value} {base : Heap} {f : Addr} {fd : FuncData} {k : Nat}
theorem gd__law_next : Nd "_law_next" := by decide +kernel
theorem bo_dict : bootBuiltins "dict" = some (.type "dict") := by decide +kernel
theorem nn_dict : ("dict" : Str) ≠ "__name__" := by decide +kernel
theorem gd_dict : Nd "dict" := by decide +kernel
theorem gd__law_same : Nd "_law_same" := by decide +kernel
theorem v24_1 : Vs (defScope (top 24)) "_law_at" := by decide +kernel
theorem d24_1 : Nd "_law_at" := by decide +kernel
theorem c24_1 : Nc "_law_at" := by decide +kernel
theorem l24_2 : Lc (defScope (top 24)) "_law_cell" := by decide +kernel
theorem g24_len : Gi (defScope (top 24)) "len" := by decide +kernel
theorem v24_0 : Vs (defScope (top 24)) "_law_script" := by decide +kernel
theorem d24_0 : Nd "_law_script" := by decide +kernel
theorem c24_0 : Nc "_law_script" := by decide +kernel
theorem l24_3 : Lc (defScope (top 24)) "_law_figures" := by decide +kernel
theorem v24_2 : Vs (defScope (top 24)) "_law_cell" := by decide +kernel
theorem d24_2 : Nd "_law_cell" := by decide +kernel
theorem c24_2 : Nc "_law_cell" := by decide +kernel
theorem g24_range : Gi (defScope (top 24)) "range" := by decide +kernel
theorem l24_4 : Lc (defScope (top 24)) "_law_k" := by decide +kernel
theorem v24_3 : Vs (defScope (top 24)) "_law_figures" := by decide +kernel
theorem d24_3 : Nd "_law_figures" := by decide +kernel
theorem c24_3 : Nc "_law_figures" := by decide +kernel
theorem l24_5 : Lc (defScope (top 24)) "_law_m" := by decide +kernel
theorem v24_5 : Vs (defScope (top 24)) "_law_m" := by decide +kernel
theorem d24_5 : Nd "_law_m" := by decide +kernel
theorem c24_5 : Nc "_law_m" := by decide +kernel
theorem scNext : FnScope ["_law_script", "_law_at", "_law_cell", "_law_figures", "_law_k", "_law_m"] ["_law_script", "_law_at"] (defScope (top 24)) := ⟨rfl, rfl, rfl, by decide +kernel, rfl, by decide +kernel, by decide +kernel⟩
theorem ok_next (F : Fun K "_law_next" "_law_next" (top 24) f fd) (z_len : mg "len" = none) (z_range : mg "range" = none) :
    FnOk P w K mg base CX0 (k + 1) f fd ["_law_script", "_law_at"] (spNext K) := by
  have nd := scNext.nd
  refine F.ok scNext (fun vs H Q E h => ?_) (fun cdv A outer s H vs Q E hr h => ?_)
  · obtain ⟨a, b, ns, c, rfl, _⟩ := h
    rfl
  obtain ⟨a, b, ns, c, rfl, hS, hb, h0, h1, q⟩ := h
  refine ⟨_, (Pr.h (qpss_cons (qps_asg (qpe_op op_add (qpe_ix ixa_list (qpe_var (i := 1) rfl v24_1 d24_1 c24_1) qpe_int (fun _ _ => rfl)) qpe_int) (qpg_sub (qpe_var (i := 1) rfl v24_1 d24_1 c24_1) qpe_int set_list))
 (qpss_cons (qps_set (i := 2) nd rfl l24_2 qpe_int)
 (qpss_cut (qps_if (qpt_cmpR op_gt (qpe_callB call_len_seq g24_len z_len PySem.boot_len (qpa_cons (qpe_var (i := 0) rfl v24_0 d24_0 c24_0) qpa_nil se_Name) nn_len gd_len) qpe_int (nomark _))
  (qpss_one (qps_set (i := 2) nd rfl l24_2 (qpe_ix ixa_list (qpe_var (i := 0) rfl v24_0 d24_0 c24_0) (qpe_op op_mod (qpe_ix ixa_list (qpe_var (i := 1) rfl v24_1 d24_1 c24_1) qpe_int (fun _ _ => rfl)) (qpe_callB call_len_seq g24_len z_len PySem.boot_len (qpa_cons (qpe_var (i := 0) rfl v24_0 d24_0 c24_0) qpa_nil se_Name) nn_len gd_len)) (fun _ _ => rfl))))
  qpss_nil)
 (qpss_cut (qps_if (qPW_pt (qpw_and (qpt_cmpR op_gt (qpe_callB call_len_seq g24_len z_len PySem.boot_len (qpa_cons (qpe_var (i := 0) rfl v24_0 d24_0 c24_0) qpa_nil se_Name) nn_len gd_len) qpe_int (nomark _)) (qpw_and1 (qpt_cmpR op_eq (qpe_op op_mod (qpe_ix ixa_list (qpe_var (i := 0) rfl v24_0 d24_0 c24_0) qpe_int (fun _ _ => rfl)) qpe_int) qpe_int (nomark _)))))
  (qpss_cons (qps_set (i := 3) nd rfl l24_3 (qpe_var (i := 2) rfl v24_2 d24_2 c24_2))
 (qpss_cons (qps_loop PassesOwn.never rfl (qpi_range1 g24_range z_range (qpa_cons (qpe_op op_mod (qpe_op op_fdivW (qpe_ix ixa_list (qpe_var (i := 1) rfl v24_1 d24_1 c24_1) qpe_int (fun _ _ => rfl)) (qpe_callB call_len_seq g24_len z_len PySem.boot_len (qpa_cons (qpe_var (i := 0) rfl v24_0 d24_0 c24_0) qpa_nil se_Name) nn_len gd_len)) qpe_int) qpa_nil se_BinOp)) (qpg_name (i := 4) nd rfl l24_4)
  (qpss_one (qps_set (i := 3) nd rfl l24_3 (qpe_op op_fdivW (qpe_var (i := 3) rfl v24_3 d24_3 c24_3) qpe_int))))
 (qpss_one (qps_if (qPW_pt (qpw_or (qpt_cmpR op_notIn_seq (qpe_var (i := 3) rfl v24_3 d24_3 c24_3) (qpe_tup (qpa_cons qpe_int (qpa_cons (qpe_un un_neg qpe_int) qpa_nil se_UnaryOp) se_Constant)) rfl) (qpw_or1 (qpt_cmpR op_lt (qpe_ix ixa_list (qpe_var (i := 1) rfl v24_1 d24_1 c24_1) qpe_int (fun _ _ => rfl)) (qpe_callB call_len_seq g24_len z_len PySem.boot_len (qpa_cons (qpe_var (i := 0) rfl v24_0 d24_0 c24_0) qpa_nil se_Name) nn_len gd_len) (nomark _)))))
  (qpss_one (qps_ret (qpe_op op_mod (qpe_var (i := 3) rfl v24_3 d24_3 c24_3) qpe_int)))
  qpss_nil))))
  qpss_nil)
 (qpss_cons (qps_set (i := 5) nd rfl l24_5 (qpe_op op_mod (qpe_op op_mul (qpe_op op_add (qpe_op op_add (qpe_op op_mod (qpe_var (i := 2) rfl v24_2 d24_2 c24_2) qpe_int) (qpe_op op_mul (qpe_op op_mul (qpe_ix ixa_list (qpe_var (i := 1) rfl v24_1 d24_1 c24_1) qpe_int (fun _ _ => rfl)) (qpe_ix ixa_list (qpe_var (i := 1) rfl v24_1 d24_1 c24_1) qpe_int (fun _ _ => rfl))) qpe_int)) qpe_int) qpe_int) qpe_int))
 (qpss_cons (qps_set (i := 5) nd rfl l24_5 (qpe_op op_mod (qpe_op op_mul (qpe_var (i := 5) rfl v24_5 d24_5 c24_5) (qpe_var (i := 5) rfl v24_5 d24_5 c24_5)) qpe_int))
 (qpss_one (qps_ret (qpe_op op_mod (qpe_op op_mul (qpe_op op_add (qpe_var (i := 5) rfl v24_5 d24_5 c24_5) (qpe_op op_mul (qpe_ix ixa_list (qpe_var (i := 1) rfl v24_1 d24_1 c24_1) qpe_int (fun _ _ => rfl)) qpe_int)) qpe_int) qpe_int)))))))))), ?_⟩
  have h63 : ns.length ≤ 63 := hS.1
  (try dsimp only [cxOf])
  walk_at "rd"
  refine cut_by (fun σ H' => ∃ n : Int, σ = [some (.ref a), some (.ref b), some (.int n), none, none, none] ∧ Ch [b] H H' ∧ H' b = some (.lst [.int (c + 1)])) ?_ ?_
  · walk_at "rd"
    refine ite2 (fun hc => ?_) (fun hc => ?_)
    · have hc' : 0 < (ns.length : Int) := by simpa using hc
      have e1 : 0 ≤ (c + 1) % (ns.length : Int) := Int.emod_nonneg _ (by omega)
      have e2 : (c + 1) % (ns.length : Int) < (ns.length : Int) := Int.emod_lt_of_pos _ hc'
      obtain ⟨n, hn⟩ := atI_ints e1 e2
      walk_at "rd"
    · walk_at "rd"
  · rintro σ H1 ⟨n, rfl, c1, b1⟩
    have hS1 : Scr K H1 a ns := hS.ch hb c1
    refine cut_by (fun σ H' => ∃ u v w, σ = [some (.ref a), some (.ref b), some (.int n), u, v, w] ∧ Ch [b] H H' ∧ H' b = some (.lst [.int (c + 1)])) ?_ ?_
    · walk_at "rd"
      refine ite2 (fun hc => ?_) (fun hc => iteF ?_)
      · have hc' : 0 < (ns.length : Int) := by simpa using hc
        obtain ⟨n0, hn0⟩ := atI_ints (ns := ns) (i := 0) (by omega) hc'
        walk_at "rd"
        refine ite2 (fun hd => ?_) (fun hd => ?_)
        · walk_at "rd"
          refine loop_range (fun i σ H' => H' = H1 ∧ ∃ g kk, σ = [some (.ref a), some (.ref b), some (.int n), some (.int g), kk, none]) ⟨rfl, _, _, rfl⟩ ?_ ?_
          · rintro i σ H' hi ⟨rfl, g, kk, rfl⟩
            walk_at "rd"
          · rintro σ H' ⟨rfl, g, kk, rfl⟩
            walk_at "rd"
            refine ite2 (fun hd => iteT ?_) (fun hd => ?_)
            · walk_at "rd"
              exact q _ _ (Int.emod_nonneg _ (by decide)) (Int.lt_of_lt_of_le (Int.emod_lt_of_pos _ (by decide)) (by decide)) (c1.trans (Ch.new (by assumption) _)) (by walk_at "get")
            · walk_at "rd"
              refine ite2 (fun he => ?_) (fun he => ?_)
              · walk_at "rd"
                exact q _ _ (Int.emod_nonneg _ (by decide)) (Int.lt_of_lt_of_le (Int.emod_lt_of_pos _ (by decide)) (by decide)) (c1.trans (Ch.new (by assumption) _)) (by walk_at "get")
              · walk_at "rd"
        · walk_at "rd"
      · walk_at "rd"
    · rintro σ H2 ⟨u, v, w, rfl, c2, b2⟩
      walk_at "rd"
      exact q _ _ (Int.emod_nonneg _ (by decide)) (Int.emod_lt_of_pos _ (by decide)) c2 b2
theorem l25_3 : Lc (defScope (top 25)) "_law_m" := by decide +kernel
theorem g25__law_next : Gi (defScope (top 25)) "_law_next" := by decide +kernel
theorem v25_1 : Vs (defScope (top 25)) "_law_at" := by decide +kernel
theorem d25_1 : Nd "_law_at" := by decide +kernel
theorem c25_1 : Nc "_law_at" := by decide +kernel
theorem v25_0 : Vs (defScope (top 25)) "_law_script" := by decide +kernel
theorem d25_0 : Nd "_law_script" := by decide +kernel
theorem c25_0 : Nc "_law_script" := by decide +kernel
theorem l25_4 : Lc (defScope (top 25)) "_law_bits_here" := by decide +kernel
theorem g25_range : Gi (defScope (top 25)) "range" := by decide +kernel
theorem v25_2 : Vs (defScope (top 25)) "_law_many" := by decide +kernel
theorem d25_2 : Nd "_law_many" := by decide +kernel
theorem c25_2 : Nc "_law_many" := by decide +kernel
theorem l25_5 : Lc (defScope (top 25)) "_law_k" := by decide +kernel
theorem v25_5 : Vs (defScope (top 25)) "_law_k" := by decide +kernel
theorem d25_5 : Nd "_law_k" := by decide +kernel
theorem c25_5 : Nc "_law_k" := by decide +kernel
theorem v25_4 : Vs (defScope (top 25)) "_law_bits_here" := by decide +kernel
theorem d25_4 : Nd "_law_bits_here" := by decide +kernel
theorem c25_4 : Nc "_law_bits_here" := by decide +kernel
theorem v25_3 : Vs (defScope (top 25)) "_law_m" := by decide +kernel
theorem d25_3 : Nd "_law_m" := by decide +kernel
theorem c25_3 : Nc "_law_m" := by decide +kernel
structure LB (H H' : Hp) (b r : Addr) (i : Nat) (d c m : Int) : Prop where
  m0 : 0 ≤ m
  m1 : m < 2147483629
  ch : Ch [b] H H'
  ex : ∃ (bs : List Bool) (c' : Int), bs.length = i ∧ H' r = some (.lst (bs.map bV)) ∧ H' b = some (.lst [.int c']) ∧ c < c' ∧ c' ≤ c + 1 + d
def spLBits (K : PySem.W.Frag) : Sp := fun vs H Q _ => ∃ (a b : Addr) (ns : List Int) (c n' : Int) (n : Nat), vs = [.ref a, .ref b, .int n'] ∧ n' = (n : Int) ∧ n ≤ 1000 ∧ Scr K H a ns ∧ H b = some (.lst [.int c]) ∧ 0 ≤ c ∧ c < 2 ^ 50 ∧
  ∀ (r : Addr) (bs : List Bool) (c' : Int) (H' : Hp), Ch [b] H H' → H r = none → bs.length = n → H' r = some (.lst (bs.map bV)) → H' b = some (.lst [.int c']) → c < c' → c' ≤ c + 1 + n → Q (.ref r) H'
theorem scLBits : FnScope ["_law_script", "_law_at", "_law_many", "_law_m", "_law_bits_here", "_law_k"] ["_law_script", "_law_at", "_law_many"] (defScope (top 25)) := ⟨rfl, rfl, rfl, by decide +kernel, rfl, by decide +kernel, by decide +kernel⟩
theorem ok_lbits (F : Fun K "_law_bits" "_law_bits" (top 25) f fd) (D_law_next : DefOk P w K mg base CX0 k "_law_next" ["_law_script", "_law_at"] (spNext K)) (z_range : mg "range" = none) : FnOk P w K mg base CX0 (k + 1) f fd ["_law_script", "_law_at", "_law_many"] (spLBits K) := by
  have nd := scLBits.nd
  refine F.ok scLBits (fun vs H Q E h => by obtain ⟨a, b, ns, c, n', n, rfl, _⟩ := h; rfl) (fun cdv A outer s H vs Q E hr h => ?_)
  obtain ⟨a, b, ns, c, n', n, rfl, rfl, hn, hS, hb, h0, h1, q⟩ := h
  refine ⟨_, (Pr.h (qpss_cons (qps_set (i := 3) nd rfl l25_3 (qpe_callD D_law_next hr g25__law_next pass0 (qpa_cons (qpe_var (i := 0) rfl v25_0 d25_0 c25_0) (qpa_cons (qpe_var (i := 1) rfl v25_1 d25_1 c25_1) qpa_nil se_Name) se_Name) gd__law_next))
 (qpss_cons (qps_set (i := 4) nd rfl l25_4 (qpe_lst qpa_nil))
 (qpss_cons (qps_loop PassesOwn.never rfl (qpi_range1 g25_range z_range (qpa_cons (qpe_var (i := 2) rfl v25_2 d25_2 c25_2) qpa_nil se_Name)) (qpg_name (i := 5) nd rfl l25_5)
  (qpss_cut (qps_if (qpt_cmpR op_eq (qpe_op op_mod (qpe_var (i := 5) rfl v25_5 d25_5 c25_5) qpe_int) qpe_int (nomark _))
  (qpss_one (qps_set (i := 3) nd rfl l25_3 (qpe_callD D_law_next hr g25__law_next pass0 (qpa_cons (qpe_var (i := 0) rfl v25_0 d25_0 c25_0) (qpa_cons (qpe_var (i := 1) rfl v25_1 d25_1 c25_1) qpa_nil se_Name) se_Name) gd__law_next)))
  qpss_nil)
 (qpss_cons (qps_expr (qpe_bm PySem.F.plainAttrs_list PySem.F.slot_list_append PySem.F.type_list_append mt_append (qpe_var (i := 4) rfl v25_4 d25_4 c25_4) (qpa_cons (qpe_op op_mod (qpe_var (i := 3) rfl v25_3 d25_3 c25_3) qpe_int) qpa_nil se_BinOp)))
 (qpss_one (qps_set (i := 3) nd rfl l25_3 (qpe_op op_fdivW (qpe_var (i := 3) rfl v25_3 d25_3 c25_3) qpe_int))))))
 (qpss_one (qps_ret (qpe_var (i := 4) rfl v25_4 d25_4 c25_4))))))), ?_⟩
  (try dsimp only [cxOf])
  walk_at "rd"
  rename_i m0 H1 m00 m01 c1 b1 r hr1
  have nbr : b ≠ r := ne_of_none b1 hr1
  have fr : H r = none := by
    cases z : H r with
    | none => rfl
    | some o => rw [c1.get z (by simpa using Ne.symm nbr)] at hr1; cases hr1
  refine loop_range (fun i σ H' => ∃ m u, σ = [some (.ref a), some (.ref b), some (.int (n : Int)), some (.int m), some (.ref r), u] ∧ LB H H' b r i i c m) ⟨m0, _, rfl, m00, m01, c1.trans (Ch.new hr1 _), [], c + 1, rfl, upd_same, g_new hr1 b1, by omega, by omega⟩ ?_ ?_
  · rintro i σ H' hi ⟨m, u, rfl, l⟩
    have hi2 : i < n := by simpa using hi
    obtain ⟨m0', m1', ch, bs, c', hl, gr, gb, e1, e2⟩ := id l
    walk_at "rd"
    refine cut_by (fun σ H'' => ∃ m', σ = [some (.ref a), some (.ref b), some (.int (n : Int)), some (.int m'), some (.ref r), some (.int (0 + (i : Int)))] ∧ LB H H'' b r i (i + 1) c m') ?_ ?_
    · walk_at "rd"
      refine ite2 (fun hc => ?_) (fun hc => ?_)
      · have hS' : Scr K H' a ns := hS.ch hb ch
        have hc0 : 0 ≤ c' := by omega
        have hc1 : c' < 2 ^ 60 := by omega
        walk_at "rd"
        rename_i m2 H2 k0 k1 c2 b2
        exact ⟨k0, k1, ch.trans c2, bs, _, hl, c2.get gr (by simpa using Ne.symm nbr), b2, by omega, by omega⟩
      · walk_at "rd"
        exact ⟨m0', m1', ch, bs, c', hl, gr, gb, e1, by omega⟩
    · rintro σ H'' ⟨m', rfl, k0, k1, ch2, bs2, c'', hl2, gr2, gb2, f1, f2⟩
      have sz : bs2.length < 1000 := by omega
      walk_at "rd"
      refine ⟨by omega, by omega, Ch.own fr ch2, bs2 ++ [decide (m' % 2 = 1)], c'', by simp [hl2], ?_, g_put nbr gb2, by omega, by omega⟩
      have eb := tb_bi m'
      rw [upd_same]; (try dsimp only); rw [eb]; simp
  · rintro σ H' ⟨m, u, rfl, m0', m1', ch, bs, c', hl, gr, gb, e1, e2⟩
    walk_at "rd"
    exact q r bs c' _ ch fr (by simpa using hl) gr gb e1 (by simpa using e2)
theorem v26_1 : Vs (defScope (top 26)) "_law_due" := by decide +kernel
theorem d26_1 : Nd "_law_due" := by decide +kernel
theorem c26_1 : Nc "_law_due" := by decide +kernel
theorem v26_0 : Vs (defScope (top 26)) "_law_found" := by decide +kernel
theorem d26_0 : Nd "_law_found" := by decide +kernel
theorem c26_0 : Nc "_law_found" := by decide +kernel
theorem g26_isinstance : Gi (defScope (top 26)) "isinstance" := by decide +kernel
theorem g26_dict : Gi (defScope (top 26)) "dict" := by decide +kernel
theorem g26_len : Gi (defScope (top 26)) "len" := by decide +kernel
theorem g26_all : Gi (defScope (top 26)) "all" := by decide +kernel
def csc26_0 : Scope := { kind := PySem.ScopeKind.function, names := [ (PySem.Str.ofString ".0", PySem.NameKind.local), (PySem.Str.ofString "_law_name", PySem.NameKind.local), (PySem.Str.ofString "_law_same", PySem.NameKind.globalImplicit), (PySem.Str.ofString "_law_due", PySem.NameKind.free), (PySem.Str.ofString "_law_found", PySem.NameKind.free)], isGenerator := false, isCoroutine := false, more := [] : PySem.Scope }
theorem cok26_0 : CompOk csc26_0 (defScope (top 26)) (["_law_name"] : List Str) (["_law_found", "_law_due"] : List Str) [0, 1] (["_law_name", "_law_found", "_law_due"] : List Str) := compOk rfl (by decide +kernel) (by decide +kernel) (by decide +kernel) (by decide +kernel) rfl (by decide +kernel)
theorem kq26_0_0 : (relab csc26_0 (defScope (top 26))).names.lookup (Str.ofString "_law_name") = some NameKind.local := by decide +kernel
theorem gq26_0__law_same : Gi (relab csc26_0 (defScope (top 26))) "_law_same" := by decide +kernel
theorem vq26_0_2 : Vs (relab csc26_0 (defScope (top 26))) "_law_due" := by decide +kernel
theorem dq26_0_2 : Nd "_law_due" := by decide +kernel
theorem cq26_0_2 : Nc "_law_due" := by decide +kernel
theorem vq26_0_0 : Vs (relab csc26_0 (defScope (top 26))) "_law_name" := by decide +kernel
theorem dq26_0_0 : Nd "_law_name" := by decide +kernel
theorem cq26_0_0 : Nc "_law_name" := by decide +kernel
theorem vq26_0_1 : Vs (relab csc26_0 (defScope (top 26))) "_law_found" := by decide +kernel
theorem dq26_0_1 : Nd "_law_found" := by decide +kernel
theorem cq26_0_1 : Nc "_law_found" := by decide +kernel
theorem g26_tuple : Gi (defScope (top 26)) "tuple" := by decide +kernel
theorem g26_list : Gi (defScope (top 26)) "list" := by decide +kernel
theorem g26_zip : Gi (defScope (top 26)) "zip" := by decide +kernel
def csc26_1 : Scope := { kind := PySem.ScopeKind.function, names := [ (PySem.Str.ofString ".0", PySem.NameKind.local), (PySem.Str.ofString "_law_one", PySem.NameKind.local), (PySem.Str.ofString "_law_other", PySem.NameKind.local), (PySem.Str.ofString "_law_same", PySem.NameKind.globalImplicit)], isGenerator := false, isCoroutine := false, more := [] : PySem.Scope }
theorem cok26_1 : CompOk csc26_1 (defScope (top 26)) (["_law_one", "_law_other"] : List Str) (["_law_found", "_law_due"] : List Str) [] (["_law_one", "_law_other"] : List Str) := compOk rfl (by decide +kernel) (by decide +kernel) (by decide +kernel) (by decide +kernel) rfl (by decide +kernel)
theorem kq26_1_1 : (relab csc26_1 (defScope (top 26))).names.lookup (Str.ofString "_law_other") = some NameKind.local := by decide +kernel
theorem kq26_1_0 : (relab csc26_1 (defScope (top 26))).names.lookup (Str.ofString "_law_one") = some NameKind.local := by decide +kernel
theorem gq26_1__law_same : Gi (relab csc26_1 (defScope (top 26))) "_law_same" := by decide +kernel
theorem vq26_1_1 : Vs (relab csc26_1 (defScope (top 26))) "_law_other" := by decide +kernel
theorem dq26_1_1 : Nd "_law_other" := by decide +kernel
theorem cq26_1_1 : Nc "_law_other" := by decide +kernel
theorem vq26_1_0 : Vs (relab csc26_1 (defScope (top 26))) "_law_one" := by decide +kernel
theorem dq26_1_0 : Nd "_law_one" := by decide +kernel
theorem cq26_1_0 : Nc "_law_one" := by decide +kernel
theorem g26_str : Gi (defScope (top 26)) "str" := by decide +kernel
theorem g26_bool : Gi (defScope (top 26)) "bool" := by decide +kernel
theorem g26_int : Gi (defScope (top 26)) "int" := by decide +kernel
def spSame : Nat → Sp
  | 0 => fun vs H Q _ => ∃ b : Int, vs = [V.int b, V.int b] ∧ ∀ H', Ch [] H H' → Q (.bl true) H'
  | n + 1 => fun vs H Q _ => ∃ (p r : Addr) (bs : List Int), vs = [.ref p, .ref r] ∧ H p = some (.lst (bs.map V.int)) ∧ H r = some (.lst (bs.map V.int)) ∧ bs.length ≤ 1000 ∧ ∀ H', Ch [] H H' → Q (.bl true) H'
def spF : Sp := fun _ _ _ _ => False
theorem scSame : FnScope ["_law_found", "_law_due"] ["_law_found", "_law_due"] (defScope (top 26)) := ⟨rfl, rfl, rfl, by decide +kernel, rfl, by decide +kernel, by decide +kernel⟩
theorem ok_same0 (F : Fun K "_law_same" "_law_same" (top 26) f fd) (D_law_same : DefOk P w K mg base CX0 k "_law_same" ["_law_found", "_law_due"] spF) (z_isinstance : mg "isinstance" = none) (z_dict : mg "dict" = none) (z_list : mg "list" = none) (z_tuple : mg "tuple" = none) (z_str : mg "str" = none) (z_int : mg "int" = none) (z_bool : mg "bool" = none) (z_len : mg "len" = none) (z_all : mg "all" = none) (z_zip : mg "zip" = none) :
    FnOk P w K mg base CX0 (k + 1) f fd ["_law_found", "_law_due"] (spSame 0) := by
  have nd := scSame.nd
  refine F.ok scSame (fun vs H Q E h => by obtain ⟨b, rfl, _⟩ := h; rfl) (fun cdv A outer s H vs Q E hr h => ?_)
  obtain ⟨b, rfl, q⟩ := h
  refine ⟨_, (Pr.h (qpss_cons (qps_if (qpt_cmpR op_isN (qpe_var (i := 1) rfl v26_1 d26_1 c26_1) qpe_non (nomark _))
  (qpss_one (qps_ret (qpe_cmpR op_isN (qpe_var (i := 0) rfl v26_0 d26_0 c26_0) qpe_non (nomark _))))
  qpss_nil)
 (qpss_cons (qps_if (qpt_val (qpe_callB call_isT g26_isinstance z_isinstance bo_isinstance (qpa_cons (qpe_var (i := 1) rfl v26_1 d26_1 c26_1) (qpa_cons (qpe_bltn (v := .ty "dict") g26_dict z_dict bo_dict rfl nn_dict gd_dict) qpa_nil)) nn_isinstance gd_isinstance))
  (qpss_cons (qps_if (qPW_pt (qpw_or (qpt_not (qpt_val (qpe_callB call_isT g26_isinstance z_isinstance bo_isinstance (qpa_cons (qpe_var (i := 0) rfl v26_0 d26_0 c26_0) (qpa_cons (qpe_bltn (v := .ty "dict") g26_dict z_dict bo_dict rfl nn_dict gd_dict) qpa_nil)) nn_isinstance gd_isinstance))) (qpw_or1 (qpt_cmpR op_ne (qpe_callB call_len_seq g26_len z_len PySem.boot_len (qpa_cons (qpe_var (i := 0) rfl v26_0 d26_0 c26_0) qpa_nil se_Name) nn_len gd_len) (qpe_callB call_len_seq g26_len z_len PySem.boot_len (qpa_cons (qpe_var (i := 1) rfl v26_1 d26_1 c26_1) qpa_nil se_Name) nn_len gd_len) (nomark _)))))
  (qpss_one (qps_ret qpe_bl))
  qpss_nil)
 (qpss_one (qps_ret (qpe_callB (call_all rfl) g26_all z_all bo_all (qpa_cons (qpe_comp rfl cok26_0 (qpi_list (qpe_var (i := 1) rfl v26_1 d26_1 c26_1)) (fun _ _ _ _ _ => (qpg_name (i := 0) cok26_0.nd rfl (Or.inl kq26_0_0) (Or.inr kq26_0_0))) (fun _ _ _ _ _ => qpif_nil) (fun _ _ _ _ _ => (qpe_and (qpe_cmpR (opK_in_seq K rfl) (qpe_var (i := 0) rfl vq26_0_0 dq26_0_0 cq26_0_0) (qpe_var (i := 1) rfl vq26_0_1 dq26_0_1 cq26_0_1) rfl) (qpe_one (qpe_callD D_law_same hr gq26_0__law_same pass0 (qpa_cons (qpe_ix (ixaK_list K rfl) (qpe_var (i := 1) rfl vq26_0_1 dq26_0_1 cq26_0_1) (qpe_var (i := 0) rfl vq26_0_0 dq26_0_0 cq26_0_0) (fun _ _ => rfl)) (qpa_cons (qpe_ix (ixaK_list K rfl) (qpe_var (i := 2) rfl vq26_0_2 dq26_0_2 cq26_0_2) (qpe_var (i := 0) rfl vq26_0_0 dq26_0_0 cq26_0_0) (fun _ _ => rfl)) qpa_nil se_Subscript) se_Subscript) gd__law_same))))) qpa_nil se_ListComp) nn_all gd_all))))
  qpss_nil)
 (qpss_cons (qps_if (qPW_pt (qpw_or (qpt_val (qpe_callB call_isT g26_isinstance z_isinstance bo_isinstance (qpa_cons (qpe_var (i := 1) rfl v26_1 d26_1 c26_1) (qpa_cons (qpe_bltn (v := .ty "list") g26_list z_list bo_list rfl nn_list gd_list) qpa_nil)) nn_isinstance gd_isinstance)) (qpw_or1 (qpt_val (qpe_callB call_isT g26_isinstance z_isinstance bo_isinstance (qpa_cons (qpe_var (i := 1) rfl v26_1 d26_1 c26_1) (qpa_cons (qpe_bltn (v := .ty "tuple") g26_tuple z_tuple bo_tuple rfl nn_tuple gd_tuple) qpa_nil)) nn_isinstance gd_isinstance)))))
  (qpss_cons (qps_if (qpt_cmpR op_ne (qpe_callB call_isT g26_isinstance z_isinstance bo_isinstance (qpa_cons (qpe_var (i := 0) rfl v26_0 d26_0 c26_0) (qpa_cons (qpe_bltn (v := .ty "list") g26_list z_list bo_list rfl nn_list gd_list) qpa_nil)) nn_isinstance gd_isinstance) (qpe_callB call_isT g26_isinstance z_isinstance bo_isinstance (qpa_cons (qpe_var (i := 1) rfl v26_1 d26_1 c26_1) (qpa_cons (qpe_bltn (v := .ty "list") g26_list z_list bo_list rfl nn_list gd_list) qpa_nil)) nn_isinstance gd_isinstance) (nomark _))
  (qpss_one (qps_ret qpe_bl))
  qpss_nil)
 (qpss_cons (qps_if (qPW_pt (qpw_or (qpt_cmpR op_ne (qpe_callB call_isT g26_isinstance z_isinstance bo_isinstance (qpa_cons (qpe_var (i := 0) rfl v26_0 d26_0 c26_0) (qpa_cons (qpe_bltn (v := .ty "tuple") g26_tuple z_tuple bo_tuple rfl nn_tuple gd_tuple) qpa_nil)) nn_isinstance gd_isinstance) (qpe_callB call_isT g26_isinstance z_isinstance bo_isinstance (qpa_cons (qpe_var (i := 1) rfl v26_1 d26_1 c26_1) (qpa_cons (qpe_bltn (v := .ty "tuple") g26_tuple z_tuple bo_tuple rfl nn_tuple gd_tuple) qpa_nil)) nn_isinstance gd_isinstance) (nomark _)) (qpw_or1 (qpt_cmpR op_ne (qpe_callB call_len_seq g26_len z_len PySem.boot_len (qpa_cons (qpe_var (i := 0) rfl v26_0 d26_0 c26_0) qpa_nil se_Name) nn_len gd_len) (qpe_callB call_len_seq g26_len z_len PySem.boot_len (qpa_cons (qpe_var (i := 1) rfl v26_1 d26_1 c26_1) qpa_nil se_Name) nn_len gd_len) (nomark _)))))
  (qpss_one (qps_ret qpe_bl))
  qpss_nil)
 (qpss_one (qps_ret (qpe_callB (call_all rfl) g26_all z_all bo_all (qpa_cons (qpe_comp rfl cok26_1 (qpi_zip .list .list g26_zip z_zip (qpa_cons (qpe_var (i := 0) rfl v26_0 d26_0 c26_0) (qpa_cons (qpe_var (i := 1) rfl v26_1 d26_1 c26_1) qpa_nil se_Name) se_Name)) (fun _ _ _ _ _ => (qpg_tupK K 2 rfl rfl (qpgs_cons (qpg_name (i := 0) cok26_1.nd rfl (Or.inl kq26_1_0) (Or.inr kq26_1_0)) (qpgs_cons (qpg_name (i := 1) cok26_1.nd rfl (Or.inl kq26_1_1) (Or.inr kq26_1_1)) qpgs_nil)))) (fun _ _ _ _ _ => qpif_nil) (fun _ _ _ _ _ => (qpe_callD D_law_same hr gq26_1__law_same pass0 (qpa_cons (qpe_var (i := 0) rfl vq26_1_0 dq26_1_0 cq26_1_0) (qpa_cons (qpe_var (i := 1) rfl vq26_1_1 dq26_1_1 cq26_1_1) qpa_nil se_Name) se_Name) gd__law_same))) qpa_nil se_ListComp) nn_all gd_all)))))
  qpss_nil)
 (qpss_cons (qps_if (qpt_val (qpe_callB call_isT g26_isinstance z_isinstance bo_isinstance (qpa_cons (qpe_var (i := 1) rfl v26_1 d26_1 c26_1) (qpa_cons (qpe_bltn (v := .ty "str") g26_str z_str bo_str rfl nn_str gd_str) qpa_nil)) nn_isinstance gd_isinstance))
  (qpss_one (qps_ret (qpe_and (qpe_callB call_isT g26_isinstance z_isinstance bo_isinstance (qpa_cons (qpe_var (i := 0) rfl v26_0 d26_0 c26_0) (qpa_cons (qpe_bltn (v := .ty "str") g26_str z_str bo_str rfl nn_str gd_str) qpa_nil)) nn_isinstance gd_isinstance) (qpe_one (qpe_cmpR op_eq (qpe_var (i := 0) rfl v26_0 d26_0 c26_0) (qpe_var (i := 1) rfl v26_1 d26_1 c26_1) (nomark _))))))
  qpss_nil)
 (qpss_one (qps_ret (qpe_and (qpe_callB call_isT g26_isinstance z_isinstance bo_isinstance (qpa_cons (qpe_var (i := 0) rfl v26_0 d26_0 c26_0) (qpa_cons (qpe_bltn (v := .ty "int") g26_int z_int bo_int rfl nn_int gd_int) qpa_nil)) nn_isinstance gd_isinstance) (qpe_and (qpe_not (qpe_callB call_isT g26_isinstance z_isinstance bo_isinstance (qpa_cons (qpe_var (i := 0) rfl v26_0 d26_0 c26_0) (qpa_cons (qpe_bltn (v := .ty "bool") g26_bool z_bool bo_bool rfl nn_bool gd_bool) qpa_nil)) nn_isinstance gd_isinstance)) (qpe_one (qpe_cmpR op_eq (qpe_var (i := 0) rfl v26_0 d26_0 c26_0) (qpe_var (i := 1) rfl v26_1 d26_1 c26_1) (nomark _)))))))))))), ?_⟩
  (try dsimp only [cxOf])
  walk_at "rd"
  have e : decide (V.int b = V.int b) = true := by simp
  rw [e]
  exact q _ (Ch.refl _ _)
theorem ok_sameF (F : Fun K "_law_same" "_law_same" (top 26) f fd) : FnOk P w K mg base CX0 (k + 1) f fd ["_law_found", "_law_due"] spF :=
  F.ok scSame (fun vs H Q E h => h.elim) (fun cdv A outer s H vs Q E hr h => h.elim)
theorem ok_same1 (F : Fun K "_law_same" "_law_same" (top 26) f fd) (D_law_same : DefOk P w K mg base CX0 k "_law_same" ["_law_found", "_law_due"] (spSame 0)) (z_isinstance : mg "isinstance" = none) (z_dict : mg "dict" = none) (z_list : mg "list" = none) (z_tuple : mg "tuple" = none) (z_str : mg "str" = none) (z_int : mg "int" = none) (z_bool : mg "bool" = none) (z_len : mg "len" = none) (z_all : mg "all" = none) (z_zip : mg "zip" = none) :
    FnOk P w K mg base CX0 (k + 1) f fd ["_law_found", "_law_due"] (spSame 1) := by
  have nd := scSame.nd
  refine F.ok scSame (fun vs H Q E h => by obtain ⟨p, r, bs, rfl, _⟩ := h; rfl) (fun cdv A outer s H vs Q E hr h => ?_)
  obtain ⟨p, r, bs, rfl, hp, hr1, hl, q⟩ := h
  refine ⟨_, (Pr.h (qpss_cons (qps_if (qpt_cmpR op_isN (qpe_var (i := 1) rfl v26_1 d26_1 c26_1) qpe_non (nomark _))
  (qpss_one (qps_ret (qpe_cmpR op_isN (qpe_var (i := 0) rfl v26_0 d26_0 c26_0) qpe_non (nomark _))))
  qpss_nil)
 (qpss_cons (qps_if (qpt_val (qpe_callB call_isT g26_isinstance z_isinstance bo_isinstance (qpa_cons (qpe_var (i := 1) rfl v26_1 d26_1 c26_1) (qpa_cons (qpe_bltn (v := .ty "dict") g26_dict z_dict bo_dict rfl nn_dict gd_dict) qpa_nil)) nn_isinstance gd_isinstance))
  (qpss_cons (qps_if (qPW_pt (qpw_or (qpt_not (qpt_val (qpe_callB call_isT g26_isinstance z_isinstance bo_isinstance (qpa_cons (qpe_var (i := 0) rfl v26_0 d26_0 c26_0) (qpa_cons (qpe_bltn (v := .ty "dict") g26_dict z_dict bo_dict rfl nn_dict gd_dict) qpa_nil)) nn_isinstance gd_isinstance))) (qpw_or1 (qpt_cmpR op_ne (qpe_callB call_len_seq g26_len z_len PySem.boot_len (qpa_cons (qpe_var (i := 0) rfl v26_0 d26_0 c26_0) qpa_nil se_Name) nn_len gd_len) (qpe_callB call_len_seq g26_len z_len PySem.boot_len (qpa_cons (qpe_var (i := 1) rfl v26_1 d26_1 c26_1) qpa_nil se_Name) nn_len gd_len) (nomark _)))))
  (qpss_one (qps_ret qpe_bl))
  qpss_nil)
 (qpss_one (qps_ret (qpe_callB (call_all rfl) g26_all z_all bo_all (qpa_cons (qpe_comp rfl cok26_0 (qpi_list (qpe_var (i := 1) rfl v26_1 d26_1 c26_1)) (fun _ _ _ _ _ => (qpg_name (i := 0) cok26_0.nd rfl (Or.inl kq26_0_0) (Or.inr kq26_0_0))) (fun _ _ _ _ _ => qpif_nil) (fun _ _ _ _ _ => (qpe_and (qpe_cmpR (opK_in_seq K rfl) (qpe_var (i := 0) rfl vq26_0_0 dq26_0_0 cq26_0_0) (qpe_var (i := 1) rfl vq26_0_1 dq26_0_1 cq26_0_1) rfl) (qpe_one (qpe_callD D_law_same hr gq26_0__law_same pass0 (qpa_cons (qpe_ix (ixaK_list K rfl) (qpe_var (i := 1) rfl vq26_0_1 dq26_0_1 cq26_0_1) (qpe_var (i := 0) rfl vq26_0_0 dq26_0_0 cq26_0_0) (fun _ _ => rfl)) (qpa_cons (qpe_ix (ixaK_list K rfl) (qpe_var (i := 2) rfl vq26_0_2 dq26_0_2 cq26_0_2) (qpe_var (i := 0) rfl vq26_0_0 dq26_0_0 cq26_0_0) (fun _ _ => rfl)) qpa_nil se_Subscript) se_Subscript) gd__law_same))))) qpa_nil se_ListComp) nn_all gd_all))))
  qpss_nil)
 (qpss_cons (qps_if (qPW_pt (qpw_or (qpt_val (qpe_callB call_isT g26_isinstance z_isinstance bo_isinstance (qpa_cons (qpe_var (i := 1) rfl v26_1 d26_1 c26_1) (qpa_cons (qpe_bltn (v := .ty "list") g26_list z_list bo_list rfl nn_list gd_list) qpa_nil)) nn_isinstance gd_isinstance)) (qpw_or1 (qpt_val (qpe_callB call_isT g26_isinstance z_isinstance bo_isinstance (qpa_cons (qpe_var (i := 1) rfl v26_1 d26_1 c26_1) (qpa_cons (qpe_bltn (v := .ty "tuple") g26_tuple z_tuple bo_tuple rfl nn_tuple gd_tuple) qpa_nil)) nn_isinstance gd_isinstance)))))
  (qpss_cons (qps_if (qpt_cmpR op_ne (qpe_callB call_isT g26_isinstance z_isinstance bo_isinstance (qpa_cons (qpe_var (i := 0) rfl v26_0 d26_0 c26_0) (qpa_cons (qpe_bltn (v := .ty "list") g26_list z_list bo_list rfl nn_list gd_list) qpa_nil)) nn_isinstance gd_isinstance) (qpe_callB call_isT g26_isinstance z_isinstance bo_isinstance (qpa_cons (qpe_var (i := 1) rfl v26_1 d26_1 c26_1) (qpa_cons (qpe_bltn (v := .ty "list") g26_list z_list bo_list rfl nn_list gd_list) qpa_nil)) nn_isinstance gd_isinstance) (nomark _))
  (qpss_one (qps_ret qpe_bl))
  qpss_nil)
 (qpss_cons (qps_if (qPW_pt (qpw_or (qpt_cmpR op_ne (qpe_callB call_isT g26_isinstance z_isinstance bo_isinstance (qpa_cons (qpe_var (i := 0) rfl v26_0 d26_0 c26_0) (qpa_cons (qpe_bltn (v := .ty "tuple") g26_tuple z_tuple bo_tuple rfl nn_tuple gd_tuple) qpa_nil)) nn_isinstance gd_isinstance) (qpe_callB call_isT g26_isinstance z_isinstance bo_isinstance (qpa_cons (qpe_var (i := 1) rfl v26_1 d26_1 c26_1) (qpa_cons (qpe_bltn (v := .ty "tuple") g26_tuple z_tuple bo_tuple rfl nn_tuple gd_tuple) qpa_nil)) nn_isinstance gd_isinstance) (nomark _)) (qpw_or1 (qpt_cmpR op_ne (qpe_callB call_len_seq g26_len z_len PySem.boot_len (qpa_cons (qpe_var (i := 0) rfl v26_0 d26_0 c26_0) qpa_nil se_Name) nn_len gd_len) (qpe_callB call_len_seq g26_len z_len PySem.boot_len (qpa_cons (qpe_var (i := 1) rfl v26_1 d26_1 c26_1) qpa_nil se_Name) nn_len gd_len) (nomark _)))))
  (qpss_one (qps_ret qpe_bl))
  qpss_nil)
 (qpss_one (qps_ret (qpe_callB (call_all rfl) g26_all z_all bo_all (qpa_cons (qpe_comp rfl cok26_1 (qpi_zip .list .list g26_zip z_zip (qpa_cons (qpe_var (i := 0) rfl v26_0 d26_0 c26_0) (qpa_cons (qpe_var (i := 1) rfl v26_1 d26_1 c26_1) qpa_nil se_Name) se_Name)) (fun _ _ _ _ _ => (qpg_tupK K 2 rfl rfl (qpgs_cons (qpg_name (i := 0) cok26_1.nd rfl (Or.inl kq26_1_0) (Or.inr kq26_1_0)) (qpgs_cons (qpg_name (i := 1) cok26_1.nd rfl (Or.inl kq26_1_1) (Or.inr kq26_1_1)) qpgs_nil)))) (fun _ _ _ _ _ => qpif_nil) (fun _ _ _ _ _ => (qpe_callD D_law_same hr gq26_1__law_same pass0 (qpa_cons (qpe_var (i := 0) rfl vq26_1_0 dq26_1_0 cq26_1_0) (qpa_cons (qpe_var (i := 1) rfl vq26_1_1 dq26_1_1 cq26_1_1) qpa_nil se_Name) se_Name) gd__law_same))) qpa_nil se_ListComp) nn_all gd_all)))))
  qpss_nil)
 (qpss_cons (qps_if (qpt_val (qpe_callB call_isT g26_isinstance z_isinstance bo_isinstance (qpa_cons (qpe_var (i := 1) rfl v26_1 d26_1 c26_1) (qpa_cons (qpe_bltn (v := .ty "str") g26_str z_str bo_str rfl nn_str gd_str) qpa_nil)) nn_isinstance gd_isinstance))
  (qpss_one (qps_ret (qpe_and (qpe_callB call_isT g26_isinstance z_isinstance bo_isinstance (qpa_cons (qpe_var (i := 0) rfl v26_0 d26_0 c26_0) (qpa_cons (qpe_bltn (v := .ty "str") g26_str z_str bo_str rfl nn_str gd_str) qpa_nil)) nn_isinstance gd_isinstance) (qpe_one (qpe_cmpR op_eq (qpe_var (i := 0) rfl v26_0 d26_0 c26_0) (qpe_var (i := 1) rfl v26_1 d26_1 c26_1) (nomark _))))))
  qpss_nil)
 (qpss_one (qps_ret (qpe_and (qpe_callB call_isT g26_isinstance z_isinstance bo_isinstance (qpa_cons (qpe_var (i := 0) rfl v26_0 d26_0 c26_0) (qpa_cons (qpe_bltn (v := .ty "int") g26_int z_int bo_int rfl nn_int gd_int) qpa_nil)) nn_isinstance gd_isinstance) (qpe_and (qpe_not (qpe_callB call_isT g26_isinstance z_isinstance bo_isinstance (qpa_cons (qpe_var (i := 0) rfl v26_0 d26_0 c26_0) (qpa_cons (qpe_bltn (v := .ty "bool") g26_bool z_bool bo_bool rfl nn_bool gd_bool) qpa_nil)) nn_isinstance gd_isinstance)) (qpe_one (qpe_cmpR op_eq (qpe_var (i := 0) rfl v26_0 d26_0 c26_0) (qpe_var (i := 1) rfl v26_1 d26_1 c26_1) (nomark _)))))))))))), ?_⟩
  (try dsimp only [cxOf])
  walk_at "rd"
  refine iteNn rfl ?_
  walk_at "rd"
  refine comp_zip (bs.map V.int) (bs.map V.int) (fun j ys σ H' => Ch [] H H' ∧ ys = List.replicate j (V.bl true) ∧ ∃ u v, σ = [u, v]) (by rw [List.length_map, sizeLine_eq]; omega) rfl ⟨Ch.refl _ _, rfl, _, _, rfl⟩ ?_ ?_ ?_
  · rintro j ys σ H' hj ⟨c, rfl, _⟩
    exact ⟨by simp, SqL.of (c.get hp (by simp)), SqL.of (c.get hr1 (by simp))⟩
  · rintro j ys σ H' x z T hx hz ⟨c, rfl, u, v, rfl⟩ hT
    rw [hx] at hz
    cases hz
    obtain ⟨b, hb, rfl⟩ : ∃ b, bs[j]? = some b ∧ x = V.int b := by
      rw [List.getElem?_map] at hx
      obtain ⟨z, h1, h2⟩ := Option.map_eq_some_iff.mp hx
      exact ⟨z, h1, h2.symm⟩
    walk_at "rd"
    exact ⟨by rw [← List.replicate_succ'], _, _, rfl⟩
  · rintro ys σ H' ⟨c, rfl, _⟩
    intro D hD
    refine ⟨D, List.replicate (List.map V.int bs).length true, rfl, by rw [upd_same, List.map_replicate], ?_⟩
    have e : (List.replicate (List.map V.int bs).length true).all id = true := by simp [List.all_replicate]
    rw [e]
    exact q _ (c.trans (Ch.new hD _))
end
end

section
inductive Gt where
  | inp | zero | one
  | keep (f : Bool) (a : Nat)
  | pick (a b c : Nat)
def Gt.vs : Gt → List V
  | .inp => [.str "in"]
  | .zero => [.str "zero"]
  | .one => [.str "one"]
  | .keep f a => [.str "keep", bV f, .int (a : Int)]
  | .pick a b c => [.str "pick", .int (a : Int), .int (b : Int), .int (c : Int)]
def Gt.ok (i n : Nat) : Gt → Prop
  | .keep _ a => a < n
  | .pick a b c => a < i ∧ b < i ∧ c < i
  | _ => True
def Gt.plain : Gt → Bool
  | .inp => false
  | .keep _ _ => false
  | _ => true
def Gt.er : Gt → Gt
  | .keep _ _ => .keep false 0
  | g => g
abbrev VS := List Bool × Nat × Nat
def step (row kept : List Bool) (s : VS) : Gt → VS
  | .inp => (s.1 ++ [row.getD s.2.1 false], s.2.1 + 1, s.2.2)
  | .keep _ _ => (s.1 ++ [kept.getD s.2.2 false], s.2.1, s.2.2 + 1)
  | .zero => (s.1 ++ [false], s.2)
  | .one => (s.1 ++ [true], s.2)
  | .pick a b c => (s.1 ++ [if s.1.getD a false then s.1.getD b false else s.1.getD c false], s.2)
def run (row kept : List Bool) (gs : List Gt) : VS := gs.foldl (step row kept) ([], 0, 0)
def vl (gs : List Gt) (row kept : List Bool) (n : Nat) : Bool := (run row kept gs).1.getD n false
section
variable {row kept : List Bool}
theorem run_snoc (gs : List Gt) (g : Gt) : run row kept (gs ++ [g]) = step row kept (run row kept gs) g := by unfold run; rw [List.foldl_append]; rfl
theorem step_pre (s : VS) (g : Gt) : ∃ x, (step row kept s g).1 = s.1 ++ [x] := by cases g <;> exact ⟨_, rfl⟩
theorem fold_pre : ∀ (t : List Gt) (s : VS), ∃ x, (t.foldl (step row kept) s).1 = s.1 ++ x ∧ x.length = t.length
  | [], s => ⟨[], by simp, rfl⟩
  | g :: t, s => by
    obtain ⟨x, ex⟩ := step_pre (row := row) (kept := kept) s g
    obtain ⟨y, ey, ly⟩ := fold_pre t (step row kept s g)
    refine ⟨x :: y, ?_, by simp [ly]⟩
    rw [List.foldl_cons, ey, ex]
    simp
theorem run_len (gs : List Gt) : (run row kept gs).1.length = gs.length := by
  obtain ⟨x, e, l⟩ := fold_pre (row := row) (kept := kept) gs ([], 0, 0)
  unfold run
  rw [e, List.length_append, l]
  simp
theorem getD_app {xs ys : List Bool} {n : Nat} (h : n < xs.length) : (xs ++ ys).getD n false = xs.getD n false := by simp [List.getD_eq_getElem?_getD, List.getElem?_append_left h]
theorem getD_last {xs : List Bool} {x : Bool} : (xs ++ [x]).getD xs.length false = x := by simp [List.getD_eq_getElem?_getD]
theorem vl_app {gs : List Gt} (t : List Gt) {n : Nat} (h : n < gs.length) : vl (gs ++ t) row kept n = vl gs row kept n := by
  unfold vl
  obtain ⟨x, e, _⟩ := fold_pre (row := row) (kept := kept) t (run row kept gs)
  have : run row kept (gs ++ t) = t.foldl (step row kept) (run row kept gs) := by unfold run; rw [List.foldl_append]
  rw [this, e, getD_app (by rw [run_len]; exact h)]
theorem vl_zero (gs : List Gt) : vl (gs ++ [.zero]) row kept gs.length = false := by
  unfold vl
  rw [run_snoc, ← run_len (row := row) (kept := kept) gs]
  exact getD_last
theorem vl_one (gs : List Gt) : vl (gs ++ [.one]) row kept gs.length = true := by
  unfold vl
  rw [run_snoc, ← run_len (row := row) (kept := kept) gs]
  exact getD_last
theorem vl_pick (gs : List Gt) (a b c : Nat) : vl (gs ++ [.pick a b c]) row kept gs.length = if vl gs row kept a then vl gs row kept b else vl gs row kept c := by
  unfold vl
  rw [run_snoc]
  have := run_len (row := row) (kept := kept) gs
  show ((run row kept gs).1 ++ [_]).getD gs.length false = _
  rw [← this]
  exact getD_last
theorem run_er (gs : List Gt) : run row kept (gs.map Gt.er) = run row kept gs := by
  unfold run
  rw [List.foldl_map]
  have : (fun s g => step row kept s (Gt.er g)) = step row kept := by funext s g; cases g <;> rfl
  rw [this]
end
theorem num_app : ∀ (bs : List Bool) (x : Bool), num (bs ++ [x]) = num bs + 2 ^ bs.length * (if x then 1 else 0)
  | [], x => by cases x <;> rfl
  | a :: bs, x => by
    rw [List.cons_append, num, num_app bs x, List.length_cons, num, Nat.pow_succ]
    cases x <;> simp <;> omega
def tb (bits : Nat) (bs : List Bool) : Bool := bits.testBit (num bs)
theorem tb_snoc (bits : Nat) (bs : List Bool) (x : Bool) : tb bits (bs ++ [x]) = if x then tb (bits / 2 ^ 2 ^ bs.length) bs else tb (bits % 2 ^ 2 ^ bs.length) bs := by
  unfold tb
  rw [num_app]
  cases x with
  | true => simp [Nat.testBit_div_two_pow, Nat.add_comm]
  | false => simp [Nat.testBit_mod_two_pow, num_lt]
abbrev OS := List Gt × (Bool → Option Nat)
abbrev Kn := Nat → Nat → Option Nat
def opC (s : OS) (b : Bool) : OS × Nat := match s.2 b with
  | some n => (s, n)
  | none => ((s.1 ++ [if b then .one else .zero], fun c => if c = b then some s.1.length else s.2 c), s.1.length)
def opG (top : List Nat) : Nat → Nat → OS → Kn → OS × Kn × Nat
  | 0, bits, s, kn => ((opC s (decide (bits = 1))).1, kn, (opC s (decide (bits = 1))).2)
  | n + 1, bits, s, kn => match kn (n + 1) bits with
    | some r => (s, kn, r)
    | none =>
      let a := opG top n (bits % 2 ^ 2 ^ n) s kn
      let b := opG top n (bits / 2 ^ 2 ^ n) a.1 a.2.1
      ((b.1.1 ++ [.pick (top.getD n 0) b.2.2 a.2.2], b.1.2), (fun l c => if l = n + 1 ∧ c = bits then some b.1.1.length else b.2.1 l c), b.1.1.length)
def OkP (gs : List Gt) : Prop := ∀ (i : Nat) (a b c : Nat), gs[i]? = some (.pick a b c) → a < i ∧ b < i ∧ c < i
structure Ext (gs gs' : List Gt) (m : Nat) : Prop where
  ex : ∃ t, gs' = gs ++ t ∧ t.length ≤ m ∧ ∀ g ∈ t, g.plain = true
  ok : OkP gs → OkP gs'
theorem Ext.refl (gs : List Gt) (m : Nat) : Ext gs gs m := ⟨⟨[], by simp, by simp, by simp⟩, id⟩
theorem Ext.trans {a b c : List Gt} {m n k : Nat} (x : Ext a b m) (y : Ext b c n) (h : m + n ≤ k) : Ext a c k := by
  obtain ⟨t, rfl, lt, pt⟩ := x.ex
  obtain ⟨u, rfl, lu, pu⟩ := y.ex
  refine ⟨⟨t ++ u, by simp, by simp; omega, fun g hg => ?_⟩, fun z => y.ok (x.ok z)⟩
  rcases List.mem_append.mp hg with z | z
  · exact pt g z
  · exact pu g z
theorem okp_snoc {gs : List Gt} {g : Gt} (h : ∀ a b c, g = .pick a b c → a < gs.length ∧ b < gs.length ∧ c < gs.length) (o : OkP gs) : OkP (gs ++ [g]) := by
  intro i a b c e
  by_cases hi : i < gs.length
  · rw [List.getElem?_append_left hi] at e
    exact o i a b c e
  · have h2 := (List.getElem?_eq_some_iff.mp e).1
    rw [List.length_append, List.length_singleton] at h2
    have en : i = gs.length := by omega
    subst en
    rw [List.getElem?_append_right (Nat.le_refl _), Nat.sub_self] at e
    exact h a b c (Option.some.inj e)
theorem Ext.snoc {gs : List Gt} {g : Gt} {m : Nat} (hm : 1 ≤ m) (hp : g.plain = true) (h : ∀ a b c, g = .pick a b c → a < gs.length ∧ b < gs.length ∧ c < gs.length) : Ext gs (gs ++ [g]) m :=
  ⟨⟨[g], rfl, hm, fun x hx => by rw [List.mem_singleton.mp hx]; exact hp⟩, okp_snoc h⟩
theorem Ext.len {gs gs' : List Gt} {m : Nat} (x : Ext gs gs' m) : gs.length ≤ gs'.length ∧ gs'.length ≤ gs.length + m := by
  obtain ⟨t, rfl, lt, _⟩ := x.ex
  rw [List.length_append]
  omega
theorem Ext.vl {gs gs' : List Gt} {m : Nat} (x : Ext gs gs' m) {row kept : List Bool} {n : Nat} (h : n < gs.length) : B17.vl gs' row kept n = B17.vl gs row kept n := by
  obtain ⟨t, rfl, _⟩ := x.ex
  exact vl_app t h
structure Good (s : OS) : Prop where
  c : ∀ b n, s.2 b = some n → n < s.1.length ∧ ∀ row kept, vl s.1 row kept n = b
structure GoodK (top : List Nat) (s : OS) (kn : Kn) : Prop where
  k : ∀ l c n, kn l c = some n → n < s.1.length ∧ ∀ row kept, vl s.1 row kept n = tb c ((top.take l).map (vl s.1 row kept))
theorem map_vl {gs gs' : List Gt} {m : Nat} (x : Ext gs gs' m) {row kept : List Bool} {ls : List Nat} (h : ∀ n ∈ ls, n < gs.length) : ls.map (vl gs' row kept) = ls.map (vl gs row kept) := List.map_congr_left fun n hn => x.vl (h n hn)
theorem GoodK.ext {top : List Nat} {s s' : OS} {kn : Kn} {m : Nat} (g : GoodK top s kn) (x : Ext s.1 s'.1 m) (h : ∀ n ∈ top, n < s.1.length) : GoodK top s' kn := ⟨fun l c n e => by
  obtain ⟨a, b⟩ := g.k l c n e
  refine ⟨Nat.lt_of_lt_of_le a x.len.1, fun row kept => ?_⟩
  rw [x.vl a, b, map_vl x fun n hn => h n (List.mem_of_mem_take hn)]⟩
theorem opC_ok {s : OS} (g : Good s) (b : Bool) : Ext s.1 (opC s b).1.1 1 ∧ Good (opC s b).1 ∧ (opC s b).2 < (opC s b).1.1.length ∧ ∀ row kept, vl (opC s b).1.1 row kept (opC s b).2 = b := by
  unfold opC
  cases e : s.2 b with
  | some n =>
    obtain ⟨a, h⟩ := g.c b n e
    exact ⟨Ext.refl _ _, g, a, h⟩
  | none =>
    have x : Ext s.1 (s.1 ++ [if b then .one else .zero]) 1 := Ext.snoc (Nat.le_refl _) (by cases b <;> rfl) (fun a b' c z => by cases b <;> cases z)
    have v : ∀ row kept, vl (s.1 ++ [if b then .one else .zero]) row kept s.1.length = b := fun row kept => by
      cases b with
      | true => exact vl_one s.1
      | false => exact vl_zero s.1
    refine ⟨x, ⟨fun b' n h => ?_⟩, by simp, v⟩
    by_cases z : b' = b
    · subst z
      have h : some s.1.length = some n := by simpa using h
      cases h
      exact ⟨by simp, v⟩
    · have h : s.2 b' = some n := by simpa [z] using h
      obtain ⟨p, q⟩ := g.c b' n h
      exact ⟨by simp; omega, fun row kept => by rw [x.vl p]; exact q row kept⟩
structure OpR (top : List Nat) (n bits : Nat) (s : OS) (r : OS × Kn × Nat) : Prop where
  x : Ext s.1 r.1.1 (2 ^ (n + 1) - 1)
  g : Good r.1
  k : GoodK top r.1 r.2.1
  l : r.2.2 < r.1.1.length
  v : ∀ row kept, vl r.1.1 row kept r.2.2 = tb bits ((top.take n).map (vl s.1 row kept))
theorem opG_ok (top : List Nat) : ∀ (n bits : Nat) (s : OS) (kn : Kn), n ≤ top.length → (∀ x ∈ top, x < s.1.length) → Good s → GoodK top s kn → bits < 2 ^ 2 ^ n → OpR top n bits s (opG top n bits s kn)
  | 0, bits, s, kn, hn, ht, g, gk, hb => by
    obtain ⟨x, g', l, v⟩ := opC_ok g (decide (bits = 1))
    refine ⟨x, g', gk.ext x ht, l, fun row kept => ?_⟩
    show vl (opC s _).1.1 row kept (opC s _).2 = _
    rw [v]
    have : bits = 0 ∨ bits = 1 := by have : bits < 2 := hb; omega
    rw [List.take_zero, List.map_nil]
    rcases this with rfl | rfl <;> decide
  | n + 1, bits, s, kn, hn, ht, g, gk, hb => by
    unfold opG
    cases e : kn (n + 1) bits with
    | some r =>
      obtain ⟨l, v⟩ := gk.k _ _ _ e
      exact ⟨Ext.refl _ _, g, gk, l, v⟩
    | none =>
      have p2 : 2 ^ 2 ^ (n + 1) = 2 ^ 2 ^ n * 2 ^ 2 ^ n := by rw [← Nat.pow_add, Nat.pow_succ]; congr 1; omega
      have A := opG_ok top n (bits % 2 ^ 2 ^ n) s kn (by omega) ht g gk (Nat.mod_lt _ (Nat.pow_pos (by decide)))
      have hta : ∀ x ∈ top, x < (opG top n (bits % 2 ^ 2 ^ n) s kn).1.1.length := fun x hx => Nat.lt_of_lt_of_le (ht x hx) A.x.len.1
      have B := opG_ok top n (bits / 2 ^ 2 ^ n) (opG top n (bits % 2 ^ 2 ^ n) s kn).1 (opG top n (bits % 2 ^ 2 ^ n) s kn).2.1 (by omega) hta A.g A.k (Nat.div_lt_of_lt_mul (by rw [← p2]; exact hb))
      dsimp only
      generalize opG top n (bits % 2 ^ 2 ^ n) s kn = ra at *
      generalize opG top n (bits / 2 ^ 2 ^ n) ra.1 ra.2.1 = rb at *
      have tn : top.getD n 0 ∈ top := by
        rw [List.getD_eq_getElem?_getD, List.getElem?_eq_getElem (by omega)]
        exact List.getElem_mem _
      have l1 := ht _ tn
      have l2 := A.x.len
      have l3 := B.x.len
      have la := A.l
      have lb := B.l
      have xs : Ext rb.1.1 (rb.1.1 ++ [.pick (top.getD n 0) rb.2.2 ra.2.2]) 1 := Ext.snoc (Nat.le_refl _) rfl (fun a b c z => by cases z; omega)
      have xx : Ext s.1 (rb.1.1 ++ [.pick (top.getD n 0) rb.2.2 ra.2.2]) (2 ^ (n + 1 + 1) - 1) := (A.x.trans B.x (Nat.le_refl _)).trans xs (by have : 1 ≤ 2 ^ (n + 1) := Nat.one_le_two_pow; rw [Nat.pow_succ 2 (n + 1)]; omega)
      have vv : ∀ row kept, vl (rb.1.1 ++ [.pick (top.getD n 0) rb.2.2 ra.2.2]) row kept rb.1.1.length = tb bits ((top.take (n + 1)).map (vl s.1 row kept)) := fun row kept => by
        have e1 : (top.take (n + 1)).map (vl s.1 row kept) = (top.take n).map (vl s.1 row kept) ++ [vl s.1 row kept (top.getD n 0)] := by
          rw [List.take_add_one, List.map_append, List.getElem?_eq_getElem (by omega), List.getD_eq_getElem?_getD, List.getElem?_eq_getElem (by omega)]
          rfl
        have lt : ((top.take n).map (vl s.1 row kept)).length = n := by rw [List.length_map, List.length_take]; omega
        rw [vl_pick, e1, tb_snoc, lt]
        have v1 : vl rb.1.1 row kept (top.getD n 0) = vl s.1 row kept (top.getD n 0) := by rw [B.x.vl (by omega), A.x.vl l1]
        have v2 : vl rb.1.1 row kept ra.2.2 = tb (bits % 2 ^ 2 ^ n) ((top.take n).map (vl s.1 row kept)) := by rw [B.x.vl la, A.v]
        have v3 : vl rb.1.1 row kept rb.2.2 = tb (bits / 2 ^ 2 ^ n) ((top.take n).map (vl s.1 row kept)) := by
          rw [B.v, map_vl A.x fun x hx => ht x (List.mem_of_mem_take hx)]
        rw [v1, v2, v3]
      refine ⟨xx, ⟨fun b m h => ?_⟩, ⟨fun l c m h => ?_⟩, by simp, vv⟩
      · obtain ⟨p, q⟩ := B.g.c b m h
        exact ⟨by simp; omega, fun row kept => by rw [xs.vl p]; exact q row kept⟩
      · dsimp only at h
        split at h
        · rename_i z
          cases h
          obtain ⟨rfl, rfl⟩ := z
          refine ⟨by simp, fun row kept => ?_⟩
          rw [vv, map_vl xx fun x hx => ht x (List.mem_of_mem_take hx)]
        · have hB : ∀ x ∈ top, x < rb.1.1.length := fun x hx => Nat.lt_of_lt_of_le (ht x hx) (by omega)
          obtain ⟨p, q⟩ := B.k.k l c m h
          refine ⟨by simp; omega, fun row kept => ?_⟩
          rw [xs.vl p, q, map_vl xs fun x hx => hB x (List.mem_of_mem_take hx)]
end

section
structure Gs (H : Hp) (gs : List Gt) (xs : List V) : Prop where
  len : xs.length = gs.length
  at_ : ∀ (i : Nat) (g : Gt), gs[i]? = some g → ∃ p, xs[i]? = some (.ref p) ∧ H p = some (.tup g.vs)
theorem Gs.tu {H H' : Hp} {gs : List Gt} {xs : List V} (h : Gs H gs xs) (t : Tu H H') : Gs H' gs xs := ⟨h.len, fun i g e => let ⟨p, a, b⟩ := h.at_ i g e; ⟨p, a, t p _ b⟩⟩
def Oks (gs : List Gt) : Prop := ∀ (i : Nat) (g : Gt), gs[i]? = some g → g.ok i gs.length
def nV (a : Nat) : V := .int (a : Int)
def fldsNet (gp op : Addr) : List (Str × V) := [("gates", .ref gp), ("outs", .ref op)]
theorem fldsNet_gates (gp op : Addr) : List.lookup (Str.ofString "gates") (fldsNet gp op) = some (.ref gp) := rfl
theorem fldsNet_outs (gp op : Addr) : List.lookup (Str.ofString "outs") (fldsNet gp op) = some (.ref op) := rfl
structure NetAt (C : Addr) (H : Hp) (nt gp op : Addr) (gs : List Gt) (xs : List V) (os : List Nat) : Prop where
  ob : ∃ dx, H nt = some (.ins C dx (fldsNet gp op))
  gt : H gp = some (.tup xs)
  gg : Gs H gs xs
  ot : H op = some (.tup (os.map nV))
def FC : List (Str × Int) := [("in", 0), ("zero", 0), ("one", 0), ("not", 1), ("and", 2), ("or", 2), ("xor", 2), ("pick", 3)]
theorem comp_below {K : PySem.W.Frag} {pt : Addr} {zs : List Int} {i : Int} {H : Hp} {Q' : List V → Hp → Prop} (hz : ∀ z ∈ zs, 0 ≤ z ∧ z < i) (hp : H pt = some (.tup (zs.map V.int))) (hl : zs.length < 100)
    (h : ∀ ys H', Ch [] H H' → ys = List.replicate zs.length (V.bl true) → Q' ys H') : Comp (Itt K pt) (gName 0) tYes (tCall spBelow [] E0 (tCons (tVar 0) (tCons (tVar 1) tNil))) Q' [none, some (.int i)] H := by
  refine comp_tup (zs.map V.int) (fun j ys σ H' => H' = H ∧ ys = List.replicate j (V.bl true) ∧ ∃ u, σ = [u, some (.int i)]) (by rw [List.length_map, sizeLine_eq]; omega) ⟨rfl, rfl, _, rfl⟩ ?_ ?_ ?_
  · rintro j ys σ H' hj ⟨rfl, rfl, u, rfl⟩
    exact ⟨by simp, SqT.of hp⟩
  · rintro j ys σ H' x hx ⟨rfl, rfl, u, rfl⟩
    obtain ⟨z, hz', rfl⟩ : ∃ z ∈ zs, x = .int z := by
      rw [List.getElem?_map] at hx
      obtain ⟨z, h1, h2⟩ := Option.map_eq_some_iff.mp hx
      exact ⟨z, List.mem_of_getElem? h1, h2.symm⟩
    obtain ⟨h0, h1⟩ := hz z hz'
    exact ⟨_, rfl, _, rfl, z, i, rfl, h0, h1, rfl, by rw [← List.replicate_succ'], _, rfl⟩
  · rintro ys σ H' ⟨rfl, rfl, _⟩
    exact h _ _ (Ch.refl _ _) (by rw [List.length_map])
section
variable {P : Program} {w : World} {K : PySem.W.Frag} {mg : Str → Option Value} {base : Heap} {f : Addr} {fd : FuncData} {k : Nat}
theorem gd_FEED_COUNTS : Nd "FEED_COUNTS" := by decide +kernel
theorem gd_is_gate : Nd "is_gate" := by decide +kernel
theorem g11_isinstance : Gi (defScope (top 11)) "isinstance" := by decide +kernel
theorem v11_0 : Vs (defScope (top 11)) "thing" := by decide +kernel
theorem d11_0 : Nd "thing" := by decide +kernel
theorem c11_0 : Nc "thing" := by decide +kernel
theorem g11_str : Gi (defScope (top 11)) "str" := by decide +kernel
theorem g11_len : Gi (defScope (top 11)) "len" := by decide +kernel
theorem g11_tuple : Gi (defScope (top 11)) "tuple" := by decide +kernel
theorem g11_is_below : Gi (defScope (top 11)) "is_below" := by decide +kernel
theorem v11_2 : Vs (defScope (top 11)) "total" := by decide +kernel
theorem d11_2 : Nd "total" := by decide +kernel
theorem c11_2 : Nc "total" := by decide +kernel
theorem g11_FEED_COUNTS : Gi (defScope (top 11)) "FEED_COUNTS" := by decide +kernel
theorem g11_all : Gi (defScope (top 11)) "all" := by decide +kernel
def csc11_0 : Scope := { kind := PySem.ScopeKind.function, names := [ (PySem.Str.ofString ".0", PySem.NameKind.local), (PySem.Str.ofString "feed", PySem.NameKind.local), (PySem.Str.ofString "is_below", PySem.NameKind.globalImplicit), (PySem.Str.ofString "ahead", PySem.NameKind.free)], isGenerator := false, isCoroutine := false, more := [] : PySem.Scope }
theorem cok11_0 : CompOk csc11_0 (defScope (top 11)) (["feed"] : List Str) (["thing", "ahead", "total"] : List Str) [1] (["feed", "ahead"] : List Str) := compOk rfl (by decide +kernel) (by decide +kernel) (by decide +kernel) (by decide +kernel) rfl (by decide +kernel)
theorem kq11_0_0 : (relab csc11_0 (defScope (top 11))).names.lookup (Str.ofString "feed") = some NameKind.local := by decide +kernel
theorem gq11_0_is_below : Gi (relab csc11_0 (defScope (top 11))) "is_below" := by decide +kernel
theorem vq11_0_1 : Vs (relab csc11_0 (defScope (top 11))) "ahead" := by decide +kernel
theorem dq11_0_1 : Nd "ahead" := by decide +kernel
theorem cq11_0_1 : Nc "ahead" := by decide +kernel
theorem vq11_0_0 : Vs (relab csc11_0 (defScope (top 11))) "feed" := by decide +kernel
theorem dq11_0_0 : Nd "feed" := by decide +kernel
theorem cq11_0_0 : Nc "feed" := by decide +kernel
def spGate : Sp := fun vs H Q _ => ∃ (p : Addr) (g : Gt) (i n : Nat) (i' n' : Int), vs = [.ref p, .int i', .int n'] ∧ H p = some (.tup g.vs) ∧ i' = (i : Int) ∧ n' = (n : Int) ∧ g.ok i n ∧ ∀ H', Ch [] H H' → Q (.bl true) H'
theorem scGate : FnScope ["thing", "ahead", "total"] ["thing", "ahead", "total"] (defScope (top 11)) := ⟨rfl, rfl, rfl, by decide +kernel, rfl, by decide +kernel, by decide +kernel⟩
theorem ok_gate {fa : Addr} {kvs : List (Key × V)} (F : Fun K "is_gate" "is_gate" (top 11) f fd) (Dis_below : DefOk P w K mg base CX0 k "is_below" ["thing", "bound"] spBelow)
    (m_FEED_COUNTS : mg "FEED_COUNTS" = some (.ref fa)) (hKD : KD P w K fa kvs) (hF : ∀ w n, (w, n) ∈ FC → valV kvs (Sum.inr w) = some (.int n))
    (z_isinstance : mg "isinstance" = none) (z_tuple : mg "tuple" = none) (z_str : mg "str" = none) (z_len : mg "len" = none) (z_all : mg "all" = none) : FnOk P w K mg base CX0 (k + 1) f fd ["thing", "ahead", "total"] spGate := by
  have nd := scGate.nd
  refine F.ok scGate (fun vs H Q E h => by obtain ⟨p, g, i, n, i', n', rfl, _⟩ := h; rfl) (fun cdv A outer s H vs Q E hr h => ?_)
  obtain ⟨p, g, i, n, i', n', rfl, hp, rfl, rfl, hok, q⟩ := h
  refine ⟨_, (Pr.h (qpss_cons (qps_if (qPW_pt (qpw_or (qpt_not (qpt_val (qpe_callB call_isT g11_isinstance z_isinstance bo_isinstance (qpa_cons (qpe_var (i := 0) rfl v11_0 d11_0 c11_0) (qpa_cons (qpe_bltn (v := .ty "tuple") g11_tuple z_tuple bo_tuple rfl nn_tuple gd_tuple) qpa_nil)) nn_isinstance gd_isinstance))) (qpw_or (qpt_cmpR op_eq (qpe_callB call_len_seq g11_len z_len PySem.boot_len (qpa_cons (qpe_var (i := 0) rfl v11_0 d11_0 c11_0) qpa_nil se_Name) nn_len gd_len) qpe_int (nomark _)) (qpw_or1 (qpt_not (qpt_val (qpe_callB call_isT g11_isinstance z_isinstance bo_isinstance (qpa_cons (qpe_ix ixa_tup (qpe_var (i := 0) rfl v11_0 d11_0 c11_0) qpe_int (fun _ _ => rfl)) (qpa_cons (qpe_bltn (v := .ty "str") g11_str z_str bo_str rfl nn_str gd_str) qpa_nil)) nn_isinstance gd_isinstance)))))))
  (qpss_one (qps_ret qpe_bl))
  qpss_nil)
 (qpss_cons (qps_if (qpt_cmpR op_eq (qpe_ix ixa_tup (qpe_var (i := 0) rfl v11_0 d11_0 c11_0) qpe_int (fun _ _ => rfl)) qpe_str (nomark _))
  (qpss_one (qps_ret (qpe_and (qpe_cmpR op_eq (qpe_callB call_len_seq g11_len z_len PySem.boot_len (qpa_cons (qpe_var (i := 0) rfl v11_0 d11_0 c11_0) qpa_nil se_Name) nn_len gd_len) qpe_int (nomark _)) (qpe_and (qpe_callD Dis_below hr g11_is_below pass0 (qpa_cons (qpe_ix ixa_tup (qpe_var (i := 0) rfl v11_0 d11_0 c11_0) qpe_int (fun _ _ => rfl)) (qpa_cons qpe_int qpa_nil se_Constant) se_Subscript) gd_is_below) (qpe_one (qpe_callD Dis_below hr g11_is_below pass0 (qpa_cons (qpe_ix ixa_tup (qpe_var (i := 0) rfl v11_0 d11_0 c11_0) qpe_int (fun _ _ => rfl)) (qpa_cons (qpe_var (i := 2) rfl v11_2 d11_2 c11_2) qpa_nil se_Name) se_Subscript) gd_is_below))))))
  qpss_nil)
 (qpss_cons (qps_if (qPW_pt (qpw_or (qpt_cmpR op_notIn_dict (qpe_ix ixa_tup (qpe_var (i := 0) rfl v11_0 d11_0 c11_0) qpe_int (fun _ _ => rfl)) (qpe_glob (v := .ref _) g11_FEED_COUNTS m_FEED_COUNTS rfl gd_FEED_COUNTS) rfl) (qpw_or1 (qpt_cmpR op_ne (qpe_callB call_len_seq g11_len z_len PySem.boot_len (qpa_cons (qpe_var (i := 0) rfl v11_0 d11_0 c11_0) qpa_nil se_Name) nn_len gd_len) (qpe_op op_add qpe_int (qpe_ixD (qpe_glob (v := .ref _) g11_FEED_COUNTS m_FEED_COUNTS rfl gd_FEED_COUNTS) (qpe_ix ixa_tup (qpe_var (i := 0) rfl v11_0 d11_0 c11_0) qpe_int (fun _ _ => rfl)) (fun _ _ => rfl))) (nomark _)))))
  (qpss_one (qps_ret qpe_bl))
  qpss_nil)
 (qpss_one (qps_ret (qpe_callB (call_all rfl) g11_all z_all bo_all (qpa_cons (qpe_comp rfl cok11_0 (qpi_tup (qpe_slice sl_tup (qpe_var (i := 0) rfl v11_0 d11_0 c11_0) (qpo_some qpe_int) qpo_none)) (fun _ _ _ _ _ => (qpg_name (i := 0) cok11_0.nd rfl (Or.inl kq11_0_0) (Or.inr kq11_0_0))) (fun _ _ _ _ _ => qpif_nil) (fun _ _ _ _ _ => (qpe_callD Dis_below hr gq11_0_is_below pass0 (qpa_cons (qpe_var (i := 0) rfl vq11_0_0 dq11_0_0 cq11_0_0) (qpa_cons (qpe_var (i := 1) rfl vq11_0_1 dq11_0_1 cq11_0_1) qpa_nil se_Name) se_Name) gd_is_below))) qpa_nil se_ListComp) nn_all gd_all))))))), ?_⟩
  (try dsimp only [cxOf])
  cases g with
  | inp =>
    have hv := hF "in" 0 (by decide +kernel)
    have hp : H p = some (.tup [.str "in"]) := hp
    walk_at "rd"
    rw [hv]
    refine iteF ?_
    walk_at "rd"
    rename_i pt hpt
    refine comp_below (zs := []) (by simp <;> omega) (by rw [upd_same, cut1]; rfl) (by simp) fun ys H' c e => ?_
    subst e
    intro D hD
    exact ⟨D, [], rfl, upd_same, q _ (((Ch.new hpt _).trans c).trans (Ch.new hD _))⟩
  | zero =>
    have hv := hF "zero" 0 (by decide +kernel)
    have hp : H p = some (.tup [.str "zero"]) := hp
    walk_at "rd"
    rw [hv]
    refine iteF ?_
    walk_at "rd"
    rename_i pt hpt
    refine comp_below (zs := []) (by simp <;> omega) (by rw [upd_same, cut1]; rfl) (by simp) fun ys H' c e => ?_
    subst e
    intro D hD
    exact ⟨D, [], rfl, upd_same, q _ (((Ch.new hpt _).trans c).trans (Ch.new hD _))⟩
  | one =>
    have hv := hF "one" 0 (by decide +kernel)
    have hp : H p = some (.tup [.str "one"]) := hp
    walk_at "rd"
    rw [hv]
    refine iteF ?_
    walk_at "rd"
    rename_i pt hpt
    refine comp_below (zs := []) (by simp <;> omega) (by rw [upd_same, cut1]; rfl) (by simp) fun ys H' c e => ?_
    subst e
    intro D hD
    exact ⟨D, [], rfl, upd_same, q _ (((Ch.new hpt _).trans c).trans (Ch.new hD _))⟩
  | pick a b c =>
    have hv := hF "pick" 3 (by decide +kernel)
    have hp : H p = some (.tup [.str "pick", .int a, .int b, .int c]) := hp
    obtain ⟨ha, hb, hc⟩ : a < i ∧ b < i ∧ c < i := hok
    walk_at "rd"
    rw [hv]
    refine iteF ?_
    walk_at "rd"
    rename_i pt hpt
    refine comp_below (zs := [(a : Int), (b : Int), (c : Int)]) (by simp <;> omega) (by rw [upd_same, cut1]; rfl) (by simp) fun ys H' c e => ?_
    subst e
    intro D hD
    exact ⟨D, [true, true, true], rfl, upd_same, q _ (((Ch.new hpt _).trans c).trans (Ch.new hD _))⟩
  | keep ff a =>
    have hp : H p = some (.tup [.str "keep", .int (bi ff), .int a]) := hp
    obtain ⟨h1, h2⟩ := bi01 ff
    have h3 : a < n := hok
    walk_at "rd"
    exact q _ (Ch.refl _ _)
theorem g12m0_enumerate : Gi (defScope (inClass (top 12) 0)) "enumerate" := by decide +kernel
theorem v12m0_1 : Vs (defScope (inClass (top 12) 0)) "gates" := by decide +kernel
theorem d12m0_1 : Nd "gates" := by decide +kernel
theorem c12m0_1 : Nc "gates" := by decide +kernel
theorem l12m0_4 : Lc (defScope (inClass (top 12) 0)) "gate" := by decide +kernel
theorem l12m0_3 : Lc (defScope (inClass (top 12) 0)) "number" := by decide +kernel
theorem g12m0_is_gate : Gi (defScope (inClass (top 12) 0)) "is_gate" := by decide +kernel
theorem g12m0_len : Gi (defScope (inClass (top 12) 0)) "len" := by decide +kernel
theorem v12m0_3 : Vs (defScope (inClass (top 12) 0)) "number" := by decide +kernel
theorem d12m0_3 : Nd "number" := by decide +kernel
theorem c12m0_3 : Nc "number" := by decide +kernel
theorem v12m0_4 : Vs (defScope (inClass (top 12) 0)) "gate" := by decide +kernel
theorem d12m0_4 : Nd "gate" := by decide +kernel
theorem c12m0_4 : Nc "gate" := by decide +kernel
theorem v12m0_2 : Vs (defScope (inClass (top 12) 0)) "outs" := by decide +kernel
theorem d12m0_2 : Nd "outs" := by decide +kernel
theorem c12m0_2 : Nc "outs" := by decide +kernel
theorem l12m0_5 : Lc (defScope (inClass (top 12) 0)) "out" := by decide +kernel
theorem g12m0_is_below : Gi (defScope (inClass (top 12) 0)) "is_below" := by decide +kernel
theorem v12m0_5 : Vs (defScope (inClass (top 12) 0)) "out" := by decide +kernel
theorem d12m0_5 : Nd "out" := by decide +kernel
theorem c12m0_5 : Nc "out" := by decide +kernel
theorem v12m0_0 : Vs (defScope (inClass (top 12) 0)) "self" := by decide +kernel
theorem d12m0_0 : Nd "self" := by decide +kernel
theorem c12m0_0 : Nc "self" := by decide +kernel
theorem g12m0_tuple : Gi (defScope (inClass (top 12) 0)) "tuple" := by decide +kernel
def spNet (C : Addr) : Sp := fun vs H Q _ => ∃ (nt dx gl ol : Addr) (gs : List Gt) (xs : List V) (os : List Nat), vs = [.ref nt, .ref gl, .ref ol] ∧ H nt = some (.ins C dx []) ∧ H gl = some (.lst xs) ∧ Gs H gs xs ∧ Oks gs ∧ gs.length ≤ 1000 ∧
  H ol = some (.lst (os.map nV)) ∧ (∀ o ∈ os, o < gs.length) ∧ os.length ≤ 1000 ∧ ∀ gp op H', Ch [nt] H H' → NetAt C H' nt gp op gs xs os → Q .non H'
theorem scNet : FnScope ["self", "gates", "outs", "number", "gate", "out"] ["self", "gates", "outs"] (defScope (inClass (top 12) 0)) := ⟨rfl, rfl, rfl, by decide +kernel, rfl, by decide +kernel, by decide +kernel⟩
theorem ok_Net {C : Addr} (F : Fun K "__init__" "Net.__init__" (inClass (top 12) 0) f fd) (cl : Cls K C) (nG : NoAttr K C "gates") (nO : NoAttr K C "outs") (Dis_gate : DefOk P w K mg base CX0 k "is_gate" ["thing", "ahead", "total"] spGate)
    (Dis_below : DefOk P w K mg base CX0 k "is_below" ["thing", "bound"] spBelow) (z_enumerate : mg "enumerate" = none) (z_len : mg "len" = none) (z_tuple : mg "tuple" = none) : FnOk P w K mg base CX0 (k + 1) f fd ["self", "gates", "outs"] (spNet C) := by
  have nd := scNet.nd
  refine F.ok scNet (fun vs H Q E h => by obtain ⟨nt, dx, gl, ol, gs, xs, os, rfl, _⟩ := h; rfl) (fun cdv A outer s H vs Q E hr h => ?_)
  obtain ⟨nt, dx, gl, ol, gs, xs, os, rfl, hn, hg, hgs, hok, hlen, ho, hos, hol, q⟩ := h
  refine ⟨_, (Pr.h (qpss_cons (qps_loop PassesOwn.never rfl (qpi_enum .list g12m0_enumerate z_enumerate (qpa_cons (qpe_var (i := 1) rfl v12m0_1 d12m0_1 c12m0_1) qpa_nil se_Name)) (qpg_tup rfl (qpgs_cons (qpg_name (i := 3) nd rfl l12m0_3) (qpgs_cons (qpg_name (i := 4) nd rfl l12m0_4) qpgs_nil)))
  (qpss_one (qps_if (qpt_not (qpt_val (qpe_callD Dis_gate hr g12m0_is_gate pass0 (qpa_cons (qpe_var (i := 4) rfl v12m0_4 d12m0_4 c12m0_4) (qpa_cons (qpe_var (i := 3) rfl v12m0_3 d12m0_3 c12m0_3) (qpa_cons (qpe_callB call_len_seq g12m0_len z_len PySem.boot_len (qpa_cons (qpe_var (i := 1) rfl v12m0_1 d12m0_1 c12m0_1) qpa_nil se_Name) nn_len gd_len) qpa_nil se_Call) se_Name) se_Name) gd_is_gate)))
  (qpss_one qps_never)
  qpss_nil)))
 (qpss_cons (qps_loop PassesOwn.never rfl (qpi_list (qpe_var (i := 2) rfl v12m0_2 d12m0_2 c12m0_2)) (qpg_name (i := 5) nd rfl l12m0_5)
  (qpss_one (qps_if (qpt_not (qpt_val (qpe_callD Dis_below hr g12m0_is_below pass0 (qpa_cons (qpe_var (i := 5) rfl v12m0_5 d12m0_5 c12m0_5) (qpa_cons (qpe_callB call_len_seq g12m0_len z_len PySem.boot_len (qpa_cons (qpe_var (i := 1) rfl v12m0_1 d12m0_1 c12m0_1) qpa_nil se_Name) nn_len gd_len) qpa_nil se_Call) se_Name) gd_is_below)))
  (qpss_one qps_never)
  qpss_nil)))
 (qpss_cons (qps_fld (qpe_var (i := 0) rfl v12m0_0 d12m0_0 c12m0_0) (qpe_callTy call_tuple_of g12m0_tuple z_tuple bo_tuple (qpa_cons (qpe_var (i := 1) rfl v12m0_1 d12m0_1 c12m0_1) qpa_nil se_Name) nn_tuple gd_tuple) rfl)
 (qpss_one (qps_fld (qpe_var (i := 0) rfl v12m0_0 d12m0_0 c12m0_0) (qpe_callTy call_tuple_of g12m0_tuple z_tuple bo_tuple (qpa_cons (qpe_var (i := 2) rfl v12m0_2 d12m0_2 c12m0_2) qpa_nil se_Name) nn_tuple gd_tuple) rfl)))))), ?_⟩
  (try dsimp only [cxOf])
  have hx := hgs.len
  walk_at "rd"
  refine loop_enum (xs := xs) (fun i σ H' => Ch [] H H' ∧ ∃ u v r, σ = [some (.ref nt), some (.ref gl), some (.ref ol), u, v, r]) ⟨Ch.refl _ _, _, _, _, rfl⟩ ?_ ?_ ?_
  · rintro i σ H' hi ⟨c, _⟩
    exact SqL.of (c.get hg (by simp))
  · rintro i x σ H' T hx' ⟨c, u, v, r, rfl⟩ hT
    have hi : i < gs.length := by rw [← hx]; exact (List.getElem?_eq_some_iff.mp hx').1
    obtain ⟨g, hgi⟩ : ∃ g, gs[i]? = some g := ⟨_, List.getElem?_eq_getElem hi⟩
    obtain ⟨p, ep, hp⟩ := hgs.at_ i g hgi
    rw [hx'] at ep
    cases ep
    have hp1 : H' p = some (.tup g.vs) := c.get hp (by simp)
    have hg1 : H' gl = some (.lst xs) := c.get hg (by simp)
    have hok1 : g.ok i xs.length := by rw [hx]; exact hok i g hgi
    walk_at "rd"
  · rintro σ H1 ⟨c1, u, v, r, rfl⟩
    have ho1 : H1 ol = some (.lst (os.map nV)) := c1.get ho (by simp)
    have hg1 : H1 gl = some (.lst xs) := c1.get hg (by simp)
    walk_at "rd"
    refine loop_list (xs := os.map nV) (fun i σ H' => Ch [] H H' ∧ ∃ u v r, σ = [some (.ref nt), some (.ref gl), some (.ref ol), u, v, r]) ⟨c1, _, _, _, rfl⟩ ?_ ?_ ?_
    · rintro i σ H' hi ⟨c, _⟩
      exact SqL.of (c.get ho (by simp))
    · rintro i x σ H' hx' ⟨c, u, v, r, rfl⟩
      obtain ⟨o, ho', rfl⟩ : ∃ o ∈ os, x = nV o := by
        rw [List.getElem?_map] at hx'
        obtain ⟨z, h1, h2⟩ := Option.map_eq_some_iff.mp hx'
        exact ⟨z, List.mem_of_getElem? h1, h2.symm⟩
      have := hos o ho'
      have hg2 : H' gl = some (.lst xs) := c.get hg (by simp)
      unfold nV
      walk_at "rd"
    · rintro σ H2 ⟨c2, u, v, r, rfl⟩
      have ho2 : H2 ol = some (.lst (os.map nV)) := c2.get ho (by simp)
      have hg2 : H2 gl = some (.lst xs) := c2.get hg (by simp)
      have hn2 : H2 nt = some (.ins C dx []) := c2.get hn (by simp)
      walk_at "rd"
      rename_i l1 hl1 l2 hl2
      (try refine ⟨by show 1 < 1000; decide, ?_⟩)
      have n1 : l1 ≠ nt := (ne_of_none hn2 hl1).symm
      have n2 : l2 ≠ nt := by
        intro z
        rw [z, upd_same] at hl2
        cases hl2
      have cF : Ch [nt] H (upd (upd (upd (upd H2 l1 (.tup xs)) nt (.ins C dx (putF "gates" (.ref l1) []))) l2 (.tup (os.map nV))) nt (.ins C dx (putF "outs" (.ref l2) (putF "gates" (.ref l1) [])))) :=
        ((((Ch.wk c2).trans (Ch.new hl1 _)).trans Ch.put).trans (Ch.new hl2 _)).trans Ch.put
      refine q l1 l2 _ cF ⟨⟨dx, upd_same⟩, ?_, hgs.tu (Tu.ch cF hn (fun xs z => by cases z)), ?_⟩
      · exact g_put n1 (g_new hl2 (g_put n1 upd_same))
      · exact g_put n2 upd_same
end
end

section
local macro_rules | `(tactic| walk_at "user") => `(tactic| first
  | (apply dgetI_some; (focus walk_at "get"); (focus with_reducible assumption))
  | (apply dgetI_none; (focus walk_at "get"); (focus with_reducible assumption))
  | (apply dputI; (focus walk_at "get"); (focus walk_at "arith")))
def fldsR (gl cd : Addr) : List (Str × V) := [("gates", .ref gl), ("constants", .ref cd)]
theorem fr_g (gl cd : Addr) : List.lookup (Str.ofString "gates") (fldsR gl cd) = some (.ref gl) := rfl
theorem fr_c (gl cd : Addr) : List.lookup (Str.ofString "constants") (fldsR gl cd) = some (.ref cd) := rfl
theorem fr_nl (gl cd : Addr) : List.lookup (Str.ofString "lay") (fldsR gl cd) = none := rfl
theorem fr_nc (gl cd : Addr) : List.lookup (Str.ofString "constant") (fldsR gl cd) = none := rfl
theorem fr_nf (gl cd : Addr) : List.lookup (Str.ofString "feed_keeper") (fldsR gl cd) = none := rfl
structure RigAt (C : Addr) (H : Hp) (y gl cd : Addr) (s : OS) : Prop where
  ob : ∃ dy, H y = some (.ins C dy (fldsR gl cd))
  g : ∃ xs, H gl = some (.lst xs) ∧ Gs H s.1 xs
  c : ∃ kvs, H cd = some (.dK kvs) ∧ (∀ b, valV kvs (.inl (bi b)) = (s.2 b).map nV) ∧ kvs.length ≤ s.1.length
theorem RigAt.ch {C : Addr} {H H' : Hp} {y gl cd : Addr} {s : OS} (r : RigAt C H y gl cd s) (c : Ch [] H H') : RigAt C H' y gl cd s :=
  ⟨r.ob.imp fun _ h => c.get h (by simp), let ⟨xs, a, b⟩ := r.g; ⟨xs, c.get a (by simp), b.tu (Tu.same c)⟩, let ⟨k, a, b⟩ := r.c; ⟨k, c.get a (by simp), b⟩⟩
theorem Ch.mono {W W' : List Addr} {H H' : Hp} (c : Ch W H H') (h : ∀ x ∈ W, x ∈ W') : Ch W' H H' := fun a o e n => c a o e fun z => n (h a z)
theorem RigAt.put {C : Addr} {H : Hp} {y gl cd : Addr} {s : OS} {g : Gt} {kvs : List (Key × V)} (r : RigAt C H y gl cd (s.1 ++ [g], s.2)) (b : Bool) (kl : kvs.length ≤ s.1.length) (hc : H cd = some (.dK kvs)) : RigAt C (upd H cd (.dK (putK kvs (.inl (bi b)) (.int (s.1.length : Int))))) y gl cd (s.1 ++ [g], fun c => if c = b then some s.1.length else s.2 c) := by
  obtain ⟨⟨dy, hy⟩, ⟨xs, hg, gg⟩, ⟨k2, hc2, kv, _⟩⟩ := r
  rw [hc] at hc2
  cases hc2
  refine ⟨⟨dy, g_put (ne_of hy hc (by intro z; cases z)) hy⟩, ⟨xs, g_put (ne_of hg hc (by intro z; cases z)) hg, gg.tu (Tu.ch Ch.put hc (fun _ z => by cases z))⟩, ⟨_, upd_same, fun b' => ?_, ?_⟩⟩
  · rw [valV_put]
    by_cases z : b' = b
    · subst z; simp [nV]
    · have : (Sum.inl (bi b') : Key) ≠ .inl (bi b) := fun e => z (by cases b <;> cases b' <;> first | rfl | (cases e))
      rw [if_neg this, kv]
      simp [z]
  · exact Nat.le_trans (length_putK _ _ _) (by simp; omega)
theorem Gs.push {H : Hp} {gs : List Gt} {xs : List V} {gl p : Addr} {g : Gt} {ys : List V} (h : Gs H gs xs) (hg : H gl = some (.lst ys)) (hp : H p = some (.tup g.vs)) : Gs (upd H gl (.lst (xs ++ [.ref p]))) (gs ++ [g]) (xs ++ [.ref p]) := by
  have t : Tu H (upd H gl (.lst (xs ++ [.ref p]))) := Tu.lst Ch.put hg
  refine ⟨by simp [h.len], fun i g' e => ?_⟩
  by_cases hi : i < gs.length
  · rw [List.getElem?_append_left hi] at e
    obtain ⟨p', h1, h2⟩ := h.at_ i g' e
    exact ⟨p', by rw [List.getElem?_append_left (by rw [h.len]; exact hi)]; exact h1, t _ _ h2⟩
  · rw [List.getElem?_append_right (by omega)] at e
    have hi0 : i - gs.length = 0 := by
      rcases Nat.eq_zero_or_pos (i - gs.length) with z | z
      · exact z
      · rw [List.getElem?_eq_none (by simp; omega)] at e; cases e
    rw [hi0] at e
    cases e
    refine ⟨p, ?_, t _ _ hp⟩
    rw [List.getElem?_append_right (by rw [h.len]; omega), h.len, hi0]; rfl
theorem Gs.set {H : Hp} {gs : List Gt} {xs : List V} {gl p : Addr} {g : Gt} {ys : List V} {j : Nat} (h : Gs H gs xs) (hg : H gl = some (.lst ys)) (hp : H p = some (.tup g.vs)) : Gs (upd H gl (.lst (xs.set j (.ref p)))) (gs.set j g) (xs.set j (.ref p)) := by
  have t : Tu H (upd H gl (.lst (xs.set j (.ref p)))) := Tu.lst Ch.put hg
  refine ⟨by simp [h.len], fun i g' e => ?_⟩
  rw [List.getElem?_set] at e ⊢
  split at e
  · split at e
    · cases e
      rename_i h1 h2
      refine ⟨p, ?_, t _ _ hp⟩
      rw [if_pos h1, if_pos (by rw [h.len]; exact h2)]
    · cases e
  · rename_i h1
    obtain ⟨p', h2, h3⟩ := h.at_ i g' e
    exact ⟨p', by rw [if_neg h1]; exact h2, t _ _ h3⟩
def Gt.setA (a : Nat) : Gt → Gt
  | .keep f _ => .keep f a
  | g => g
structure Fed (gs gs' : List Gt) (ins j : Nat) (as : List Nat) : Prop where
  len : gs'.length = gs.length
  at_ : ∀ i, gs'[i]? = if ins ≤ i ∧ i < ins + j then (gs[i]?).map (Gt.setA (as.getD (i - ins) 0)) else gs[i]?
theorem Fed.zero (gs : List Gt) (ins : Nat) (as : List Nat) : Fed gs gs ins 0 as := ⟨rfl, fun i => by rw [if_neg (by omega)]⟩
theorem Fed.succ {gs gs' : List Gt} {ins j a : Nat} {as : List Nat} {f : Bool} {a0 : Nat} (h : Fed gs gs' ins j as) (ha : as[j]? = some a) (hk : gs[ins + j]? = some (.keep f a0)) : Fed gs (gs'.set (ins + j) (.keep f a)) ins (j + 1) as := by
  refine ⟨by simp [h.len], fun i => ?_⟩
  have hi := (List.getElem?_eq_some_iff.mp hk).1
  rw [List.getElem?_set]
  by_cases e : ins + j = i
  · subst e
    rw [if_pos rfl, if_pos (by rw [h.len]; exact hi), if_pos (by omega), hk]
    have : as.getD (ins + j - ins) 0 = a := by rw [show ins + j - ins = j by omega, List.getD_eq_getElem?_getD, ha]; rfl
    rw [this]; rfl
  · rw [if_neg e, h.at_]
    by_cases z : ins ≤ i ∧ i < ins + j
    · rw [if_pos z, if_pos (by omega)]
    · rw [if_neg z, if_neg (by omega)]
theorem Fed.er {gs gs' : List Gt} {ins j : Nat} {as : List Nat} (h : Fed gs gs' ins j as) : gs'.map Gt.er = gs.map Gt.er := by
  refine List.ext_getElem? fun i => ?_
  rw [List.getElem?_map, List.getElem?_map, h.at_]
  split
  · cases gs[i]? with
    | none => rfl
    | some g => cases g <;> rfl
  · rfl
section
variable {P : Program} {w : World} {K : PySem.W.Frag} {mg : Str → Option Value} {base : Heap} {f : Addr} {fd : FuncData} {k : Nat}
theorem v14m0_0 : Vs (defScope (inClass (top 14) 0)) "self" := by decide +kernel
theorem d14m0_0 : Nd "self" := by decide +kernel
theorem c14m0_0 : Nc "self" := by decide +kernel
def spRig (C : Addr) : Sp := fun vs H Q _ => ∃ (y dy : Addr), vs = [.ref y] ∧ H y = some (.ins C dy []) ∧ ∀ gl cd H', Ch [y] H H' → H gl = none → H cd = none → RigAt C H' y gl cd ([], fun _ => none) → Q .non H'
theorem scRig : FnScope ["self"] ["self"] (defScope (inClass (top 14) 0)) := ⟨rfl, rfl, rfl, by decide +kernel, rfl, by decide +kernel, by decide +kernel⟩
theorem ok_Rig {C : Addr} (F : Fun K "__init__" "Rig.__init__" (inClass (top 14) 0) f fd) (cl : Cls K C) (nG : NoAttr K C "gates") (nC : NoAttr K C "constants") : FnOk P w K mg base CX0 (k + 1) f fd ["self"] (spRig C) := by
  have nd := scRig.nd
  refine F.ok scRig (fun vs H Q E h => by obtain ⟨y, dy, rfl, _⟩ := h; rfl) (fun cdv A outer s H vs Q E hr h => ?_)
  obtain ⟨y, dy, rfl, hy, q⟩ := h
  refine ⟨_, (Pr.h (qpss_cons (qps_fld (qpe_var (i := 0) rfl v14m0_0 d14m0_0 c14m0_0) (qpe_lst qpa_nil) rfl)
 (qpss_one (qps_fld (qpe_var (i := 0) rfl v14m0_0 d14m0_0 c14m0_0) qpe_dnewK rfl)))), ?_⟩
  (try dsimp only [cxOf])
  walk_at "rd"
  rename_i gl hgl cd hcd
  have ngy : gl ≠ y := (ne_of_none hy hgl).symm
  have ncy : cd ≠ y := fun z => by rw [z, upd_same] at hcd; cases hcd
  have fcd : H cd = none := by
    rw [upd_ne ncy] at hcd
    exact chFree (Ch.new hgl _) hcd
  have ngc : gl ≠ cd := ne_of_none (g_put ngy (show upd H gl (.lst []) gl = _ from upd_same)) hcd
  exact q gl cd _ ((((Ch.new hgl _).wk.trans Ch.put).trans (Ch.new hcd _)).trans Ch.put) hgl fcd ⟨⟨dy, upd_same⟩, ⟨[], g_put ngy (g_new hcd (g_put ngy upd_same)), rfl, fun i g e => by simp at e⟩, ⟨[], g_put ncy upd_same, fun b => rfl, Nat.le_refl _⟩⟩
theorem v14m1_0 : Vs (defScope (inClass (top 14) 1)) "self" := by decide +kernel
theorem d14m1_0 : Nd "self" := by decide +kernel
theorem c14m1_0 : Nc "self" := by decide +kernel
theorem v14m1_1 : Vs (defScope (inClass (top 14) 1)) "gate" := by decide +kernel
theorem d14m1_1 : Nd "gate" := by decide +kernel
theorem c14m1_1 : Nc "gate" := by decide +kernel
theorem g14m1_len : Gi (defScope (inClass (top 14) 1)) "len" := by decide +kernel
def spLay (C : Addr) : Sp := fun vs H Q _ => ∃ (y p gl cd : Addr) (s : OS) (g : Gt), vs = [.ref y, .ref p] ∧ RigAt C H y gl cd s ∧ H p = some (.tup g.vs) ∧ s.1.length ≤ 900 ∧ ∀ H', Ch [gl] H H' → RigAt C H' y gl cd (s.1 ++ [g], s.2) → Q (.int (s.1.length : Int)) H'
theorem scLay : FnScope ["self", "gate"] ["self", "gate"] (defScope (inClass (top 14) 1)) := ⟨rfl, rfl, rfl, by decide +kernel, rfl, by decide +kernel, by decide +kernel⟩
theorem ok_lay {C : Addr} (F : Fun K "lay" "Rig.lay" (inClass (top 14) 1) f fd) (cl : Cls K C) (nG : NoAttr K C "gates") (z_len : mg "len" = none) : FnOk P w K mg base CX0 (k + 1) f fd ["self", "gate"] (spLay C) := by
  have nd := scLay.nd
  refine F.ok scLay (fun vs H Q E h => by obtain ⟨y, p, gl, cd, s, g, rfl, _⟩ := h; rfl) (fun cdv A outer s0 H vs Q E hr h => ?_)
  obtain ⟨y, p, gl, cd, s, g, rfl, ⟨⟨dy, hy⟩, ⟨xs, hg, gg⟩, ⟨kvs, hc, kv, kl⟩⟩, hp, sz, q⟩ := h
  refine ⟨_, (Pr.h (qpss_cons (qps_expr (qpe_bm PySem.F.plainAttrs_list PySem.F.slot_list_append PySem.F.type_list_append mt_append (qpe_fld (qpe_var (i := 0) rfl v14m1_0 d14m1_0 c14m1_0) rfl) (qpa_cons (qpe_var (i := 1) rfl v14m1_1 d14m1_1 c14m1_1) qpa_nil se_Name)))
 (qpss_one (qps_ret (qpe_op op_sub (qpe_callB call_len_seq g14m1_len z_len PySem.boot_len (qpa_cons (qpe_fld (qpe_var (i := 0) rfl v14m1_0 d14m1_0 c14m1_0) rfl) qpa_nil se_Attribute) nn_len gd_len) qpe_int))))), ?_⟩
  (try dsimp only [cxOf])
  have f1 := fr_g gl cd
  have lx := gg.len
  have nyg : y ≠ gl := ne_of hy hg (by intro z; cases z)
  walk_at "rd"
  refine Eq.mp (congrArg (fun z => Q (.int z) _) ?_) (q (upd H gl (.lst (xs ++ [.ref p]))) Ch.put ⟨⟨dy, g_put nyg hy⟩, ⟨_, upd_same, gg.push hg hp⟩, ⟨kvs, g_put (ne_of hc hg (by intro z; cases z)) hc, kv, by simp; omega⟩⟩)
  rw [List.length_append, lx]
  simp
theorem v14m2_1 : Vs (defScope (inClass (top 14) 2)) "bit" := by decide +kernel
theorem d14m2_1 : Nd "bit" := by decide +kernel
theorem c14m2_1 : Nc "bit" := by decide +kernel
theorem v14m2_0 : Vs (defScope (inClass (top 14) 2)) "self" := by decide +kernel
theorem d14m2_0 : Nd "self" := by decide +kernel
theorem c14m2_0 : Nc "self" := by decide +kernel
def spConst (C : Addr) : Sp := fun vs H Q _ => ∃ (y gl cd : Addr) (s : OS) (b : Bool), vs = [.ref y, .int (bi b)] ∧ RigAt C H y gl cd s ∧ s.1.length ≤ 900 ∧ ∀ H', Ch [gl, cd] H H' → RigAt C H' y gl cd (opC s b).1 → Q (.int ((opC s b).2 : Int)) H'
theorem scConst : FnScope ["self", "bit"] ["self", "bit"] (defScope (inClass (top 14) 2)) := ⟨rfl, rfl, rfl, by decide +kernel, rfl, by decide +kernel, by decide +kernel⟩
theorem ok_const {C : Addr} (F : Fun K "constant" "Rig.constant" (inClass (top 14) 2) f fd) (cl : Cls K C) (nC : NoAttr K C "constants") (MRig_lay : MethOk P w K mg base CX0 k C "lay" ["self", "gate"] (spLay C)) : FnOk P w K mg base CX0 (k + 1) f fd ["self", "bit"] (spConst C) := by
  have nd := scConst.nd
  refine F.ok scConst (fun vs H Q E h => by obtain ⟨y, gl, cd, s, b, rfl, _⟩ := h; rfl) (fun cdv A outer s0 H vs Q E hr h => ?_)
  obtain ⟨y, gl, cd, s, b, rfl, rg, sz, q⟩ := h
  have hu := hu_of hr
  obtain ⟨⟨dy, hy⟩, ⟨xs, hg, gg⟩, ⟨kvs, hc, kv, kl⟩⟩ := id rg
  refine ⟨_, (Pr.h (qpss_cut (qps_if (qpt_dnotin hu (qpe_var (i := 1) rfl v14m2_1 d14m2_1 c14m2_1) (qpe_fld (qpe_var (i := 0) rfl v14m2_0 d14m2_0 c14m2_0) rfl))
  (qpss_one (qps_dput hu (qpe_fld (qpe_var (i := 0) rfl v14m2_0 d14m2_0 c14m2_0) rfl) (qpe_var (i := 1) rfl v14m2_1 d14m2_1 c14m2_1) (qpe_methD (qpe_var (i := 0) rfl v14m2_0 d14m2_0 c14m2_0) MRig_lay hr pass0 (qpa_cons (qpe_ifExp (qpt_cmpR op_eq (qpe_var (i := 1) rfl v14m2_1 d14m2_1 c14m2_1) qpe_int (nomark _)) (qpe_tup (qpa_cons qpe_str qpa_nil se_Constant)) (qpe_tup (qpa_cons qpe_str qpa_nil se_Constant))) qpa_nil se_IfExp)) rfl))
  qpss_nil)
 (qpss_one (qps_ret (qpe_dgetT hu (qpe_fld (qpe_var (i := 0) rfl v14m2_0 d14m2_0 c14m2_0) rfl) (qpe_var (i := 1) rfl v14m2_1 d14m2_1 c14m2_1) (fun _ _ => rfl)))))), ?_⟩
  (try dsimp only [cxOf])
  have f1 := fr_c gl cd
  have f2 := fr_nl gl cd
  have kb := kv b
  walk_at "rd"
  refine cut_by (fun σ H' => σ = [some (.ref y), some (.int (bi b))] ∧ Ch [gl, cd] H H' ∧ RigAt C H' y gl cd (opC s b).1 ∧ (opC s b).1.2 b = some (opC s b).2) ?_ ?_
  · cases e : s.2 b with
    | some n =>
      have eo : opC s b = (s, n) := by unfold opC; rw [e]
      rw [e] at kb
      have kb : valV kvs (.inl (bi b)) = some (.int (n : Int)) := kb
      rw [eo]
      walk_at "rd"
    | none =>
      have eo : opC s b = ((s.1 ++ [if b then .one else .zero], fun c => if c = b then some s.1.length else s.2 c), s.1.length) := by unfold opC; rw [e]
      rw [e] at kb
      have kb : valV kvs (.inl (bi b)) = none := kb
      rw [eo]
      cases b with
      | true =>
        walk_at "rd"
        rename_i T hT
        refine ⟨rg.ch (Ch.new hT _), (show _ = some (HO.tup (Gt.vs .one)) from upd_same), sz, fun H2 c2 r2 => ?_⟩
        obtain ⟨⟨dy2, hy2⟩, gg2, ⟨kvs2, hc2, kv2, kl2⟩⟩ := id r2
        have l2 : kvs2.length ≤ 1000 := by simp at kl2; omega
        have ncg : cd ≠ gl := ne_of hc hg (by intro z; cases z)
        have hc2' : H2 cd = some (.dK kvs) := c2.get (g_new hT hc) (by simpa using ncg)
        rw [hc2] at hc2'
        cases hc2'
        walk_at "rd"
        exact ⟨(((Ch.new hT _).trans (Ch.mono c2 (by simp))).trans (Ch.mono Ch.put (by simp))), r2.put true kl hc2, rfl⟩
      | false =>
        walk_at "rd"
        rename_i T hT
        refine ⟨rg.ch (Ch.new hT _), (show _ = some (HO.tup (Gt.vs .zero)) from upd_same), sz, fun H2 c2 r2 => ?_⟩
        obtain ⟨⟨dy2, hy2⟩, gg2, ⟨kvs2, hc2, kv2, kl2⟩⟩ := id r2
        have l2 : kvs2.length ≤ 1000 := by simp at kl2; omega
        have ncg : cd ≠ gl := ne_of hc hg (by intro z; cases z)
        have hc2' : H2 cd = some (.dK kvs) := c2.get (g_new hT hc) (by simpa using ncg)
        rw [hc2] at hc2'
        cases hc2'
        walk_at "rd"
        exact ⟨(((Ch.new hT _).trans (Ch.mono c2 (by simp))).trans (Ch.mono Ch.put (by simp))), r2.put false kl hc2, rfl⟩
  · rintro σ H1 ⟨rfl, c1, ⟨⟨dy1, hy1⟩, gg1, ⟨kvs1, hc1, kv1, kl1⟩⟩, e1⟩
    have kb1 := kv1 b
    rw [e1] at kb1
    have kb1 : valV kvs1 (.inl (bi b)) = some (.int ((opC s b).2 : Int)) := kb1
    walk_at "rd"
    exact q _ c1 ⟨⟨dy1, hy1⟩, gg1, ⟨kvs1, hc1, kv1, kl1⟩⟩
theorem g14m3_zip : Gi (defScope (inClass (top 14) 3)) "zip" := by decide +kernel
theorem v14m3_2 : Vs (defScope (inClass (top 14) 3)) "bits" := by decide +kernel
theorem d14m3_2 : Nd "bits" := by decide +kernel
theorem c14m3_2 : Nc "bits" := by decide +kernel
theorem v14m3_1 : Vs (defScope (inClass (top 14) 3)) "numbers" := by decide +kernel
theorem d14m3_1 : Nd "numbers" := by decide +kernel
theorem c14m3_1 : Nc "numbers" := by decide +kernel
theorem l14m3_4 : Lc (defScope (inClass (top 14) 3)) "bit" := by decide +kernel
theorem l14m3_3 : Lc (defScope (inClass (top 14) 3)) "number" := by decide +kernel
theorem v14m3_4 : Vs (defScope (inClass (top 14) 3)) "bit" := by decide +kernel
theorem d14m3_4 : Nd "bit" := by decide +kernel
theorem c14m3_4 : Nc "bit" := by decide +kernel
theorem v14m3_0 : Vs (defScope (inClass (top 14) 3)) "self" := by decide +kernel
theorem d14m3_0 : Nd "self" := by decide +kernel
theorem c14m3_0 : Nc "self" := by decide +kernel
theorem v14m3_3 : Vs (defScope (inClass (top 14) 3)) "number" := by decide +kernel
theorem d14m3_3 : Nd "number" := by decide +kernel
theorem c14m3_3 : Nc "number" := by decide +kernel
def spFeed (C : Addr) : Sp := fun vs H Q _ => ∃ (y gl cd nl bl : Addr) (s : OS) (ins m : Nat) (as : List Nat), vs = [.ref y, .ref nl, .ref bl] ∧ RigAt C H y gl cd s ∧ H nl = some (.lst ((List.range m).map fun j => nV (ins + j))) ∧ H bl = some (.lst (as.map nV)) ∧ as.length = m ∧ nl ≠ gl ∧ bl ≠ gl ∧ (∀ j, j < m → ∃ f a, s.1[ins + j]? = some (.keep f a)) ∧
  ∀ gs' H', Ch [gl] H H' → Fed s.1 gs' ins m as → RigAt C H' y gl cd (gs', s.2) → Q .non H'
theorem scFeed : FnScope ["self", "numbers", "bits", "number", "bit"] ["self", "numbers", "bits"] (defScope (inClass (top 14) 3)) := ⟨rfl, rfl, rfl, by decide +kernel, rfl, by decide +kernel, by decide +kernel⟩
theorem ok_feed {C : Addr} (F : Fun K "feed_keeper" "Rig.feed_keeper" (inClass (top 14) 3) f fd) (cl : Cls K C) (nG : NoAttr K C "gates") (z_zip : mg "zip" = none) : FnOk P w K mg base CX0 (k + 1) f fd ["self", "numbers", "bits"] (spFeed C) := by
  have nd := scFeed.nd
  refine F.ok scFeed (fun vs H Q E h => by obtain ⟨y, gl, cd, nl, bl, s, ins, m, as, rfl, _⟩ := h; rfl) (fun cdv A outer s0 H vs Q E hr h => ?_)
  obtain ⟨y, gl, cd, nl, bl, s, ins, m, as, rfl, rg, hn, hb, la, n1, n2, hk, q⟩ := h
  refine ⟨_, (Pr.h (qpss_one (qps_loop PassesOwn.never rfl (qpi_zip .list .list g14m3_zip z_zip (qpa_cons (qpe_var (i := 1) rfl v14m3_1 d14m3_1 c14m3_1) (qpa_cons (qpe_var (i := 2) rfl v14m3_2 d14m3_2 c14m3_2) qpa_nil se_Name) se_Name)) (qpg_tup rfl (qpgs_cons (qpg_name (i := 3) nd rfl l14m3_3) (qpgs_cons (qpg_name (i := 4) nd rfl l14m3_4) qpgs_nil)))
  (qpss_one (qps_asg (qpe_tup (qpa_cons qpe_str (qpa_cons (qpe_ix ixa_tup (qpe_ix ixa_list (qpe_fld (qpe_var (i := 0) rfl v14m3_0 d14m3_0 c14m3_0) rfl) (qpe_var (i := 3) rfl v14m3_3 d14m3_3 c14m3_3) (fun _ _ => rfl)) qpe_int (fun _ _ => rfl)) (qpa_cons (qpe_var (i := 4) rfl v14m3_4 d14m3_4 c14m3_4) qpa_nil se_Name) se_Subscript) se_Constant)) (qpg_sub (qpe_fld (qpe_var (i := 0) rfl v14m3_0 d14m3_0 c14m3_0) rfl) (qpe_var (i := 3) rfl v14m3_3 d14m3_3 c14m3_3) set_list)))))), ?_⟩
  (try dsimp only [cxOf])
  have f1 := fr_g gl cd
  walk_at "rd"
  refine loop_zip (xs := (List.range m).map fun j => nV (ins + j)) (ys := as.map nV) (fun i σ H' => ∃ gs', Fed s.1 gs' ins i as ∧ RigAt C H' y gl cd (gs', s.2) ∧ Ch [gl] H H' ∧ ∃ u v, σ = [some (.ref y), some (.ref nl), some (.ref bl), u, v]) ⟨s.1, Fed.zero _ _ _, rg, Ch.refl _ _, _, _, rfl⟩ ?_ ?_ ?_
  · rintro i σ H' hi ⟨gs', fe, r, c, _⟩
    exact ⟨SqL.of (c.get hn (by simpa using n1)), SqL.of (c.get hb (by simpa using n2))⟩
  · rintro i x z σ H' T hx hz ⟨gs', fe, r, c, u, v, rfl⟩ hT
    rw [List.getElem?_map] at hx hz
    obtain ⟨j, hj, rfl⟩ := Option.map_eq_some_iff.mp hx
    obtain ⟨a, ha, rfl⟩ := Option.map_eq_some_iff.mp hz
    have hi : i < m := by have := (List.getElem?_eq_some_iff.mp hj).1; simpa using this
    obtain rfl : i = j := by
      obtain ⟨h1, h2⟩ := List.getElem?_eq_some_iff.mp hj
      simpa using h2
    obtain ⟨ff, a0, hg0⟩ := hk i hi
    have hg1 : gs'[ins + i]? = some (.keep ff a0) := by rw [fe.at_, if_neg (by omega)]; exact hg0
    obtain ⟨⟨dy, hy⟩, ⟨xs, hg, gg⟩, cc⟩ := id r
    obtain ⟨p, ep, hp⟩ := gg.at_ _ _ hg1
    have hp : H' p = some (.tup [.str "keep", .int (bi ff), .int (a0 : Int)]) := hp
    have hat : atI xs ((ins + i : Nat) : Int) = some (.ref p) := atI_nat ep
    have hlx : ins + i < xs.length := (List.getElem?_eq_some_iff.mp ep).1
    have hN : ixN xs.length ((ins + i : Nat) : Int) = some (ins + i) := by unfold ixN; rw [if_pos (by omega), if_pos (by omega)]; exact congrArg some (Int.toNat_natCast _)
    unfold nV
    walk_at "rd"
    rename_i T2 hT2
    have cT : Ch [] H' (upd (upd H' T (.tup [.int ((ins + i : Nat) : Int), .int (a : Int)])) T2 (.tup [.str "keep", .int (bi ff), .int (a : Int)])) := (Ch.new hT _).trans (Ch.new hT2 _)
    have hgT := cT.get hg (by simp)
    obtain ⟨kvs, hc, kv, kl⟩ := cc
    have hcT := cT.get hc (by simp)
    have hyT := cT.get hy (by simp)
    exact ⟨fe.succ ha hg0, ⟨⟨dy, g_put (ne_of hyT hgT (by intro z; cases z)) hyT⟩, ⟨_, upd_same, (gg.tu (Tu.same cT)).set hgT upd_same⟩, ⟨kvs, g_put (ne_of hcT hgT (by intro z; cases z)) hcT, kv, by simpa using kl⟩⟩, (c.trans cT.wk).trans Ch.put, _, _, rfl⟩
  · rintro σ H' ⟨gs', fe, r, c, _⟩
    have : min ((List.range m).map fun j => nV (ins + j)).length (as.map nV).length = m := by simp [la]
    rw [this] at fe
    exact q gs' _ c fe r
end
end

section
def mkK (l c : Nat) : List Key := [.inl (l : Int), .inl (c : Int)]
structure KnAt (H : Hp) (kd : Addr) (kn : Kn) (m : Nat) : Prop where
  ex : ∃ kvs, H kd = some (.dT kvs) ∧ (∀ l c, valV kvs (mkK l c) = (kn l c).map nV) ∧ kvs.length ≤ m
theorem KnAt.ch {W : List Addr} {H H' : Hp} {kd : Addr} {kn : Kn} {m m' : Nat} (s : KnAt H kd kn m) (c : Ch W H H') (n : kd ∉ W) (h : m ≤ m') : KnAt H' kd kn m' := let ⟨kvs, a, b, l⟩ := s.ex; ⟨kvs, c.get a n, b, Nat.le_trans l h⟩
structure OGp (C : Addr) (H : Hp) (y gl cd kd ll : Addr) (top : List Nat) (n bits : Nat) (s : OS) (kn : Kn) : Prop where
  rg : RigAt C H y gl cd s
  hl : H ll = some (.lst ((top.take n).map nV))
  kk : KnAt H kd kn s.1.length
  ne : ll ≠ gl
  hn : n ≤ top.length
  n4 : top.length ≤ 4
  ht : ∀ x ∈ top, x < s.1.length
  g : Good s
  gk : GoodK top s kn
  hb : bits < 2 ^ 2 ^ n
  sz : s.1.length + 2 ^ (n + 1) ≤ 900
theorem RigAt.dk {C : Addr} {H H' : Hp} {y gl cd kd : Addr} {s : OS} {kvs : List (List Key × V)} (r : RigAt C H y gl cd s) (c : Ch [kd] H H') (hk : H kd = some (.dT kvs)) : RigAt C H' y gl cd s :=
  ⟨r.ob.imp fun _ h => c.get h (by simpa using ne_of h hk (by intro z; cases z)), let ⟨xs, a, b⟩ := r.g; ⟨xs, c.get a (by simpa using ne_of a hk (by intro z; cases z)), b.tu (Tu.ch c hk (fun _ z => by cases z))⟩, let ⟨k, a, b⟩ := r.c; ⟨k, c.get a (by simpa using ne_of a hk (by intro z; cases z)), b⟩⟩
theorem mkK_inj {l c l' c' : Nat} : mkK l c = mkK l' c' ↔ l = l' ∧ c = c' := by
  unfold mkK
  constructor
  · intro h
    simp only [List.cons.injEq, Sum.inl.injEq, and_true] at h
    omega
  · rintro ⟨rfl, rfl⟩; rfl
theorem cutV_neg {xs : List V} {n : Nat} (h : xs.length = n + 1) : cutV xs none (some (-1)) = xs.take n := by
  show (xs.drop 0).take (HT.sIx xs.length xs.length (some (-1)) - 0) = _
  have e : HT.sIx xs.length xs.length (some (-1)) = n := by
    show (if (-1 : Int) < 0 then ((-1 : Int) + (xs.length : Int)).toNat else min (-1 : Int).toNat xs.length) = _
    rw [if_pos (by omega)]
    omega
  rw [e]
  simp
theorem mask {n bits : Nat} (h : n ≤ 3) : Builtin.bitAnd (bits : Int) (1 * 2 ^ (1 * 2 ^ ((((n + 1 : Nat) : Int) - 1).toNat) : Int).toNat - 1) = ((bits % 2 ^ 2 ^ n : Nat) : Int) := by
  have e : n = 0 ∨ n = 1 ∨ n = 2 ∨ n = 3 := by omega
  rcases e with rfl | rfl | rfl | rfl
  · exact PyProof.Rows.bitAnd_m1 _
  · exact PyProof.Rows.bitAnd_m2 _
  · exact PyProof.Rows.bitAnd_m4 _
  · exact PyProof.Rows.bitAnd_m8 _
theorem half {n : Nat} (h : n ≤ 3) : (0 : Int) ≤ 1 * 2 ^ ((((n + 1 : Nat) : Int) - 1).toNat) ∧ (1 : Int) * 2 ^ ((((n + 1 : Nat) : Int) - 1).toNat) ≤ 16 := by
  have e : n = 0 ∨ n = 1 ∨ n = 2 ∨ n = 3 := by omega
  rcases e with rfl | rfl | rfl | rfl <;> decide
section
variable {P : Program} {w : World} {K : PySem.W.Frag} {mg : Str → Option Value} {base : Heap} {f : Addr} {fd : FuncData} {k : Nat}
theorem gd_opened_gate : Nd "opened_gate" := by decide +kernel
theorem g16_len : Gi (defScope (top 16)) "len" := by decide +kernel
theorem v16_1 : Vs (defScope (top 16)) "leaves" := by decide +kernel
theorem d16_1 : Nd "leaves" := by decide +kernel
theorem c16_1 : Nc "leaves" := by decide +kernel
theorem v16_0 : Vs (defScope (top 16)) "rig" := by decide +kernel
theorem d16_0 : Nd "rig" := by decide +kernel
theorem c16_0 : Nc "rig" := by decide +kernel
theorem v16_2 : Vs (defScope (top 16)) "bits" := by decide +kernel
theorem d16_2 : Nd "bits" := by decide +kernel
theorem c16_2 : Nc "bits" := by decide +kernel
theorem l16_4 : Lc (defScope (top 16)) "mark" := by decide +kernel
theorem v16_4 : Vs (defScope (top 16)) "mark" := by decide +kernel
theorem d16_4 : Nd "mark" := by decide +kernel
theorem c16_4 : Nc "mark" := by decide +kernel
theorem v16_3 : Vs (defScope (top 16)) "known" := by decide +kernel
theorem d16_3 : Nd "known" := by decide +kernel
theorem c16_3 : Nc "known" := by decide +kernel
theorem l16_5 : Lc (defScope (top 16)) "half" := by decide +kernel
theorem l16_6 : Lc (defScope (top 16)) "lower" := by decide +kernel
theorem g16_opened_gate : Gi (defScope (top 16)) "opened_gate" := by decide +kernel
theorem v16_5 : Vs (defScope (top 16)) "half" := by decide +kernel
theorem d16_5 : Nd "half" := by decide +kernel
theorem c16_5 : Nc "half" := by decide +kernel
theorem l16_7 : Lc (defScope (top 16)) "upper" := by decide +kernel
theorem v16_6 : Vs (defScope (top 16)) "lower" := by decide +kernel
theorem d16_6 : Nd "lower" := by decide +kernel
theorem c16_6 : Nc "lower" := by decide +kernel
theorem v16_7 : Vs (defScope (top 16)) "upper" := by decide +kernel
theorem d16_7 : Nd "upper" := by decide +kernel
theorem c16_7 : Nc "upper" := by decide +kernel
def spOG (C : Addr) (n : Nat) : Sp := fun vs H Q _ => ∃ (y gl cd kd ll : Addr) (top : List Nat) (bits : Nat) (s : OS) (kn : Kn), vs = [.ref y, .ref ll, .int (bits : Int), .ref kd] ∧ OGp C H y gl cd kd ll top n bits s kn ∧
  ∀ H', Ch [gl, cd, kd] H H' → RigAt C H' y gl cd (opG top n bits s kn).1 → KnAt H' kd (opG top n bits s kn).2.1 (opG top n bits s kn).1.1.length → Q (.int ((opG top n bits s kn).2.2 : Int)) H'
theorem scOG : FnScope ["rig", "leaves", "bits", "known", "mark", "half", "lower", "upper"] ["rig", "leaves", "bits", "known"] (defScope (top 16)) := ⟨rfl, rfl, rfl, by decide +kernel, rfl, by decide +kernel, by decide +kernel⟩
theorem ok_og0 {C : Addr} {sp : Sp} (F : Fun K "opened_gate" "opened_gate" (top 16) f fd) (MRig_constant : MethOk P w K mg base CX0 k C "constant" ["self", "bit"] (spConst C)) (MRig_lay : MethOk P w K mg base CX0 k C "lay" ["self", "gate"] (spLay C)) (Dopened_gate : DefOk P w K mg base CX0 k "opened_gate" ["rig", "leaves", "bits", "known"] sp) (z_len : mg "len" = none) : FnOk P w K mg base CX0 (k + 1) f fd ["rig", "leaves", "bits", "known"] (spOG C 0) := by
  have nd := scOG.nd
  refine F.ok scOG (fun vs H Q E h => by obtain ⟨y, gl, cd, kd, ll, top, bits, s, kn, rfl, _⟩ := h; rfl) (fun cdv A outer s0 H vs Q E hr h => ?_)
  obtain ⟨y, gl, cd, kd, ll, top, bits, s, kn, rfl, og, q⟩ := h
  have hu := hu_of hr
  refine ⟨_, (Pr.h (qpss_cons (qps_if (qpt_cmpR op_eq (qpe_callB call_len_seq g16_len z_len PySem.boot_len (qpa_cons (qpe_var (i := 1) rfl v16_1 d16_1 c16_1) qpa_nil se_Name) nn_len gd_len) qpe_int (nomark _))
  (qpss_one (qps_ret (qpe_methD (qpe_var (i := 0) rfl v16_0 d16_0 c16_0) MRig_constant hr pass0 (qpa_cons (qpe_var (i := 2) rfl v16_2 d16_2 c16_2) qpa_nil se_Name))))
  qpss_nil)
 (qpss_cons (qps_set (i := 4) nd rfl l16_4 (qpe_tup (qpa_cons (qpe_callB call_len_seq g16_len z_len PySem.boot_len (qpa_cons (qpe_var (i := 1) rfl v16_1 d16_1 c16_1) qpa_nil se_Name) nn_len gd_len) (qpa_cons (qpe_var (i := 2) rfl v16_2 d16_2 c16_2) qpa_nil se_Name) se_Call)))
 (qpss_cut (qps_if (qpt_dnotin hu (qpe_var (i := 4) rfl v16_4 d16_4 c16_4) (qpe_var (i := 3) rfl v16_3 d16_3 c16_3))
  (qpss_cons (qps_set (i := 5) nd rfl l16_5 (qpe_op op_shl qpe_int (qpe_op op_sub (qpe_callB call_len_seq g16_len z_len PySem.boot_len (qpa_cons (qpe_var (i := 1) rfl v16_1 d16_1 c16_1) qpa_nil se_Name) nn_len gd_len) qpe_int)))
 (qpss_cons (qps_set (i := 6) nd rfl l16_6 (qpe_callD Dopened_gate hr g16_opened_gate pass0 (qpa_cons (qpe_var (i := 0) rfl v16_0 d16_0 c16_0) (qpa_cons (qpe_slice sl_list (qpe_var (i := 1) rfl v16_1 d16_1 c16_1) qpo_none (qpo_some (qpe_un un_neg qpe_int))) (qpa_cons (qpe_op op_and (qpe_var (i := 2) rfl v16_2 d16_2 c16_2) (qpe_op op_sub (qpe_op op_shl qpe_int (qpe_var (i := 5) rfl v16_5 d16_5 c16_5)) qpe_int)) (qpa_cons (qpe_var (i := 3) rfl v16_3 d16_3 c16_3) qpa_nil se_Name) se_BinOp) se_Subscript) se_Name) gd_opened_gate))
 (qpss_cons (qps_set (i := 7) nd rfl l16_7 (qpe_callD Dopened_gate hr g16_opened_gate pass0 (qpa_cons (qpe_var (i := 0) rfl v16_0 d16_0 c16_0) (qpa_cons (qpe_slice sl_list (qpe_var (i := 1) rfl v16_1 d16_1 c16_1) qpo_none (qpo_some (qpe_un un_neg qpe_int))) (qpa_cons (qpe_op op_shr (qpe_var (i := 2) rfl v16_2 d16_2 c16_2) (qpe_var (i := 5) rfl v16_5 d16_5 c16_5)) (qpa_cons (qpe_var (i := 3) rfl v16_3 d16_3 c16_3) qpa_nil se_Name) se_BinOp) se_Subscript) se_Name) gd_opened_gate))
 (qpss_one (qps_dput hu (qpe_var (i := 3) rfl v16_3 d16_3 c16_3) (qpe_var (i := 4) rfl v16_4 d16_4 c16_4) (qpe_methD (qpe_var (i := 0) rfl v16_0 d16_0 c16_0) MRig_lay hr pass0 (qpa_cons (qpe_tup (qpa_cons qpe_str (qpa_cons (qpe_ix ixa_list (qpe_var (i := 1) rfl v16_1 d16_1 c16_1) (qpe_un un_neg qpe_int) (fun _ _ => rfl)) (qpa_cons (qpe_var (i := 7) rfl v16_7 d16_7 c16_7) (qpa_cons (qpe_var (i := 6) rfl v16_6 d16_6 c16_6) qpa_nil se_Name) se_Name) se_Subscript) se_Constant)) qpa_nil se_Tuple)) rfl)))))
  qpss_nil)
 (qpss_one (qps_ret (qpe_dgetT hu (qpe_var (i := 3) rfl v16_3 d16_3 c16_3) (qpe_var (i := 4) rfl v16_4 d16_4 c16_4) (fun _ _ => rfl)))))))), ?_⟩
  (try dsimp only [cxOf])
  have hl : H ll = some (.lst []) := og.hl
  have hb : bits < 2 := og.hb
  have eb : (bits : Int) = bi (decide (bits = 1)) := by
    have : bits = 0 ∨ bits = 1 := by omega
    rcases this with rfl | rfl <;> rfl
  have sz : s.1.length ≤ 900 := by have := og.sz; omega
  have rg := og.rg
  obtain ⟨dy, hy⟩ := rg.ob
  have f2 := fr_nc gl cd
  rw [eb]
  walk_at "rd"
  rename_i H1 c1 r1
  obtain ⟨x, _⟩ := opC_ok og.g (decide (bits = 1))
  exact q _ (Ch.mono c1 (by simp)) r1 (og.kk.ch c1 (by obtain ⟨kvs, hk, _⟩ := og.kk.ex; obtain ⟨xs, hg, _⟩ := rg.g; obtain ⟨k2, hc, _⟩ := rg.c; simp only [List.mem_cons, List.not_mem_nil, or_false, not_or]; exact ⟨ne_of hk hg (by intro z; cases z), ne_of hk hc (by intro z; cases z)⟩) x.len.1)
theorem ok_og {C : Addr} {n : Nat} (F : Fun K "opened_gate" "opened_gate" (top 16) f fd) (MRig_constant : MethOk P w K mg base CX0 k C "constant" ["self", "bit"] (spConst C)) (MRig_lay : MethOk P w K mg base CX0 k C "lay" ["self", "gate"] (spLay C)) (Dopened_gate : DefOk P w K mg base CX0 k "opened_gate" ["rig", "leaves", "bits", "known"] (spOG C n)) (z_len : mg "len" = none) : FnOk P w K mg base CX0 (k + 1) f fd ["rig", "leaves", "bits", "known"] (spOG C (n + 1)) := by
  have nd := scOG.nd
  refine F.ok scOG (fun vs H Q E h => by obtain ⟨y, gl, cd, kd, ll, top, bits, s, kn, rfl, _⟩ := h; rfl) (fun cdv A outer s0 H vs Q E hr h => ?_)
  obtain ⟨y, gl, cd, kd, ll, top, bits, s, kn, rfl, og, q⟩ := h
  have hu := hu_of hr
  refine ⟨_, (Pr.h (qpss_cons (qps_if (qpt_cmpR op_eq (qpe_callB call_len_seq g16_len z_len PySem.boot_len (qpa_cons (qpe_var (i := 1) rfl v16_1 d16_1 c16_1) qpa_nil se_Name) nn_len gd_len) qpe_int (nomark _))
  (qpss_one (qps_ret (qpe_methD (qpe_var (i := 0) rfl v16_0 d16_0 c16_0) MRig_constant hr pass0 (qpa_cons (qpe_var (i := 2) rfl v16_2 d16_2 c16_2) qpa_nil se_Name))))
  qpss_nil)
 (qpss_cons (qps_set (i := 4) nd rfl l16_4 (qpe_tup (qpa_cons (qpe_callB call_len_seq g16_len z_len PySem.boot_len (qpa_cons (qpe_var (i := 1) rfl v16_1 d16_1 c16_1) qpa_nil se_Name) nn_len gd_len) (qpa_cons (qpe_var (i := 2) rfl v16_2 d16_2 c16_2) qpa_nil se_Name) se_Call)))
 (qpss_cut (qps_if (qpt_dnotin hu (qpe_var (i := 4) rfl v16_4 d16_4 c16_4) (qpe_var (i := 3) rfl v16_3 d16_3 c16_3))
  (qpss_cons (qps_set (i := 5) nd rfl l16_5 (qpe_op op_shl qpe_int (qpe_op op_sub (qpe_callB call_len_seq g16_len z_len PySem.boot_len (qpa_cons (qpe_var (i := 1) rfl v16_1 d16_1 c16_1) qpa_nil se_Name) nn_len gd_len) qpe_int)))
 (qpss_cons (qps_set (i := 6) nd rfl l16_6 (qpe_callD Dopened_gate hr g16_opened_gate pass0 (qpa_cons (qpe_var (i := 0) rfl v16_0 d16_0 c16_0) (qpa_cons (qpe_slice sl_list (qpe_var (i := 1) rfl v16_1 d16_1 c16_1) qpo_none (qpo_some (qpe_un un_neg qpe_int))) (qpa_cons (qpe_op op_and (qpe_var (i := 2) rfl v16_2 d16_2 c16_2) (qpe_op op_sub (qpe_op op_shl qpe_int (qpe_var (i := 5) rfl v16_5 d16_5 c16_5)) qpe_int)) (qpa_cons (qpe_var (i := 3) rfl v16_3 d16_3 c16_3) qpa_nil se_Name) se_BinOp) se_Subscript) se_Name) gd_opened_gate))
 (qpss_cons (qps_set (i := 7) nd rfl l16_7 (qpe_callD Dopened_gate hr g16_opened_gate pass0 (qpa_cons (qpe_var (i := 0) rfl v16_0 d16_0 c16_0) (qpa_cons (qpe_slice sl_list (qpe_var (i := 1) rfl v16_1 d16_1 c16_1) qpo_none (qpo_some (qpe_un un_neg qpe_int))) (qpa_cons (qpe_op op_shr (qpe_var (i := 2) rfl v16_2 d16_2 c16_2) (qpe_var (i := 5) rfl v16_5 d16_5 c16_5)) (qpa_cons (qpe_var (i := 3) rfl v16_3 d16_3 c16_3) qpa_nil se_Name) se_BinOp) se_Subscript) se_Name) gd_opened_gate))
 (qpss_one (qps_dput hu (qpe_var (i := 3) rfl v16_3 d16_3 c16_3) (qpe_var (i := 4) rfl v16_4 d16_4 c16_4) (qpe_methD (qpe_var (i := 0) rfl v16_0 d16_0 c16_0) MRig_lay hr pass0 (qpa_cons (qpe_tup (qpa_cons qpe_str (qpa_cons (qpe_ix ixa_list (qpe_var (i := 1) rfl v16_1 d16_1 c16_1) (qpe_un un_neg qpe_int) (fun _ _ => rfl)) (qpa_cons (qpe_var (i := 7) rfl v16_7 d16_7 c16_7) (qpa_cons (qpe_var (i := 6) rfl v16_6 d16_6 c16_6) qpa_nil se_Name) se_Name) se_Subscript) se_Constant)) qpa_nil se_Tuple)) rfl)))))
  qpss_nil)
 (qpss_one (qps_ret (qpe_dgetT hu (qpe_var (i := 3) rfl v16_3 d16_3 c16_3) (qpe_var (i := 4) rfl v16_4 d16_4 c16_4) (fun _ _ => rfl)))))))), ?_⟩
  (try dsimp only [cxOf])
  have hl := og.hl
  have hn := og.hn
  have n4 := og.n4
  have n3 : n ≤ 3 := by omega
  obtain ⟨xs, exs⟩ : ∃ xs, (top.take (n + 1)).map nV = xs := ⟨_, rfl⟩
  rw [exs] at hl
  have el : xs.length = n + 1 := by rw [← exs, List.length_map, List.length_take]; omega
  have ecut : cutV xs none (some (-1)) = (top.take n).map nV := by
    rw [cutV_neg el, ← exs, ← List.map_take, List.take_take, Nat.min_eq_left (by omega)]
  have elast : atI xs (-1) = some (.int ((top.getD n 0 : Nat) : Int)) := by
    unfold atI ixN
    rw [if_neg (by decide), if_pos (by omega), el]
    show xs[(-1 + ((n + 1 : Nat) : Int)).toNat]? = _
    rw [show (-1 + ((n + 1 : Nat) : Int)).toNat = n by omega, ← exs, List.getElem?_map, List.getElem?_take_of_lt (by omega), List.getElem?_eq_getElem (by omega), List.getD_eq_getElem?_getD, List.getElem?_eq_getElem (by omega)]
    rfl
  obtain ⟨hf0, hf1⟩ := half n3
  walk_at "rd"
  refine ite2 (fun hc => by exfalso; have h2 := V.int.inj (of_decide_eq_true hc); omega) (fun _ => ?_)
  walk_at "rd"
  rename_i T hT
  rw [el]
  have c1 : Ch [] H (upd H T (.tup [.int ((n + 1 : Nat) : Int), .int (bits : Int)])) := Ch.new hT _
  have hmk : (upd H T (.tup [.int ((n + 1 : Nat) : Int), .int (bits : Int)])) T = some (.tup ((mkK (n + 1) bits).map kV)) := upd_same
  generalize upd H T (.tup [.int ((n + 1 : Nat) : Int), .int (bits : Int)]) = H1 at c1 hmk ⊢
  obtain ⟨kvs, hkd, kv, kl⟩ := og.kk.ex
  have hkd1 := c1.get hkd (by simp)
  have hv := kv (n + 1) bits
  have hb := og.hb
  have sz := og.sz
  have hl1 := c1.get hl (by simp)
  obtain ⟨xg, hg, _⟩ := og.rg.g
  obtain ⟨kc, hc, _⟩ := og.rg.c
  have nkg : kd ≠ gl := ne_of hkd hg (by intro z; cases z)
  have nkc : kd ≠ cd := ne_of hkd hc (by intro z; cases z)
  have nlc : ll ≠ cd := ne_of hl hc (by intro z; cases z)
  have nlk : ll ≠ kd := ne_of hl hkd (by intro z; cases z)
  have nTg : T ≠ gl := (ne_of_none hg hT).symm
  have nTc : T ≠ cd := (ne_of_none hc hT).symm
  have nTk : T ≠ kd := (ne_of_none hkd hT).symm
  walk_at "rd"
  refine cut_by (fun σ H' => ∃ u5 u6 u7, σ = [some (.ref y), some (.ref ll), some (.int (bits : Int)), some (.ref kd), some (.ref T), u5, u6, u7] ∧ Ch [gl, cd, kd] H H' ∧ RigAt C H' y gl cd (opG top (n + 1) bits s kn).1 ∧ KnAt H' kd (opG top (n + 1) bits s kn).2.1 (opG top (n + 1) bits s kn).1.1.length ∧ (opG top (n + 1) bits s kn).2.1 (n + 1) bits = some (opG top (n + 1) bits s kn).2.2 ∧ H' T = some (.tup ((mkK (n + 1) bits).map kV))) ?_ ?_
  · cases e : kn (n + 1) bits with
    | some v =>
      rw [e] at hv
      have eo : opG top (n + 1) bits s kn = (s, kn, v) := by unfold opG; rw [e]
      rw [eo]
      walk_at "rd"
      refine ⟨dget_some hkd1 hmk hv, ?_⟩
      walk_at "rd"
      exact ⟨og.rg.ch c1, og.kk.ch c1 (by simp) (Nat.le_refl _), e, hmk⟩
    | none =>
      rw [e] at hv
      have eo : opG top (n + 1) bits s kn = (((opG top n (bits / 2 ^ 2 ^ n) (opG top n (bits % 2 ^ 2 ^ n) s kn).1 (opG top n (bits % 2 ^ 2 ^ n) s kn).2.1).1.1 ++ [.pick (top.getD n 0) (opG top n (bits / 2 ^ 2 ^ n) (opG top n (bits % 2 ^ 2 ^ n) s kn).1 (opG top n (bits % 2 ^ 2 ^ n) s kn).2.1).2.2 (opG top n (bits % 2 ^ 2 ^ n) s kn).2.2], (opG top n (bits / 2 ^ 2 ^ n) (opG top n (bits % 2 ^ 2 ^ n) s kn).1 (opG top n (bits % 2 ^ 2 ^ n) s kn).2.1).1.2),
        (fun l c => if l = n + 1 ∧ c = bits then some (opG top n (bits / 2 ^ 2 ^ n) (opG top n (bits % 2 ^ 2 ^ n) s kn).1 (opG top n (bits % 2 ^ 2 ^ n) s kn).2.1).1.1.length else (opG top n (bits / 2 ^ 2 ^ n) (opG top n (bits % 2 ^ 2 ^ n) s kn).1 (opG top n (bits % 2 ^ 2 ^ n) s kn).2.1).2.1 l c), (opG top n (bits / 2 ^ 2 ^ n) (opG top n (bits % 2 ^ 2 ^ n) s kn).1 (opG top n (bits % 2 ^ 2 ^ n) s kn).2.1).1.1.length) := by rw [opG, e]
      rw [eo]
      clear eo
      have p2 : 2 ^ 2 ^ (n + 1) = 2 ^ 2 ^ n * 2 ^ 2 ^ n := by rw [← Nat.pow_add, Nat.pow_succ]; congr 1; omega
      have ba : bits % 2 ^ 2 ^ n < 2 ^ 2 ^ n := Nat.mod_lt _ (Nat.pow_pos (by decide))
      have bb : bits / 2 ^ 2 ^ n < 2 ^ 2 ^ n := Nat.div_lt_of_lt_mul (by rw [← p2]; exact hb)
      have RA := opG_ok top n (bits % 2 ^ 2 ^ n) s kn (by omega) og.ht og.g og.gk ba
      have hta : ∀ x ∈ top, x < (opG top n (bits % 2 ^ 2 ^ n) s kn).1.1.length := fun x hx => Nat.lt_of_lt_of_le (og.ht x hx) RA.x.len.1
      have RB := opG_ok top n (bits / 2 ^ 2 ^ n) (opG top n (bits % 2 ^ 2 ^ n) s kn).1 (opG top n (bits % 2 ^ 2 ^ n) s kn).2.1 (by omega) hta RA.g RA.k bb
      have la := RA.x.len
      have lb := RB.x.len
      have pw : 2 ^ (n + 1 + 1) = 2 ^ (n + 1) + 2 ^ (n + 1) := by rw [Nat.pow_succ 2 (n + 1)]; omega
      have sm : Builtin.bitAnd (bits : Int) (1 * 2 ^ (1 * 2 ^ (((xs.length : Nat) : Int) - 1).toNat : Int).toNat - 1) = ((bits % 2 ^ 2 ^ n : Nat) : Int) := by rw [el]; exact mask n3
      have hp0 : 1 ≤ 2 ^ n := Nat.one_le_two_pow
      have eqd : bits / 2 ^ (1 * 2 ^ (((xs.length : Nat) : Int) - 1).toNat : Int).toNat = bits / 2 ^ 2 ^ n := by
        rw [el]
        have e4 : n = 0 ∨ n = 1 ∨ n = 2 ∨ n = 3 := by omega
        rcases e4 with z | z | z | z <;> rw [z] <;> rfl
      have hf2 : (0 : Int) ≤ 1 * 2 ^ (((xs.length : Nat) : Int) - 1).toNat := by rw [el]; exact hf0
      have hf3 : (1 : Int) * 2 ^ (((xs.length : Nat) : Int) - 1).toNat ≤ 16 := by rw [el]; exact hf1
      walk_at "rd"
      refine ⟨dget_none hkd1 hmk hv, ?_⟩
      walk_at "rd"
      rename_i L1 hL1
      have cL : Ch [] H1 (upd H1 L1 (.lst (cutV xs none (some (-1))))) := Ch.new hL1 _
      have ogA : OGp C (upd H1 L1 (.lst (cutV xs none (some (-1))))) y gl cd kd L1 top n (bits % 2 ^ 2 ^ n) s kn :=
        ⟨(og.rg.ch c1).ch cL, by rw [upd_same, ecut], (og.kk.ch c1 (by simp) (Nat.le_refl _)).ch cL (by simp) (Nat.le_refl _), (ne_of_none (c1.get hg (by simp)) hL1).symm, by omega, n4, og.ht, og.g, og.gk, ba, by omega⟩
      refine ⟨congrArg (fun z => [V.ref y, V.ref L1, V.int z, V.ref kd]) sm, ogA, fun H2 c2 r2 k2 => ?_⟩
      have c12 : Ch [gl, cd, kd] H H2 := (Ch.mono (W := []) (c1.trans cL) (by simp)).trans c2
      have hl2 : H2 ll = some (.lst xs) := c12.get hl (by simp [og.ne, nlc, nlk])
      have hmk2 := c2.get (cL.get hmk (by simp)) (by simp [nTg, nTc, nTk])
      obtain ⟨xg2, hg2, _⟩ := r2.g
      clear ogA
      walk_at "rd"
      rename_i L2 hL2
      have cL2 : Ch [] H2 (upd H2 L2 (.lst (cutV xs none (some (-1))))) := Ch.new hL2 _
      have ogB : OGp C (upd H2 L2 (.lst (cutV xs none (some (-1))))) y gl cd kd L2 top n (bits / 2 ^ 2 ^ n) (opG top n (bits % 2 ^ 2 ^ n) s kn).1 (opG top n (bits % 2 ^ 2 ^ n) s kn).2.1 :=
        ⟨r2.ch cL2, by rw [upd_same, ecut], k2.ch cL2 (by simp) (Nat.le_refl _), (ne_of_none hg2 hL2).symm, by omega, n4, hta, RA.g, RA.k, bb, by omega⟩
      refine ⟨eqd ▸ ogB, fun H3 c3 r3 k3 => ?_⟩
      rw [eqd] at r3 k3 ⊢
      have c13 : Ch [gl, cd, kd] H H3 := (c12.trans (Ch.mono (W := []) cL2 (by simp))).trans c3
      have hl3 : H3 ll = some (.lst xs) := c13.get hl (by simp [og.ne, nlc, nlk])
      have hmk3 := c3.get (cL2.get hmk2 (by simp)) (by simp [nTg, nTc, nTk])
      obtain ⟨dy3, hy3⟩ := r3.ob
      have f2 := fr_nl gl cd
      clear ogB
      generalize opG top n (bits / 2 ^ 2 ^ n) (opG top n (bits % 2 ^ 2 ^ n) s kn).1 (opG top n (bits % 2 ^ 2 ^ n) s kn).2.1 = rb at *
      generalize opG top n (bits % 2 ^ 2 ^ n) s kn = ra at *
      obtain ⟨kvs3, hk3, kv3, kl3⟩ := k3.ex
      walk_at "rd"
      rename_i T3 hT3
      refine ⟨r3.ch (Ch.new hT3 _), (show _ = some (HO.tup (Gt.vs (.pick (top.getD n 0) rb.2.2 ra.2.2))) from upd_same), by omega, fun H4 c4 r4 => ?_⟩
      have hk4 : H4 kd = some (.dT kvs3) := c4.get (g_new hT3 hk3) (by simpa using nkg)
      have hmk4 := c4.get (g_new hT3 hmk3) (by simpa using nTg)
      have c14 : Ch [gl, cd, kd] H H4 := (c13.trans (Ch.mono (W := []) (Ch.new hT3 _) (by simp))).trans (Ch.mono (W := [gl]) c4 (by simp))
      walk_at "rd"
      refine ⟨DPut.t hk4 hmk4 (by rw [sizeLine_eq]; omega), ?_⟩
      walk_at "rd"
      refine ⟨c14.trans (Ch.mono (W := [kd]) Ch.put (by simp)), r4.dk Ch.put hk4, ⟨_, upd_same, fun l c => ?_, ?_⟩, by simp, g_put nTk hmk4⟩
      · rw [valV_put]
        dsimp only
        by_cases z : l = n + 1 ∧ c = bits
        · rw [if_pos (mkK_inj.mpr z), if_pos z]; rfl
        · rw [if_neg (fun e => z (mkK_inj.mp e)), if_neg z]; exact kv3 l c
      · exact Nat.le_trans (length_putK _ _ _) (by simp; omega)
  · rintro σ H5 ⟨u5, u6, u7, rfl, c5, r5, k5, e5, m5⟩
    obtain ⟨kvs5, hk5, kv5, _⟩ := k5.ex
    have hv5 := kv5 (n + 1) bits
    rw [e5] at hv5
    walk_at "rd"
    refine ⟨dget_some hk5 m5 hv5, ?_⟩
    exact q _ c5 r5 k5
end
end

section
def hdv (row kept tab : List Bool) (p : Plc) : Bool := match p.1 with
  | .i => row.getD p.2 false
  | .k => kept.getD p.2 false
  | .t => tab.getD p.2 false
def upT (ts : List Tb) (row kept : List Bool) : Nat → List Bool
  | 0 => []
  | i + 1 => match ts[i]? with
    | some t => upT ts row kept i ++ [tbit t.bits (t.ls.map (hdv row kept (upT ts row kept i)))]
    | none => upT ts row kept i
theorem upT_succ {ts : List Tb} {row kept : List Bool} {i : Nat} {t : Tb} (h : ts[i]? = some t) : upT ts row kept (i + 1) = upT ts row kept i ++ [tbit t.bits (t.ls.map (hdv row kept (upT ts row kept i)))] := by simp only [upT, h]
theorem upT_len {ts : List Tb} {row kept : List Bool} : ∀ {i : Nat}, i ≤ ts.length → (upT ts row kept i).length = i
  | 0, _ => rfl
  | i + 1, h => by
    have e : ts[i]? = some ts[i] := List.getElem?_eq_getElem (by omega)
    rw [upT_succ e, List.length_append, upT_len (i := i) (by omega), List.length_singleton]
def gn (ins : Nat) (nums : List Nat) (x : Plc) : Nat := match x.1 with
  | .i => x.2
  | .k => ins + x.2
  | .t => nums.getD x.2 0
def kg (k : Kp) : Gt := .keep k.f 0
def baseG (ins : Nat) (ks : List Kp) : List Gt := List.replicate ins .inp ++ ks.map kg
def opN (ins : Nat) (ks : List Kp) (ts : List Tb) : Nat → OS × List Nat
  | 0 => ((baseG ins ks, fun _ => none), [])
  | i + 1 => match ts[i]? with
    | some t => ((opG (t.ls.map (gn ins (opN ins ks ts i).2)) t.ls.length t.bits.toNat (opN ins ks ts i).1 (fun _ _ => none)).1, (opN ins ks ts i).2 ++ [(opG (t.ls.map (gn ins (opN ins ks ts i).2)) t.ls.length t.bits.toNat (opN ins ks ts i).1 (fun _ _ => none)).2.2])
    | none => opN ins ks ts i
theorem opN_succ {ins : Nat} {ks : List Kp} {ts : List Tb} {i : Nat} {t : Tb} (h : ts[i]? = some t) : opN ins ks ts (i + 1) = ((opG (t.ls.map (gn ins (opN ins ks ts i).2)) t.ls.length t.bits.toNat (opN ins ks ts i).1 (fun _ _ => none)).1, (opN ins ks ts i).2 ++ [(opG (t.ls.map (gn ins (opN ins ks ts i).2)) t.ls.length t.bits.toNat (opN ins ks ts i).1 (fun _ _ => none)).2.2]) := by simp only [opN, h]
section
variable {row kept : List Bool}
theorem run_inp : ∀ n : Nat, run row kept (List.replicate n .inp) = ((List.range n).map (fun j => row.getD j false), n, 0)
  | 0 => rfl
  | n + 1 => by rw [List.replicate_succ', run_snoc, run_inp n, List.range_succ]; simp [step]
theorem run_base (ins : Nat) (ks : List Kp) : ∀ j, j ≤ ks.length → run row kept (List.replicate ins .inp ++ (ks.take j).map kg) = ((List.range ins).map (fun j => row.getD j false) ++ (List.range j).map (fun j => kept.getD j false), ins, j)
  | 0, _ => by rw [List.take_zero]; simp [run_inp]
  | j + 1, h => by
    rw [List.take_add_one, List.getElem?_eq_getElem (by omega), List.map_append, ← List.append_assoc]
    show run row kept (_ ++ [kg _]) = _
    rw [run_snoc, run_base ins ks j (by omega), List.range_succ]
    simp [step, kg]
theorem base_vl (ins : Nat) (ks : List Kp) (x : Plc) (nums : List Nat) (h : x.2 < lim ins ks.length 0 x.1) : gn ins nums x < (baseG ins ks).length ∧ vl (baseG ins ks) row kept (gn ins nums x) = hdv row kept [] x := by
  have e := run_base (row := row) (kept := kept) ins ks ks.length (Nat.le_refl _)
  rw [List.take_length] at e
  have lb : (baseG ins ks).length = ins + ks.length := by simp [baseG]
  have ev : (run row kept (baseG ins ks)).1 = (List.range ins).map (fun j => row.getD j false) ++ (List.range ks.length).map (fun j => kept.getD j false) := by unfold baseG; rw [e]
  obtain ⟨x, n⟩ := x
  cases x with
  | i =>
    have h : n < ins := h
    refine ⟨by rw [lb]; show n < _; omega, ?_⟩
    show (run row kept (baseG ins ks)).1.getD n false = row.getD n false
    rw [ev, getD_app (by simpa using h), List.getD_eq_getElem?_getD, List.getElem?_map, List.getElem?_range h]
    rfl
  | k =>
    have h : n < ks.length := h
    refine ⟨by rw [lb]; show ins + n < _; omega, ?_⟩
    show (run row kept (baseG ins ks)).1.getD (ins + n) false = kept.getD n false
    rw [ev, List.getD_eq_getElem?_getD, List.getElem?_append_right (by simp), List.getElem?_map]
    have : ins + n - ((List.range ins).map (fun j => row.getD j false)).length = n := by simp
    rw [this, List.getElem?_range h]
    rfl
  | t => exact absurd h (Nat.not_lt_zero _)
end
theorem tbit_tb {b : Int} (h : 0 ≤ b) (bs : List Bool) : tbit b bs = tb b.toNat bs := by
  obtain ⟨n, rfl⟩ := Int.eq_ofNat_of_zero_le h
  unfold tbit tb
  rw [Int.toNat_natCast, Nat.testBit_eq_decide_div_mod_eq]
  congr 1
  exact propext ⟨fun z => by exact_mod_cast z, fun z => by exact_mod_cast z⟩
theorem room_pow {n : Nat} (h : n ≤ 4) : room n = ((2 ^ 2 ^ n : Nat) : Int) := by
  have e5 : n = 0 ∨ n = 1 ∨ n = 2 ∨ n = 3 ∨ n = 4 := by omega
  rcases e5 with rfl | rfl | rfl | rfl | rfl <;> rfl
structure ON (ins : Nat) (ks : List Kp) (ts : List Tb) (i : Nat) (p : OS × List Nat) : Prop where
  g : Good p.1
  x : Ext (baseG ins ks) p.1.1 (31 * i)
  l : p.2.length = i
  v : ∀ x : Plc, x.2 < lim ins ks.length i x.1 → gn ins p.2 x < p.1.1.length ∧ ∀ row kept, vl p.1.1 row kept (gn ins p.2 x) = hdv row kept (upT ts row kept i) x
theorem on_all {ins : Nat} {ks : List Kp} {ts : List Tb} (hok : ∀ (i : Nat) (t : Tb), ts[i]? = some t → t.ok ins ks.length i) : ∀ i, i ≤ ts.length → ON ins ks ts i (opN ins ks ts i)
  | 0, _ => ⟨⟨fun b n h => by cases h⟩, Ext.refl _ _, rfl, fun x h => ⟨(base_vl (row := []) (kept := []) ins ks x [] h).1, fun row kept => (base_vl ins ks x [] h).2⟩⟩
  | i + 1, h => by
    have A := on_all hok i (by omega)
    have et : ts[i]? = some ts[i] := List.getElem?_eq_getElem (by omega)
    obtain ⟨l4, lo, b0, b1⟩ := hok i _ et
    rw [opN_succ et]
    generalize opN ins ks ts i = p at *
    generalize ts[i] = t at *
    have ht : ∀ y ∈ t.ls.map (gn ins p.2), y < p.1.1.length := fun y hy => by
      obtain ⟨x, hx, rfl⟩ := List.mem_map.mp hy
      exact (A.v x (lo x hx)).1
    have bl : t.bits.toNat < 2 ^ 2 ^ t.ls.length := by rw [room_pow l4] at b1; omega
    have R := opG_ok (t.ls.map (gn ins p.2)) t.ls.length t.bits.toNat p.1 (fun _ _ => none) (by simp) ht A.g ⟨fun l c n z => by cases z⟩ bl
    generalize opG (t.ls.map (gn ins p.2)) t.ls.length t.bits.toNat p.1 (fun _ _ => none) = r at *
    have e31 : 2 ^ (t.ls.length + 1) - 1 ≤ 31 := by
      have : 2 ^ (t.ls.length + 1) ≤ 2 ^ 5 := Nat.pow_le_pow_right (by decide) (by omega)
      omega
    refine ⟨R.g, A.x.trans R.x (by omega), by simp [A.l], fun x hx => ?_⟩
    have old : ∀ x : Plc, x.2 < lim ins ks.length i x.1 → gn ins (p.2 ++ [r.2.2]) x = gn ins p.2 x := fun x hx => by
      obtain ⟨x, n⟩ := x
      cases x with
      | i => rfl
      | k => rfl
      | t =>
        have hx : n < i := hx
        show (p.2 ++ [r.2.2]).getD n 0 = p.2.getD n 0
        simp [List.getD_eq_getElem?_getD, List.getElem?_append_left (show n < p.2.length by rw [A.l]; exact hx)]
    have keep : ∀ x : Plc, x.2 < lim ins ks.length i x.1 → gn ins (p.2 ++ [r.2.2]) x < r.1.1.length ∧ ∀ row kept, vl r.1.1 row kept (gn ins (p.2 ++ [r.2.2]) x) = hdv row kept (upT ts row kept (i + 1)) x := fun x hx => by
      obtain ⟨a, b⟩ := A.v x hx
      rw [old x hx]
      refine ⟨Nat.lt_of_lt_of_le a R.x.len.1, fun row kept => ?_⟩
      rw [R.x.vl a, b]
      obtain ⟨x, n⟩ := x
      cases x with
      | i => rfl
      | k => rfl
      | t =>
        have hx : n < i := hx
        show (upT ts row kept i).getD n false = (upT ts row kept (i + 1)).getD n false
        rw [upT_succ et, getD_app (by rw [upT_len (by omega)]; exact hx)]
    obtain ⟨x, n⟩ := x
    cases x with
    | i => exact keep (.i, n) hx
    | k => exact keep (.k, n) hx
    | t =>
      have hx : n < i + 1 := hx
      by_cases z : n < i
      · exact keep (.t, n) z
      · obtain rfl : n = i := by omega
        have e1 : gn ins (p.2 ++ [r.2.2]) (.t, n) = r.2.2 := by
          show (p.2 ++ [r.2.2]).getD n 0 = r.2.2
          rw [← A.l]
          simp [List.getD_eq_getElem?_getD]
        rw [e1]
        refine ⟨R.l, fun row kept => ?_⟩
        rw [R.v]
        show _ = (upT ts row kept (n + 1)).getD n false
        have ul := upT_len (ts := ts) (row := row) (kept := kept) (i := n) (by omega)
        rw [upT_succ et]
        have : (upT ts row kept n ++ [tbit t.bits (t.ls.map (hdv row kept (upT ts row kept n)))]).getD n false = tbit t.bits (t.ls.map (hdv row kept (upT ts row kept n))) := by
          conv => lhs; arg 2; rw [← ul]
          exact getD_last
        rw [this, tbit_tb b0]
        congr 1
        rw [List.take_of_length_le (by simp), List.map_map]
        exact List.map_congr_left fun x hx => (A.v x (lo x hx)).2 row kept
structure NF (gs : List Gt) (ins : Nat) (ts : List Tb) (ks : List Kp) (nums : List Nat) : Prop where
  sh : ∃ t, gs = List.replicate ins .inp ++ ks.map (fun k => .keep k.f (gn ins nums k.pl)) ++ t ∧ ∀ g ∈ t, g.plain = true
  v : ∀ x : Plc, x.2 < lim ins ks.length ts.length x.1 → gn ins nums x < gs.length ∧ ∀ row kept, vl gs row kept (gn ins nums x) = hdv row kept (upT ts row kept ts.length) x
  ok : ∀ (i : Nat) (a b c : Nat), gs[i]? = some (.pick a b c) → a < i ∧ b < i ∧ c < i
  ln : gs.length ≤ 500
theorem mid_get {α : Type} {A B t : List α} {j n : Nat} (hn : A.length = n) (h : j < B.length) : (A ++ B ++ t)[n + j]? = B[j]? := by
  subst hn
  rw [List.getElem?_append_left (by rw [List.length_append]; omega), List.getElem?_append_right (by omega), Nat.add_sub_cancel_left]
theorem Fed.shape {ins : Nat} {ks : List Kp} {t gs' : List Gt} {as : List Nat} {h : Kp → Nat} (ha : as = ks.map h) (f : Fed (baseG ins ks ++ t) gs' ins ks.length as) : gs' = List.replicate ins .inp ++ ks.map (fun k => .keep k.f (h k)) ++ t := by
  refine List.ext_getElem? fun i => ?_
  rw [f.at_]
  unfold baseG
  by_cases h1 : i < ins
  · rw [if_neg (by omega), List.append_assoc, List.append_assoc, List.getElem?_append_left (by simpa using h1), List.getElem?_append_left (by simpa using h1)]
  · by_cases h2 : i < ins + ks.length
    · obtain ⟨j, rfl⟩ : ∃ j, i = ins + j := ⟨i - ins, by omega⟩
      have hj : j < ks.length := by omega
      rw [if_pos (by omega), mid_get (by simp) (by simpa using hj), mid_get (by simp) (by simpa using hj), List.getElem?_map, List.getElem?_map, List.getElem?_eq_getElem hj, Nat.add_sub_cancel_left, ha, List.getD_eq_getElem?_getD, List.getElem?_map, List.getElem?_eq_getElem hj]
      rfl
    · rw [if_neg (by omega), List.getElem?_append_right (by simp; omega), List.getElem?_append_right (by simp; omega)]
      simp
theorem nf_of {ins : Nat} {ks : List Kp} {ts : List Tb} {gs' : List Gt} {p : OS × List Nat} (hok : OkP (baseG ins ks) ) (A : ON ins ks ts ts.length p) (l12 : ts.length ≤ 12) (i12 : ins ≤ 12) (k12 : ks.length ≤ 12) (f : Fed p.1.1 gs' ins ks.length (ks.map fun k => gn ins p.2 k.pl)) : NF gs' ins ts ks p.2 := by
  obtain ⟨t, et, lt, pt⟩ := A.x.ex
  have vv : ∀ row kept n, vl gs' row kept n = vl p.1.1 row kept n := fun row kept n => by unfold vl; rw [← run_er gs', f.er, run_er]
  refine ⟨⟨t, (et ▸ f).shape rfl, pt⟩, fun x hx => ?_, fun i a b c e => ?_, ?_⟩
  · obtain ⟨a, b⟩ := A.v x hx
    exact ⟨by rw [f.len]; exact a, fun row kept => by rw [vv]; exact b row kept⟩
  · rw [f.at_] at e
    refine A.x.ok hok i a b c ?_
    split at e
    · cases z : p.1.1[i]? with
      | none => rw [z] at e; cases e
      | some g =>
        rw [z] at e
        cases g with
        | keep f a => cases e
        | _ => exact e
    · exact e
  · rw [f.len, et, List.length_append]
    have : (baseG ins ks).length = ins + ks.length := by simp [baseG]
    omega
theorem okp_base (ins : Nat) (ks : List Kp) : OkP (baseG ins ks) := fun i a b c e => by
  have := List.mem_of_getElem? e
  unfold baseG at this
  rcases List.mem_append.mp this with z | z
  · cases (List.mem_replicate.mp z).2
  · obtain ⟨k, _, z⟩ := List.mem_map.mp z
    cases z
end

section
theorem qpe_makeD0 {X : Cx} {CX : CXT} {k : Nat} {C : Addr} {x : Str} {ps : List Str} {sp : Sp} {E : XK} {p pos : Pos} (D : MakeOk X.prog X.w X.K X.mg X.base CX k C x ps sp) (hr : Room (k + 1) X.A) (hg : Gl X x) (hx : Passes CX X E) (hdb : (x == ("__debug__" : Str)) = false := by decide) :
    Pr (PE X (.Call (.Name x p) [] [] pos) (tMake C sp [] E tNil)) := by
  obtain ⟨f, fd, F, b, M, hm⟩ := D.ex
  exact ⟨pe_make0 M F hr hg hm b .nil hx hdb⟩
theorem Ch.forget {W : List Addr} {H H' : Hp} (c : Ch W H H') (h : ∀ w ∈ W, H w = none) : Ch [] H H' := fun a o e _ => c a o e fun z => by rw [h a z] at e; cases e
theorem Ch.inst {H : Hp} {x dx C : Addr} (hx : H x = none) (hd : H dx = none) (n : dx ≠ x) : Ch [] H (upd (upd H dx (.own x)) x (.ins C dx [])) := (Ch.new hd _).trans (Ch.new (by rw [upd_ne n.symm]; exact hx) _)
theorem Ch.drop {W W' : List Addr} {H H' : Hp} (c : Ch W H H') (h : ∀ w ∈ W, w ∈ W' ∨ H w = none) : Ch W' H H' := fun a o e n => c a o e fun z => by
  rcases h a z with q | q
  · exact n q
  · rw [q] at e; cases e
theorem plK_inj {x y : Plc} : plK x = plK y ↔ x = y := by
  obtain ⟨x, n⟩ := x
  obtain ⟨y, m⟩ := y
  constructor
  · intro h
    unfold plK at h
    simp only [List.cons.injEq, Sum.inr.injEq, Sum.inl.injEq, and_true] at h
    obtain ⟨h1, h2⟩ := h
    have : x = y := by cases x <;> cases y <;> first | rfl | (exact absurd h1 (by decide +kernel))
    subst this
    have : n = m := by omega
    subst this
    rfl
  · intro h; rw [h]
structure GdAt (H : Hp) (gd : Addr) (ins a b : Nat) (nums : List Nat) : Prop where
  ex : ∃ kvs, H gd = some (.dT kvs) ∧ (∀ x : Plc, x.2 < lim a b nums.length x.1 → valV kvs (plK x) = some (nV (gn ins nums x))) ∧ kvs.length ≤ a + b + nums.length
theorem gd_put {kvs : List (List Key × V)} {ins a b a' b' : Nat} {nums nums' : List Nat} {y : Plc} {v : Nat} (h : ∀ x : Plc, x.2 < lim a b nums.length x.1 → valV kvs (plK x) = some (nV (gn ins nums x))) (hv : gn ins nums' y = v)
    (hold : ∀ x : Plc, x.2 < lim a' b' nums'.length x.1 → x ≠ y → x.2 < lim a b nums.length x.1 ∧ gn ins nums' x = gn ins nums x) : ∀ x : Plc, x.2 < lim a' b' nums'.length x.1 → valV (putK kvs (plK y) (nV v)) (plK x) = some (nV (gn ins nums' x)) := fun x hx => by
  rw [valV_put]
  by_cases z : x = y
  · rw [if_pos (by rw [z]), z, hv]
  · obtain ⟨p, e⟩ := hold x hx z
    rw [if_neg (fun q => z (plK_inj.mp q)), h x p, e]
structure OW (CR : Addr) (H H' : Hp) (y gl cd gd : Addr) (s : OS) (ins a b : Nat) (nums : List Nat) : Prop where
  ch : Ch [] H H'
  rg : RigAt CR H' y gl cd s
  gd : GdAt H' gd ins a b nums
structure OF (H : Hp) (gl cd gd : Addr) : Prop where
  g : H gl = none
  c : H cd = none
  d : H gd = none
theorem RigAt.ndk {C : Addr} {H : Hp} {y gl cd kd : Addr} {s : OS} {kvs : List (List Key × V)} (r : RigAt C H y gl cd s) (hk : H kd = some (.dT kvs)) : kd ≠ gl ∧ kd ≠ cd := by
  obtain ⟨xs, hg, _⟩ := r.g
  obtain ⟨k, hc, _⟩ := r.c
  exact ⟨ne_of hk hg (by intro z; cases z), ne_of hk hc (by intro z; cases z)⟩
theorem OW.put {CR : Addr} {H H' H3 : Hp} {y gl cd gd T2 : Addr} {s s' : OS} {ins a b a' b' v : Nat} {nums nums' : List Nat} {kvs : List (List Key × V)} {x : Plc} (ow : OW CR H H' y gl cd gd s ins a b nums) (of : OF H gl cd gd) (c3 : Ch [gl, cd] H' H3) (r3 : RigAt CR H3 y gl cd s') (hT2 : H3 T2 = none) (hk : H3 gd = some (.dT kvs)) (hk' : H' gd = some (.dT kvs)) (hv : gn ins nums' x = v)
    (hold : ∀ z : Plc, z.2 < lim a' b' nums'.length z.1 → z ≠ x → z.2 < lim a b nums.length z.1 ∧ gn ins nums' z = gn ins nums z) (hl : a + b + nums.length + 1 ≤ a' + b' + nums'.length) : OW CR H (upd (upd H3 T2 (.tup ((plK x).map kV))) gd (.dT (putK kvs (plK x) (nV v)))) y gl cd gd s' ins a' b' nums' := by
  have hk2 : (upd H3 T2 (.tup ((plK x).map kV))) gd = some (.dT kvs) := g_new hT2 hk
  obtain ⟨kvs', e, h1, h2⟩ := ow.gd.ex
  rw [hk'] at e
  cases e
  have c : Ch [gl, cd, gd] H (upd (upd H3 T2 (.tup ((plK x).map kV))) gd (.dT (putK kvs (plK x) (nV v)))) := ((Ch.mono (W := []) ow.ch (by simp)).trans (Ch.mono c3 (by simp))).trans ((Ch.mono (W := []) (Ch.new hT2 _) (by simp)).trans (Ch.mono (W := [gd]) Ch.put (by simp)))
  refine ⟨Ch.forget c (by simp only [List.mem_cons, List.not_mem_nil, or_false]; rintro w (rfl | rfl | rfl); exact of.g; exact of.c; exact of.d), (r3.ch (Ch.new hT2 _)).dk Ch.put hk2, ⟨_, upd_same, gd_put h1 hv hold, Nat.le_trans (length_putK _ _ _) (by omega)⟩⟩
section
variable {P : Program} {w : World} {K : PySem.W.Frag} {mg : Str → Option Value} {base : Heap} {f : Addr} {fd : FuncData} {k : Nat}
theorem gd_Rig : Nd "Rig" := by decide +kernel
theorem gd_Net : Nd "Net" := by decide +kernel
theorem l17_1 : Lc (defScope (top 17)) "rig" := by decide +kernel
theorem g17_Rig : Gi (defScope (top 17)) "Rig" := by decide +kernel
theorem l17_2 : Lc (defScope (top 17)) "gates" := by decide +kernel
theorem g17_range : Gi (defScope (top 17)) "range" := by decide +kernel
theorem v17_0 : Vs (defScope (top 17)) "tables" := by decide +kernel
theorem d17_0 : Nd "tables" := by decide +kernel
theorem c17_0 : Nc "tables" := by decide +kernel
theorem l17_3 : Lc (defScope (top 17)) "number" := by decide +kernel
theorem v17_2 : Vs (defScope (top 17)) "gates" := by decide +kernel
theorem d17_2 : Nd "gates" := by decide +kernel
theorem c17_2 : Nc "gates" := by decide +kernel
theorem v17_3 : Vs (defScope (top 17)) "number" := by decide +kernel
theorem d17_3 : Nd "number" := by decide +kernel
theorem c17_3 : Nc "number" := by decide +kernel
theorem v17_1 : Vs (defScope (top 17)) "rig" := by decide +kernel
theorem d17_1 : Nd "rig" := by decide +kernel
theorem c17_1 : Nc "rig" := by decide +kernel
theorem g17_enumerate : Gi (defScope (top 17)) "enumerate" := by decide +kernel
theorem l17_4 : Lc (defScope (top 17)) "keep" := by decide +kernel
theorem v17_4 : Vs (defScope (top 17)) "keep" := by decide +kernel
theorem d17_4 : Nd "keep" := by decide +kernel
theorem c17_4 : Nc "keep" := by decide +kernel
theorem l17_5 : Lc (defScope (top 17)) "table" := by decide +kernel
theorem g17_opened_gate : Gi (defScope (top 17)) "opened_gate" := by decide +kernel
theorem v17_5 : Vs (defScope (top 17)) "table" := by decide +kernel
theorem d17_5 : Nd "table" := by decide +kernel
theorem c17_5 : Nc "table" := by decide +kernel
def csc17_0 : Scope := { kind := PySem.ScopeKind.function, names := [ (PySem.Str.ofString ".0", PySem.NameKind.local), (PySem.Str.ofString "leaf", PySem.NameKind.local), (PySem.Str.ofString "gates", PySem.NameKind.free)], isGenerator := false, isCoroutine := false, more := [] : PySem.Scope }
theorem cok17_0 : CompOk csc17_0 (defScope (top 17)) (["leaf"] : List Str) (["tables", "rig", "gates", "number", "keep", "table", "keeps", "numbers"] : List Str) [2] (["leaf", "gates"] : List Str) := compOk rfl (by decide +kernel) (by decide +kernel) (by decide +kernel) (by decide +kernel) rfl (by decide +kernel)
theorem kq17_0_0 : (relab csc17_0 (defScope (top 17))).names.lookup (Str.ofString "leaf") = some NameKind.local := by decide +kernel
theorem vq17_0_1 : Vs (relab csc17_0 (defScope (top 17))) "gates" := by decide +kernel
theorem dq17_0_1 : Nd "gates" := by decide +kernel
theorem cq17_0_1 : Nc "gates" := by decide +kernel
theorem vq17_0_0 : Vs (relab csc17_0 (defScope (top 17))) "leaf" := by decide +kernel
theorem dq17_0_0 : Nd "leaf" := by decide +kernel
theorem cq17_0_0 : Nc "leaf" := by decide +kernel
theorem l17_6 : Lc (defScope (top 17)) "keeps" := by decide +kernel
theorem g17_len : Gi (defScope (top 17)) "len" := by decide +kernel
def csc17_1 : Scope := { kind := PySem.ScopeKind.function, names := [ (PySem.Str.ofString ".0", PySem.NameKind.local), (PySem.Str.ofString "number", PySem.NameKind.local), (PySem.Str.ofString "gates", PySem.NameKind.free)], isGenerator := false, isCoroutine := false, more := [] : PySem.Scope }
theorem cok17_1 : CompOk csc17_1 (defScope (top 17)) (["number"] : List Str) (["tables", "rig", "gates", "number", "keep", "table", "keeps", "numbers"] : List Str) [2] (["number", "gates"] : List Str) := compOk rfl (by decide +kernel) (by decide +kernel) (by decide +kernel) (by decide +kernel) rfl (by decide +kernel)
theorem kq17_1_0 : (relab csc17_1 (defScope (top 17))).names.lookup (Str.ofString "number") = some NameKind.local := by decide +kernel
theorem vq17_1_1 : Vs (relab csc17_1 (defScope (top 17))) "gates" := by decide +kernel
theorem dq17_1_1 : Nd "gates" := by decide +kernel
theorem cq17_1_1 : Nc "gates" := by decide +kernel
theorem vq17_1_0 : Vs (relab csc17_1 (defScope (top 17))) "number" := by decide +kernel
theorem dq17_1_0 : Nd "number" := by decide +kernel
theorem cq17_1_0 : Nc "number" := by decide +kernel
def csc17_2 : Scope := { kind := PySem.ScopeKind.function, names := [ (PySem.Str.ofString ".0", PySem.NameKind.local), (PySem.Str.ofString "first", PySem.NameKind.local), (PySem.Str.ofString "place", PySem.NameKind.local), (PySem.Str.ofString "gates", PySem.NameKind.free)], isGenerator := false, isCoroutine := false, more := [] : PySem.Scope }
theorem cok17_2 : CompOk csc17_2 (defScope (top 17)) (["first", "place"] : List Str) (["tables", "rig", "gates", "number", "keep", "table", "keeps", "numbers"] : List Str) [2] (["first", "place", "gates"] : List Str) := compOk rfl (by decide +kernel) (by decide +kernel) (by decide +kernel) (by decide +kernel) rfl (by decide +kernel)
theorem kq17_2_1 : (relab csc17_2 (defScope (top 17))).names.lookup (Str.ofString "place") = some NameKind.local := by decide +kernel
theorem kq17_2_0 : (relab csc17_2 (defScope (top 17))).names.lookup (Str.ofString "first") = some NameKind.local := by decide +kernel
theorem vq17_2_2 : Vs (relab csc17_2 (defScope (top 17))) "gates" := by decide +kernel
theorem dq17_2_2 : Nd "gates" := by decide +kernel
theorem cq17_2_2 : Nc "gates" := by decide +kernel
theorem vq17_2_1 : Vs (relab csc17_2 (defScope (top 17))) "place" := by decide +kernel
theorem dq17_2_1 : Nd "place" := by decide +kernel
theorem cq17_2_1 : Nc "place" := by decide +kernel
theorem v17_6 : Vs (defScope (top 17)) "keeps" := by decide +kernel
theorem d17_6 : Nd "keeps" := by decide +kernel
theorem c17_6 : Nc "keeps" := by decide +kernel
theorem l17_7 : Lc (defScope (top 17)) "numbers" := by decide +kernel
def csc17_3 : Scope := { kind := PySem.ScopeKind.function, names := [ (PySem.Str.ofString ".0", PySem.NameKind.local), (PySem.Str.ofString "number", PySem.NameKind.local), (PySem.Str.ofString "gates", PySem.NameKind.free)], isGenerator := false, isCoroutine := false, more := [] : PySem.Scope }
theorem cok17_3 : CompOk csc17_3 (defScope (top 17)) (["number"] : List Str) (["tables", "rig", "gates", "number", "keep", "table", "keeps", "numbers"] : List Str) [2] (["number", "gates"] : List Str) := compOk rfl (by decide +kernel) (by decide +kernel) (by decide +kernel) (by decide +kernel) rfl (by decide +kernel)
theorem kq17_3_0 : (relab csc17_3 (defScope (top 17))).names.lookup (Str.ofString "number") = some NameKind.local := by decide +kernel
theorem vq17_3_1 : Vs (relab csc17_3 (defScope (top 17))) "gates" := by decide +kernel
theorem dq17_3_1 : Nd "gates" := by decide +kernel
theorem cq17_3_1 : Nc "gates" := by decide +kernel
theorem vq17_3_0 : Vs (relab csc17_3 (defScope (top 17))) "number" := by decide +kernel
theorem dq17_3_0 : Nd "number" := by decide +kernel
theorem cq17_3_0 : Nc "number" := by decide +kernel
theorem v17_7 : Vs (defScope (top 17)) "numbers" := by decide +kernel
theorem d17_7 : Nd "numbers" := by decide +kernel
theorem c17_7 : Nc "numbers" := by decide +kernel
theorem g17_Net : Gi (defScope (top 17)) "Net" := by decide +kernel
def csc17_4 : Scope := { kind := PySem.ScopeKind.function, names := [ (PySem.Str.ofString ".0", PySem.NameKind.local), (PySem.Str.ofString "out", PySem.NameKind.local), (PySem.Str.ofString "gates", PySem.NameKind.free)], isGenerator := false, isCoroutine := false, more := [] : PySem.Scope }
theorem cok17_4 : CompOk csc17_4 (defScope (top 17)) (["out"] : List Str) (["tables", "rig", "gates", "number", "keep", "table", "keeps", "numbers"] : List Str) [2] (["out", "gates"] : List Str) := compOk rfl (by decide +kernel) (by decide +kernel) (by decide +kernel) (by decide +kernel) rfl (by decide +kernel)
theorem kq17_4_0 : (relab csc17_4 (defScope (top 17))).names.lookup (Str.ofString "out") = some NameKind.local := by decide +kernel
theorem vq17_4_1 : Vs (relab csc17_4 (defScope (top 17))) "gates" := by decide +kernel
theorem dq17_4_1 : Nd "gates" := by decide +kernel
theorem cq17_4_1 : Nc "gates" := by decide +kernel
theorem vq17_4_0 : Vs (relab csc17_4 (defScope (top 17))) "out" := by decide +kernel
theorem dq17_4_0 : Nd "out" := by decide +kernel
theorem cq17_4_0 : Nc "out" := by decide +kernel
def spON (CT CN : Addr) : Sp := fun vs H Q _ => ∃ (x tt kt ot : Addr) (ins : Nat) (ts : List Tb) (ks : List Kp) (os : List Plc), vs = [.ref x] ∧ TlAt CT H x ins tt kt ot ts ks os ∧ Okd ins ts ks os ∧
  ∀ (R nt nl gp op : Addr) (gs : List Gt) (xs : List V) (H' : Hp), Ch [] H H' → H nl = none → NF gs ins ts ks (opN ins ks ts ts.length).2 → NetAt CN H' nt gp op gs xs (os.map (gn ins (opN ins ks ts ts.length).2)) → H' R = some (.tup [.ref nt, .ref nl]) → H' nl = some (.lst ((opN ins ks ts ts.length).2.map nV)) → Q (.ref R) H'
theorem scON : FnScope ["tables", "rig", "gates", "number", "keep", "table", "keeps", "numbers"] ["tables"] (defScope (top 17)) := ⟨rfl, rfl, rfl, by decide +kernel, rfl, by decide +kernel, by decide +kernel⟩
theorem ok_on {CT CN CR : Addr} (F : Fun K "opened_net" "opened_net" (top 17) f fd) (clT : Cls K CT) (tI : NoAttr K CT "ins") (tT : NoAttr K CT "tables") (tK : NoAttr K CT "keeps") (tO : NoAttr K CT "outs") (clR : Cls K CR) (rG : NoAttr K CR "gates")
    (MkRig : MakeOk P w K mg base CX0 k CR "Rig" ["self"] (spRig CR)) (MkNet : MakeOk P w K mg base CX0 k CN "Net" ["self", "gates", "outs"] (spNet CN)) (MRig_lay : MethOk P w K mg base CX0 (k + 1) CR "lay" ["self", "gate"] (spLay CR)) (MRig_feed_keeper : MethOk P w K mg base CX0 (k + 1) CR "feed_keeper" ["self", "numbers", "bits"] (spFeed CR))
    (Dopened_gate : DefOk P w K mg base CX0 (k + 1) "opened_gate" ["rig", "leaves", "bits", "known"] (fun vs H Q E => ∃ n, spOG CR n vs H Q E)) (z_range : mg "range" = none) (z_len : mg "len" = none) (z_enumerate : mg "enumerate" = none) : FnOk P w K mg base CX0 (k + 2) f fd ["tables"] (spON CT CN) := by
  have nd := scON.nd
  refine F.ok scON (fun vs H Q E h => by obtain ⟨x, tt, kt, ot, ins, ts, ks, os, rfl, _⟩ := h; rfl) (fun cdv A outer s0 H vs Q E hr h => ?_)
  obtain ⟨x, tt, kt, ot, ins, ts, ks, os, rfl, ⟨⟨dx, hx⟩, tp⟩, ok, q⟩ := h
  have hu := hu_of hr
  have hrm := hr
  refine ⟨_, (Pr.h (qpss_cons (qps_set (i := 1) nd rfl l17_1 (qpe_makeD0 MkRig hrm g17_Rig pass0 gd_Rig))
 (qpss_cons (qps_set (i := 2) nd rfl l17_2 qpe_dnewT)
 (qpss_cons (qps_loop PassesOwn.never rfl (qpi_range1 g17_range z_range (qpa_cons (qpe_fld (qpe_var (i := 0) rfl v17_0 d17_0 c17_0) rfl) qpa_nil se_Attribute)) (qpg_name (i := 3) nd rfl l17_3)
  (qpss_one (qps_dput hu (qpe_var (i := 2) rfl v17_2 d17_2 c17_2) (qpe_tup (qpa_cons qpe_str (qpa_cons (qpe_var (i := 3) rfl v17_3 d17_3 c17_3) qpa_nil se_Name) se_Constant)) (qpe_methD (qpe_var (i := 1) rfl v17_1 d17_1 c17_1) MRig_lay hr pass0 (qpa_cons (qpe_tup (qpa_cons qpe_str qpa_nil se_Constant)) qpa_nil se_Tuple)) rfl)))
 (qpss_cons (qps_loop PassesOwn.never rfl (qpi_enum .tuple g17_enumerate z_enumerate (qpa_cons (qpe_fld (qpe_var (i := 0) rfl v17_0 d17_0 c17_0) rfl) qpa_nil se_Attribute)) (qpg_tup rfl (qpgs_cons (qpg_name (i := 3) nd rfl l17_3) (qpgs_cons (qpg_name (i := 4) nd rfl l17_4) qpgs_nil)))
  (qpss_one (qps_dput hu (qpe_var (i := 2) rfl v17_2 d17_2 c17_2) (qpe_tup (qpa_cons qpe_str (qpa_cons (qpe_var (i := 3) rfl v17_3 d17_3 c17_3) qpa_nil se_Name) se_Constant)) (qpe_methD (qpe_var (i := 1) rfl v17_1 d17_1 c17_1) MRig_lay hr pass0 (qpa_cons (qpe_tup (qpa_cons qpe_str (qpa_cons (qpe_ix ixa_tup (qpe_var (i := 4) rfl v17_4 d17_4 c17_4) qpe_int (fun _ _ => rfl)) (qpa_cons qpe_int qpa_nil se_Constant) se_Subscript) se_Constant)) qpa_nil se_Tuple)) rfl)))
 (qpss_cons (qps_loop PassesOwn.never rfl (qpi_enum .tuple g17_enumerate z_enumerate (qpa_cons (qpe_fld (qpe_var (i := 0) rfl v17_0 d17_0 c17_0) rfl) qpa_nil se_Attribute)) (qpg_tup rfl (qpgs_cons (qpg_name (i := 3) nd rfl l17_3) (qpgs_cons (qpg_name (i := 5) nd rfl l17_5) qpgs_nil)))
  (qpss_one (qps_dput hu (qpe_var (i := 2) rfl v17_2 d17_2 c17_2) (qpe_tup (qpa_cons qpe_str (qpa_cons (qpe_var (i := 3) rfl v17_3 d17_3 c17_3) qpa_nil se_Name) se_Constant)) (qpe_callD Dopened_gate hr g17_opened_gate pass0 (qpa_cons (qpe_var (i := 1) rfl v17_1 d17_1 c17_1) (qpa_cons (qpe_comp rfl cok17_0 (qpi_tup (qpe_ix ixa_tup (qpe_var (i := 5) rfl v17_5 d17_5 c17_5) qpe_int (fun _ _ => rfl))) (fun _ _ _ _ _ => (qpg_name (i := 0) cok17_0.nd rfl (Or.inl kq17_0_0) (Or.inr kq17_0_0))) (fun _ _ _ _ _ => qpif_nil) (fun _ _ _ _ _ => (qpe_dgetT hu (qpe_var (i := 1) rfl vq17_0_1 dq17_0_1 cq17_0_1) (qpe_var (i := 0) rfl vq17_0_0 dq17_0_0 cq17_0_0) (fun _ _ => rfl)))) (qpa_cons (qpe_ix ixa_tup (qpe_var (i := 5) rfl v17_5 d17_5 c17_5) qpe_int (fun _ _ => rfl)) (qpa_cons qpe_dnewT qpa_nil se_Dict) se_Subscript) se_ListComp) se_Name) gd_opened_gate) rfl)))
 (qpss_cons (qps_setC (i := 6) nd rfl l17_6 rfl cok17_1 (qpi_range1 g17_range z_range (qpa_cons (qpe_callB call_len_seq g17_len z_len PySem.boot_len (qpa_cons (qpe_fld (qpe_var (i := 0) rfl v17_0 d17_0 c17_0) rfl) qpa_nil se_Attribute) nn_len gd_len) qpa_nil se_Call)) (fun _ _ _ _ _ => (qpg_name (i := 0) cok17_1.nd rfl (Or.inl kq17_1_0) (Or.inr kq17_1_0))) (fun _ _ _ _ _ => qpif_nil) (fun _ _ _ _ _ => (qpe_dgetT hu (qpe_var (i := 1) rfl vq17_1_1 dq17_1_1 cq17_1_1) (qpe_tup (qpa_cons qpe_str (qpa_cons (qpe_var (i := 0) rfl vq17_1_0 dq17_1_0 cq17_1_0) qpa_nil se_Name) se_Constant)) (fun _ _ => rfl))) rfl)
 (qpss_cons (qps_expr (qpe_methD (qpe_var (i := 1) rfl v17_1 d17_1 c17_1) MRig_feed_keeper hr pass0 (qpa_cons (qpe_var (i := 6) rfl v17_6 d17_6 c17_6) (qpa_cons (qpe_comp rfl cok17_2 (qpi_tup (qpe_fld (qpe_var (i := 0) rfl v17_0 d17_0 c17_0) rfl)) (fun _ _ _ _ _ => (qpg_tupK K 2 rfl rfl (qpgs_cons (qpg_name (i := 0) cok17_2.nd rfl (Or.inl kq17_2_0) (Or.inr kq17_2_0)) (qpgs_cons (qpg_name (i := 1) cok17_2.nd rfl (Or.inl kq17_2_1) (Or.inr kq17_2_1)) qpgs_nil)))) (fun _ _ _ _ _ => qpif_nil) (fun _ _ _ _ _ => (qpe_dgetT hu (qpe_var (i := 2) rfl vq17_2_2 dq17_2_2 cq17_2_2) (qpe_var (i := 1) rfl vq17_2_1 dq17_2_1 cq17_2_1) (fun _ _ => rfl)))) qpa_nil se_ListComp) se_Name)))
 (qpss_cons (qps_setC (i := 7) nd rfl l17_7 rfl cok17_3 (qpi_range1 g17_range z_range (qpa_cons (qpe_callB call_len_seq g17_len z_len PySem.boot_len (qpa_cons (qpe_fld (qpe_var (i := 0) rfl v17_0 d17_0 c17_0) rfl) qpa_nil se_Attribute) nn_len gd_len) qpa_nil se_Call)) (fun _ _ _ _ _ => (qpg_name (i := 0) cok17_3.nd rfl (Or.inl kq17_3_0) (Or.inr kq17_3_0))) (fun _ _ _ _ _ => qpif_nil) (fun _ _ _ _ _ => (qpe_dgetT hu (qpe_var (i := 1) rfl vq17_3_1 dq17_3_1 cq17_3_1) (qpe_tup (qpa_cons qpe_str (qpa_cons (qpe_var (i := 0) rfl vq17_3_0 dq17_3_0 cq17_3_0) qpa_nil se_Name) se_Constant)) (fun _ _ => rfl))) rfl)
 (qpss_one (qps_ret (qpe_tup (qpa_cons (qpe_makeD MkNet hrm g17_Net pass0 (qpa_cons (qpe_fld (qpe_var (i := 1) rfl v17_1 d17_1 c17_1) rfl) (qpa_cons (qpe_comp rfl cok17_4 (qpi_tup (qpe_fld (qpe_var (i := 0) rfl v17_0 d17_0 c17_0) rfl)) (fun _ _ _ _ _ => (qpg_name (i := 0) cok17_4.nd rfl (Or.inl kq17_4_0) (Or.inr kq17_4_0))) (fun _ _ _ _ _ => qpif_nil) (fun _ _ _ _ _ => (qpe_dgetT hu (qpe_var (i := 1) rfl vq17_4_1 dq17_4_1 cq17_4_1) (qpe_var (i := 0) rfl vq17_4_0 dq17_4_0 cq17_4_0) (fun _ _ => rfl)))) qpa_nil se_ListComp) se_Attribute) gd_Net) (qpa_cons (qpe_var (i := 7) rfl v17_7 d17_7 c17_7) qpa_nil se_Name) se_Call))))))))))))), ?_⟩
  (try dsimp only [cxOf])
  have f1 := @ft_i ins tt kt ot
  have f2 := @ft_t ins tt kt ot
  have f3 := @ft_k ins tt kt ot
  have f4 := @ft_o ins tt kt ot
  walk_at "rd"
  rename_i y dy hy hdy ny gl cd H1 c1 fgl fcd rg1 gd hgd
  have i1 := Ch.inst (C := CR) hy hdy ny
  have c01 : Ch [] H H1 := Ch.forget (i1.wk.trans c1) (by simpa using hy)
  obtain ⟨H2, e2⟩ : ∃ H2, upd H1 gd (HO.dT []) = H2 := ⟨_, rfl⟩
  have c12 : Ch [] H1 H2 := by rw [← e2]; exact Ch.new hgd _
  have of : OF H gl cd gd := ⟨chFree i1 fgl, chFree i1 fcd, chFree c01 hgd⟩
  have ow : OW CR H H2 y gl cd gd (List.replicate 0 .inp, fun _ => none) ins 0 0 [] := ⟨c01.trans c12, rg1.ch c12, ⟨[], by rw [← e2]; exact upd_same, fun x h => absurd h (by obtain ⟨x, n⟩ := x; cases x <;> exact Nat.not_lt_zero _), Nat.le_refl _⟩⟩
  rw [e2]
  have hx2 : H2 x = some (.ins CT dx (fldsT ins tt kt ot)) := ow.ch.get hx (by simp)
  have i12 := ok.li
  have t12 := ok.lt
  have k12 := ok.lk
  have o12 := ok.lo
  have fl := fr_nl gl cd
  walk_at "rd"
  clear e2 c12 rg1 hgd c1 i1 fgl fcd
  refine loop_range (fun i σ H' => OW CR H H' y gl cd gd (List.replicate i .inp, fun _ => none) ins i 0 [] ∧ ∃ u3, σ = [some (.ref x), some (.ref y), some (.ref gd), u3, none, none, none, none]) ⟨ow, _, rfl⟩ ?_ ?_
  · clear ow hx2
    rintro i σ H' hi ⟨ow, u3, rfl⟩
    have hi : i < ins := by simpa using hi
    rw [Int.zero_add]
    obtain ⟨dyy, hyy⟩ := ow.rg.ob
    walk_at "rd"
    rename_i T hT
    refine ⟨ow.rg.ch (Ch.new hT _), (show _ = some (HO.tup (Gt.vs .inp)) from upd_same), by simp; omega, fun H3 c3 r3 => ?_⟩
    obtain ⟨kvs, hk, _, kl⟩ := ow.gd.ex
    obtain ⟨ng, nc⟩ := ow.rg.ndk hk
    have hk3 : H3 gd = some (.dT kvs) := c3.get (g_new hT hk) (by simpa using ng)
    have c3' : Ch [gl, cd] H' H3 := (Ch.mono (W := []) (Ch.new hT _) (by simp)).trans (Ch.mono c3 (by simp))
    walk_at "rd"
    rename_i T2 hT2
    refine ⟨DPut.t (g_new hT2 hk3) (show _ = some (HO.tup ((plK (.i, i)).map kV)) from upd_same) (by rw [sizeLine_eq]; simp at kl; omega), ?_⟩
    have e1 : List.replicate i Gt.inp ++ [.inp] = List.replicate (i + 1) .inp := List.replicate_succ'.symm
    rw [e1] at r3
    refine ⟨?_, _, rfl⟩
    rw [List.length_replicate]
    exact ow.put of c3' r3 hT2 hk3 hk rfl (fun z hz nz => ⟨by obtain ⟨z, m⟩ := z; cases z with
      | i => have h1 : m < i + 1 := hz; have h2 : m ≠ i := fun e => nz (by rw [e]); show m < i; omega
      | k => exact hz
      | t => exact hz, rfl⟩) (by omega)
  · clear ow
    rintro σ H3 ⟨ow, u3, rfl⟩
    rw [Int.toNat_natCast] at ow
    obtain ⟨kps, hk, kk⟩ := tp.k
    have lk := Paired.length kk
    have hx3 : H3 x = some (.ins CT dx (fldsT ins tt kt ot)) := ow.ch.get hx (by simp)
    have hk3 := ow.ch.get hk (by simp)
    walk_at "rd"
    refine loop_enum (xs := kps.map V.ref) (fun i σ H' => OW CR H H' y gl cd gd (List.replicate ins .inp ++ (ks.take i).map kg, fun _ => none) ins ins i [] ∧ ∃ u3 u4, σ = [some (.ref x), some (.ref y), some (.ref gd), u3, u4, none, none, none]) ⟨by rw [List.take_zero, List.map_nil, List.append_nil]; exact ow, _, _, rfl⟩ ?_ ?_ ?_
    · rintro i σ H' hi ⟨ow, _⟩
      exact SqT.of (ow.ch.get hk (by simp))
    · clear ow hx3 hk3
      rintro i z σ H' T0 hz ⟨ow, u3, u4, rfl⟩ hT0
      obtain ⟨p, kp, rfl, ek, ⟨pp, hp, _⟩⟩ := paired_get kk i z hz
      have hi : i < ks.length := (List.getElem?_eq_some_iff.mp ek).1
      have hp1 : H' p = some (.tup [.int (bi kp.f), .ref pp]) := ow.ch.get hp (by simp)
      obtain ⟨dyy, hyy⟩ := ow.rg.ob
      walk_at "rd"
      rename_i T hT
      have cT : Ch [] H' (upd (upd H' T0 (.tup [.int (i : Int), .ref p])) T (.tup [.str "keep", .int (bi kp.f), .int 0])) := (Ch.new hT0 _).trans (Ch.new hT _)
      refine ⟨ow.rg.ch cT, (show _ = some (HO.tup (Gt.vs (kg kp))) from upd_same), by simp; omega, fun H4 c4 r4 => ?_⟩
      obtain ⟨kvs, hkd, _, kl⟩ := ow.gd.ex
      obtain ⟨ng, nc⟩ := ow.rg.ndk hkd
      have hk4 : H4 gd = some (.dT kvs) := c4.get (cT.get hkd (by simp)) (by simpa using ng)
      have c4' : Ch [gl, cd] H' H4 := (Ch.mono (W := []) cT (by simp)).trans (Ch.mono c4 (by simp))
      walk_at "rd"
      rename_i T2 hT2
      refine ⟨DPut.t (g_new hT2 hk4) (show _ = some (HO.tup ((plK (.k, i)).map kV)) from upd_same) (by rw [sizeLine_eq]; simp at kl; omega), ?_⟩
      have e1 : List.replicate ins Gt.inp ++ (ks.take i).map kg ++ [kg kp] = List.replicate ins .inp ++ (ks.take (i + 1)).map kg := by rw [List.take_add_one, ek, List.map_append, List.append_assoc]; rfl
      have e2 : (List.replicate ins Gt.inp ++ (ks.take i).map kg).length = ins + i := by rw [List.length_append, List.length_replicate, List.length_map, List.length_take]; omega
      rw [e1] at r4
      refine ⟨?_, _, _, rfl⟩
      rw [e2]
      exact ow.put of c4' r4 hT2 hk4 hkd rfl (fun z hz nz => ⟨by obtain ⟨z, m⟩ := z; cases z with
        | i => exact hz
        | k => have h1 : m < i + 1 := hz; have h2 : m ≠ i := fun e => nz (by rw [e]); show m < i; omega
        | t => exact hz, rfl⟩) (by omega)
    clear ow hx3 hk3
    rintro σ H4 ⟨ow, u3, u4, rfl⟩
    rw [List.length_map, ← lk, List.take_length] at ow
    have ow : OW CR H H4 y gl cd gd (opN ins ks ts 0).1 ins ins ks.length (opN ins ks ts 0).2 := ow
    obtain ⟨tps, ht, tt1⟩ := tp.t
    have lt := Paired.length tt1
    have hx4 : H4 x = some (.ins CT dx (fldsT ins tt kt ot)) := ow.ch.get hx (by simp)
    have ht4 := ow.ch.get ht (by simp)
    walk_at "rd"
    refine loop_enum (xs := tps.map V.ref) (fun i σ H' => OW CR H H' y gl cd gd (opN ins ks ts i).1 ins ins ks.length (opN ins ks ts i).2 ∧ ∃ u3 u4 u5, σ = [some (.ref x), some (.ref y), some (.ref gd), u3, u4, u5, none, none]) ⟨ow, _, _, _, rfl⟩ ?_ ?_ ?_
    · rintro i σ H' hi ⟨ow, _⟩
      exact SqT.of (ow.ch.get ht (by simp))
    · clear ow hx4 ht4
      rintro i z σ H' T0 hz ⟨ow, u3, u4, u5, rfl⟩ hT0
      obtain ⟨p, t, rfl, et, t1⟩ := paired_get tt1 i z hz
      have hi : i < ts.length := (List.getElem?_eq_some_iff.mp et).1
      have A := on_all ok.t i (by omega)
      have okt := ok.t i t et
      have l4 := okt.l4
      have cT0 : Ch [] H (upd H' T0 (.tup [.int (i : Int), .ref p])) := ow.ch.trans (Ch.new hT0 _)
      have c0 : Ch [] H' (upd H' T0 (.tup [.int (i : Int), .ref p])) := Ch.new hT0 _
      have gT0 : (upd H' T0 (.tup [.int (i : Int), .ref p])) T0 = some (.tup [.int (i : Int), .ref p]) := upd_same
      generalize upd H' T0 (.tup [.int (i : Int), .ref p]) = H5 at cT0 c0 gT0 ⊢
      obtain ⟨lp, sps, hp, hs, ws⟩ := t1.tu (Tu.same cT0)
      have ls := Paired.length ws
      rw [List.length_map] at ls
      obtain ⟨kvs, hkd, kv, kl⟩ := ow.gd.ex
      have hkd5 := c0.get hkd (by simp)
      have e1 : opN ins ks ts (i + 1) = _ := opN_succ et
      have bl : t.bits.toNat < 2 ^ 2 ^ t.ls.length := by have := okt.b1; rw [room_pow l4] at this; have := okt.b0; omega
      have hbi : t.bits = ((t.bits.toNat : Nat) : Int) := (Int.toNat_of_nonneg okt.b0).symm
      rw [hbi] at hp
      generalize t.bits.toNat = tbn at *
      have An := A.l
      generalize eN : opN ins ks ts i = pN at *
      walk_at "rd"
      refine comp_tup (sps.map V.ref) (fun j ys σ H'' => H'' = H5 ∧ ys = ((t.ls.take j).map (gn ins pN.2)).map nV ∧ ∃ u, σ = [u, some (.ref gd)]) (by rw [sizeLine_eq, List.length_map]; omega) ⟨rfl, rfl, _, rfl⟩ ?_ ?_ ?_
      · rintro j ys σ H'' hj ⟨rfl, rfl, _⟩
        exact ⟨by simp; omega, SqT.of hs⟩
      · rintro j ys σ H'' z hz ⟨rfl, rfl, u, rfl⟩
        obtain ⟨pl, xx, rfl, ex, hpl⟩ := pl_get ws j z hz
        have hpl' : H'' pl = some (.tup ((plK xx).map kV)) := hpl
        have hv := kv xx (by rw [An]; exact okt.lo xx (List.mem_of_getElem? ex))
        walk_at "rd"
        refine ⟨dget_some hkd5 hpl' hv, rfl, ?_, _, rfl⟩
        rw [List.take_add_one, ex]; simp
      rintro ys σ H6 ⟨rfl, rfl, _⟩
      intro D hD
      rw [List.length_map, ← ls, List.take_length]
      have cD : Ch [] H' (upd H6 D (.lst ((t.ls.map (gn ins pN.2)).map nV))) := c0.trans (Ch.new hD _)
      have gD : (upd H6 D (.lst ((t.ls.map (gn ins pN.2)).map nV))) D = some (.lst ((t.ls.map (gn ins pN.2)).map nV)) := upd_same
      have hp7 : (upd H6 D (.lst ((t.ls.map (gn ins pN.2)).map nV))) p = some (.tup [.ref lp, .int (tbn : Int)]) := g_new hD hp
      obtain ⟨xg, hg, _⟩ := ow.rg.g
      have nDg : D ≠ gl := (ne_of_none (c0.get hg (by simp)) hD).symm
      generalize upd H6 D (.lst ((t.ls.map (gn ins pN.2)).map nV)) = H7 at cD gD hp7 ⊢
      walk_at "rd"
      rename_i kd hkd7
      have c7 : Ch [] H' (upd H7 kd (.dT [])) := cD.trans (Ch.new hkd7 _)
      have lx := A.x.len
      have lb : (baseG ins ks).length = ins + ks.length := by simp [baseG]
      have p32 : 2 ^ (t.ls.length + 1) ≤ 2 ^ 5 := Nat.pow_le_pow_right (by decide) (by omega)
      have og : OGp CR (upd H7 kd (.dT [])) y gl cd kd D (t.ls.map (gn ins pN.2)) t.ls.length tbn pN.1 (fun _ _ => none) :=
        ⟨ow.rg.ch c7, by rw [List.take_of_length_le (by simp)]; exact g_new hkd7 gD, ⟨[], upd_same, fun l c => rfl, Nat.zero_le _⟩, nDg, by simp, by simpa using l4, fun v hv => by
          obtain ⟨xx, hxx, rfl⟩ := List.mem_map.mp hv
          exact (A.v xx (okt.lo xx hxx)).1, A.g, ⟨fun l c n z => by cases z⟩, bl, by omega⟩
      refine ⟨og, fun H8 c8 r8 k8 => ?_⟩
      have fkd : H' kd = none := chFree cD hkd7
      have c8' : Ch [gl, cd] H' H8 := Ch.drop ((Ch.mono (W := []) c7 (by simp)).trans c8) (by simp only [List.mem_cons, List.not_mem_nil, or_false]; rintro w (rfl | rfl | rfl); exact .inl (.inl rfl); exact .inl (.inr rfl); exact .inr fkd)
      obtain ⟨ng, nc⟩ := ow.rg.ndk hkd
      have hk8 : H8 gd = some (.dT kvs) := c8'.get hkd (by simp [ng, nc])
      generalize eR : opG (t.ls.map (gn ins pN.2)) t.ls.length tbn pN.1 (fun _ _ => none) = rr at *
      walk_at "rd"
      rename_i T2 hT2
      refine ⟨DPut.t (g_new hT2 hk8) (show _ = some (HO.tup ((plK (.t, i)).map kV)) from upd_same) (by rw [sizeLine_eq]; omega), ?_⟩
      refine ⟨?_, _, _, _, rfl⟩
      rw [e1]
      refine ow.put of c8' r8 hT2 hk8 hkd ?_ (fun z hz nz => ?_) (by simp; omega)
      · show (pN.2 ++ [rr.2.2]).getD i 0 = rr.2.2
        rw [← An]
        simp [List.getD_eq_getElem?_getD]
      · obtain ⟨z, m⟩ := z
        cases z with
        | i => exact ⟨hz, rfl⟩
        | k => exact ⟨hz, rfl⟩
        | t =>
          have h1 : m < (pN.2 ++ [rr.2.2]).length := hz
          have h2 : m ≠ i := fun e => nz (by rw [e])
          rw [List.length_append, List.length_singleton] at h1
          have h3 : m < pN.2.length := by omega
          refine ⟨h3, ?_⟩
          show (pN.2 ++ [rr.2.2]).getD m 0 = pN.2.getD m 0
          simp [List.getD_eq_getElem?_getD, List.getElem?_append_left h3]
    clear ow hx4 ht4
    rintro σ H5 ⟨ow, u3, u4, u5, rfl⟩
    rw [List.length_map, ← lt] at ow
    have A := on_all ok.t ts.length (Nat.le_refl _)
    have An := A.l
    generalize eN : opN ins ks ts ts.length = pN at *
    obtain ⟨kvs, hkd, kv, kl⟩ := ow.gd.ex
    rw [An] at kv
    have hx5 : H5 x = some (.ins CT dx (fldsT ins tt kt ot)) := ow.ch.get hx (by simp)
    have hk5 := ow.ch.get hk (by simp)
    walk_at "rd"
    refine comp_range (fun j ys σ H' => Ch [] H5 H' ∧ ys = (List.range j).map (fun j => nV (ins + j)) ∧ ∃ u, σ = [u, some (.ref gd)]) (by rw [sizeLine_eq, List.length_map]; omega) ⟨Ch.refl _ _, rfl, _, rfl⟩ ?_ ?_ ?_
    · rintro j ys σ H' hj ⟨_, rfl, _⟩
      simp
    · rintro j ys σ H' hj ⟨c, rfl, u, rfl⟩
      have hj : j < ks.length := by rw [List.length_map, Int.toNat_natCast] at hj; omega
      rw [Int.zero_add]
      walk_at "rd"
      rename_i T hT
      refine ⟨dget_some (g_new hT (c.get hkd (by simp))) (show _ = some (HO.tup ((plK (.k, j)).map kV)) from upd_same) (kv (.k, j) hj), c.trans (Ch.new hT _), ?_, _, rfl⟩
      rw [List.range_succ, List.map_append]; rfl
    rintro ys σ H6 ⟨c6, rfl, _⟩
    rw [List.length_map, Int.toNat_natCast, ← lk]
    intro n1 hn1
    have c7 : Ch [] H5 (upd H6 n1 (.lst ((List.range ks.length).map (fun j => nV (ins + j))))) := c6.trans (Ch.new hn1 _)
    have g7 : (upd H6 n1 (.lst ((List.range ks.length).map (fun j => nV (ins + j))))) n1 = some (.lst ((List.range ks.length).map (fun j => nV (ins + j)))) := upd_same
    have f1n : H n1 = none := chFree (ow.ch.trans c6) hn1
    obtain ⟨xg5, hg5, _⟩ := ow.rg.g
    have n1g : n1 ≠ gl := (ne_of_none (c6.get hg5 (by simp)) hn1).symm
    generalize upd H6 n1 (.lst ((List.range ks.length).map (fun j => nV (ins + j)))) = H7 at c7 g7 ⊢
    have c07 := ow.ch.trans c7
    have rg7 := ow.rg.ch c7
    obtain ⟨dyy, hyy⟩ := rg7.ob
    have fk := fr_nf gl cd
    have hx7 : H7 x = some (.ins CT dx (fldsT ins tt kt ot)) := c07.get hx (by simp)
    have hk7 := c07.get hk (by simp)
    have hd7 := c7.get hkd (by simp)
    obtain ⟨xg7, hg7, gg7⟩ := rg7.g
    clear c6 hn1 hx5 hk5
    walk_at "rd"
    refine comp_tup (kps.map V.ref) (fun j ys σ H' => H' = H7 ∧ ys = ((ks.take j).map (fun k => gn ins pN.2 k.pl)).map nV ∧ ∃ u v, σ = [u, v, some (.ref gd)]) (by rw [sizeLine_eq, List.length_map]; omega) ⟨rfl, rfl, _, _, rfl⟩ ?_ ?_ ?_
    · rintro j ys σ H' hj ⟨rfl, rfl, _⟩
      exact ⟨by simp; omega, SqT.of hk7⟩
    · rintro j ys σ H' z hz ⟨rfl, rfl, u, v, rfl⟩
      obtain ⟨p, kp, rfl, ek, k1⟩ := paired_get kk j z hz
      obtain ⟨pp, hp, hpp⟩ := k1.tu (Tu.same c07)
      have hpp' : H' pp = some (.tup ((plK kp.pl).map kV)) := hpp
      have hv := kv kp.pl (ok.k kp (List.mem_of_getElem? ek))
      walk_at "rd"
      refine ⟨dget_some hd7 hpp' hv, rfl, ?_, _, _, rfl⟩
      rw [List.take_add_one, ek]; simp
    rintro ys σ H8 ⟨rfl, rfl, _⟩
    rw [List.length_map, ← lk, List.take_length]
    intro b1 hb1
    have c9 : Ch [] H8 (upd H8 b1 (.lst ((ks.map (fun k => gn ins pN.2 k.pl)).map nV))) := Ch.new hb1 _
    obtain ⟨t, et, lt', pt⟩ := A.x.ex
    have b1g : b1 ≠ gl := (ne_of_none hg7 hb1).symm
    have hkp : ∀ j, j < ks.length → ∃ f a, pN.1.1[ins + j]? = some (.keep f a) := fun j hj => by
      rw [et]
      unfold baseG
      refine ⟨(ks[j]).f, 0, ?_⟩
      rw [mid_get (by simp) (by simpa using hj), List.getElem?_map, List.getElem?_eq_getElem hj]
      rfl
    refine ⟨y, gl, cd, n1, b1, pN.1, ins, ks.length, ks.map (fun k => gn ins pN.2 k.pl), rfl, rg7.ch c9, c9.get g7 (by simp), upd_same, by simp, n1g, b1g, hkp, fun gs' H10 c10 fe r10 => ?_⟩
    have nf := nf_of (okp_base ins ks) A t12 i12 k12 fe
    have c10' : Ch [] H H10 := Ch.forget ((Ch.mono (W := []) (c07.trans c9) (by simp)).trans c10) (by simpa using of.g)
    have hd10 : H10 gd = some (.dT kvs) := c10.get (c9.get hd7 (by simp)) (by simpa using (ow.rg.ndk hkd).1)
    have hx10 : H10 x = some (.ins CT dx (fldsT ins tt kt ot)) := c10'.get hx (by simp)
    have ht10 := c10'.get ht (by simp)
    clear c10 rg7 c07 hg7 gg7 hyy hx7 hk7 hd7 c9 hb1 c7 g7
    walk_at "rd"
    refine comp_range (fun j ys σ H' => Ch [] H10 H' ∧ ys = (pN.2.take j).map nV ∧ ∃ u, σ = [u, some (.ref gd)]) (by rw [sizeLine_eq, List.length_map]; omega) ⟨Ch.refl _ _, rfl, _, rfl⟩ ?_ ?_ ?_
    · rintro j ys σ H' hj ⟨_, rfl, _⟩
      simp; omega
    · rintro j ys σ H' hj ⟨c, rfl, u, rfl⟩
      have hj : j < ts.length := by rw [List.length_map, Int.toNat_natCast] at hj; omega
      rw [Int.zero_add]
      walk_at "rd"
      rename_i T hT
      refine ⟨dget_some (g_new hT (c.get hd10 (by simp))) (show _ = some (HO.tup ((plK (.t, j)).map kV)) from upd_same) (kv (.t, j) hj), c.trans (Ch.new hT _), ?_, _, rfl⟩
      have hj2 : j < pN.2.length := by omega
      rw [List.take_add_one, List.getElem?_eq_getElem hj2, List.map_append]
      congr 1
      show [nV (pN.2.getD j 0)] = [nV _]
      rw [List.getD_eq_getElem?_getD, List.getElem?_eq_getElem hj2]
      rfl
    rintro ys σ H11 ⟨c11, rfl, _⟩
    rw [List.length_map, Int.toNat_natCast, ← lt, ← An, List.take_length]
    intro nl hnl
    have fnl : H nl = none := chFree (c10'.trans c11) hnl
    have c12 : Ch [] H10 (upd H11 nl (.lst (pN.2.map nV))) := c11.trans (Ch.new hnl _)
    have g12 : (upd H11 nl (.lst (pN.2.map nV))) nl = some (.lst (pN.2.map nV)) := upd_same
    generalize upd H11 nl (.lst (pN.2.map nV)) = H12 at c12 g12 ⊢
    have c012 := c10'.trans c12
    have r12 := r10.ch c12
    obtain ⟨dyy, hyy⟩ := r12.ob
    obtain ⟨xg, hg, gg⟩ := r12.g
    have fg := fr_g gl cd
    obtain ⟨ops, ho, oo⟩ := tp.o
    have lo := Paired.length oo
    rw [List.length_map] at lo
    have hx12 : H12 x = some (.ins CT dx (fldsT ins tt kt ot)) := c012.get hx (by simp)
    have ho12 := c012.get ho (by simp)
    have hd12 := c12.get hd10 (by simp)
    clear c11 hnl hx10 ht10
    walk_at "rd"
    refine comp_tup (ops.map V.ref) (fun j ys σ H' => H' = H12 ∧ ys = ((os.take j).map (gn ins pN.2)).map nV ∧ ∃ u, σ = [u, some (.ref gd)]) (by rw [sizeLine_eq, List.length_map]; omega) ⟨rfl, rfl, _, rfl⟩ ?_ ?_ ?_
    · rintro j ys σ H' hj ⟨rfl, rfl, _⟩
      exact ⟨by simp; omega, SqT.of ho12⟩
    · rintro j ys σ H' z hz ⟨rfl, rfl, u, rfl⟩
      obtain ⟨pl, xx, rfl, ex, hpl⟩ := pl_get (oo.tu (Tu.same c012)) j z hz
      have hpl' : H' pl = some (.tup ((plK xx).map kV)) := hpl
      have hv := kv xx (ok.o xx (List.mem_of_getElem? ex))
      walk_at "rd"
      refine ⟨dget_some hd12 hpl' hv, rfl, ?_, _, rfl⟩
      rw [List.take_add_one, ex]; simp
    rintro ys σ H13 ⟨rfl, rfl, _⟩
    rw [List.length_map, ← lo, List.take_length]
    intro ol hol
    have c14 : Ch [] H13 (upd H13 ol (.lst ((os.map (gn ins pN.2)).map nV))) := Ch.new hol _
    have g14 : (upd H13 ol (.lst ((os.map (gn ins pN.2)).map nV))) ol = some (.lst ((os.map (gn ins pN.2)).map nV)) := upd_same
    generalize upd H13 ol (.lst ((os.map (gn ins pN.2)).map nV)) = H14 at c14 g14 ⊢
    walk_at "rd"
    rename_i nt dnt hnt hdnt nnt
    have i15 := Ch.inst (C := CN) hnt hdnt nnt
    have c15 := c14.trans i15
    have ln := nf.ln
    have oks : Oks gs' := fun i g e => by
      cases g with
      | keep f a =>
        obtain ⟨t, et2, pt2⟩ := nf.sh
        show a < gs'.length
        have hm := List.mem_of_getElem? e
        rw [et2] at hm
        rcases List.mem_append.mp hm with hm | hm
        · rcases List.mem_append.mp hm with hm | hm
          · cases (List.mem_replicate.mp hm).2
          · obtain ⟨kk', hk', z⟩ := List.mem_map.mp hm
            cases z
            exact (nf.v kk'.pl (ok.k kk' hk')).1
        · cases (show false = true from pt2 _ hm)
      | pick a b c => exact nf.ok i a b c e
      | inp => trivial
      | zero => trivial
      | one => trivial
    refine ⟨c15.get hg (by simp), gg.tu (Tu.same c15), oks, by show gs'.length ≤ 1000; omega, i15.get g14 (by simp), fun o ho' => ?_, by simp; omega, fun gp op H16 c16 net => ⟨rfl, ?_⟩⟩
    · obtain ⟨xx, hxx, rfl⟩ := List.mem_map.mp ho'
      exact (nf.v xx (ok.o xx hxx)).1
    · walk_at "rd"
      rename_i R hR
      have c0F : Ch [] H (upd H16 R (.tup [.ref nt, .ref nl])) := Ch.forget (((Ch.mono (W := []) (c012.trans c15) (by simp)).trans c16).trans (Ch.mono (W := []) (Ch.new hR _) (by simp))) (by simpa using chFree (c012.trans c14) hnt)
      have nln : nl ≠ nt := ne_of_none (c14.get g12 (by simp)) hnt
      have gl16 : H16 nl = some (.lst (pN.2.map nV)) := c16.get (c15.get g12 (by simp)) (by simpa using nln)
      exact q R nt nl gp op gs' xg _ c0F fnl nf ⟨net.ob.imp fun _ h => g_new hR h, g_new hR net.gt, net.gg.tu (Tu.new _ hR), g_new hR net.ot⟩ upd_same (g_new hR gl16)
end
end

section
def Gt.wd : Gt → Str
  | .inp => "in"
  | .zero => "zero"
  | .one => "one"
  | .keep _ _ => "keep"
  | .pick _ _ _ => "pick"
def Gt.feeds : Gt → List Nat
  | .pick a b c => [a, b, c]
  | _ => []
def evp (bs : List Bool) : Gt → Bool
  | .one => true
  | .pick a b c => if bs.getD a false then bs.getD b false else bs.getD c false
  | _ => false
theorem at_bs {bs : List Bool} {n : Nat} (h : n < bs.length) : atI (bs.map bV) (n : Int) = some (.int (bi (bs.getD n false))) := atI_nat (by rw [List.getElem?_map, List.getElem?_eq_getElem h]; simp [bV, List.getD, List.getElem?_eq_getElem h])
theorem pk1 : decide (V.str (Str.ofString "pick") = V.str (Str.ofString "in")) = false := by decide +kernel
theorem pk2 : decide (V.str (Str.ofString "pick") = V.str (Str.ofString "keep")) = false := by decide +kernel
theorem plain_vs {g : Gt} (h : g.plain = true) : g.vs = .str g.wd :: g.feeds.map nV ∧ decide (V.str g.wd = V.str "in") = false ∧ decide (V.str g.wd = V.str "keep") = false := by
  cases g with
  | inp => cases h
  | keep _ _ => cases h
  | zero => exact ⟨rfl, by decide +kernel, by decide +kernel⟩
  | one => exact ⟨rfl, by decide +kernel, by decide +kernel⟩
  | pick a b c => exact ⟨rfl, pk1, pk2⟩
theorem fold_cnt {row kept : List Bool} : ∀ (t : List Gt) (s : VS), s.2.1 ≤ (t.foldl (step row kept) s).2.1 ∧ s.2.2 ≤ (t.foldl (step row kept) s).2.2
  | [], s => ⟨Nat.le_refl _, Nat.le_refl _⟩
  | g :: t, s => by
    have := fold_cnt (row := row) (kept := kept) t (step row kept s g)
    have h2 : s.2.1 ≤ (step row kept s g).2.1 ∧ s.2.2 ≤ (step row kept s g).2.2 := by cases g <;> simp [step]
    exact ⟨Nat.le_trans h2.1 this.1, Nat.le_trans h2.2 this.2⟩
theorem cnt_mono {row kept : List Bool} (gs : List Gt) (i : Nat) : (run row kept (gs.take i)).2.1 ≤ (run row kept gs).2.1 ∧ (run row kept (gs.take i)).2.2 ≤ (run row kept gs).2.2 := by
  have := fold_cnt (row := row) (kept := kept) (gs.drop i) (run row kept (gs.take i))
  have e : (gs.drop i).foldl (step row kept) (run row kept (gs.take i)) = run row kept gs := by unfold run; rw [← List.foldl_append, List.take_append_drop]
  rw [e] at this
  exact this
def hdK (a b c : Addr) : List (Key × V) := [(.inr "in", .ref a), (.inr "keep", .ref b), (.inr "table", .ref c)]
def pck (a b c : Addr) : Wd → Addr
  | .i => a
  | .k => b
  | .t => c
theorem hd_val (a b c : Addr) (x : Wd) : valV (hdK a b c) (.inr x.s) = some (.ref (pck a b c x)) := by cases x <;> rfl
structure Hd (H : Hp) (d a b c : Addr) (row kept tab : List Bool) : Prop where
  d : H d = some (.dK (hdK a b c))
  a : H a = some (.lst (row.map bV))
  b : H b = some (.lst (kept.map bV))
  c : H c = some (.lst (tab.map bV))
theorem Hd.get {H : Hp} {d a b c : Addr} {row kept tab : List Bool} (s : Hd H d a b c row kept tab) (p : Plc) (h : p.2 < lim row.length kept.length tab.length p.1) : ∃ xs, H (pck a b c p.1) = some (.lst xs) ∧ atI xs (p.2 : Int) = some (.int (bi (hdv row kept tab p))) := by
  obtain ⟨x, n⟩ := p
  cases x with
  | i => exact ⟨_, s.a, at_bs h⟩
  | k => exact ⟨_, s.b, at_bs h⟩
  | t => exact ⟨_, s.c, at_bs h⟩
theorem num_snoc : ∀ (bs : List Bool) (b : Bool), (num (bs ++ [b]) : Int) = num bs + 2 ^ bs.length * bi b
  | [], b => by cases b <;> decide
  | a :: bs, b => by
    rw [List.cons_append, num, List.length_cons, num]
    push_cast
    rw [num_snoc bs b, Int.mul_add, Int.pow_succ, Int.add_assoc, Int.mul_comm ((2 : Int) ^ bs.length) 2, Int.mul_assoc]
theorem pow16 {j : Nat} (h : j ≤ 4) : 0 < (2 : Int) ^ j ∧ (2 : Int) ^ j ≤ 16 := by
  have e5 : j = 0 ∨ j = 1 ∨ j = 2 ∨ j = 3 ∨ j = 4 := by omega
  rcases e5 with rfl | rfl | rfl | rfl | rfl <;> decide
section
variable {P : Program} {w : World} {K : PySem.W.Frag} {mg : Str → Option Value} {base : Heap} {f : Addr} {fd : FuncData} {k : Nat}
theorem gd__law_told : Nd "_law_told" := by decide +kernel
theorem gd__law_place_bit : Nd "_law_place_bit" := by decide +kernel
theorem v27_0 : Vs (defScope (top 27)) "_law_word" := by decide +kernel
theorem d27_0 : Nd "_law_word" := by decide +kernel
theorem c27_0 : Nc "_law_word" := by decide +kernel
theorem g27_int : Gi (defScope (top 27)) "int" := by decide +kernel
theorem v27_1 : Vs (defScope (top 27)) "_law_feeds" := by decide +kernel
theorem d27_1 : Nd "_law_feeds" := by decide +kernel
theorem c27_1 : Nc "_law_feeds" := by decide +kernel
theorem l27_2 : Lc (defScope (top 27)) "_law_both" := by decide +kernel
theorem v27_2 : Vs (defScope (top 27)) "_law_both" := by decide +kernel
theorem d27_2 : Nd "_law_both" := by decide +kernel
theorem c27_2 : Nc "_law_both" := by decide +kernel
def spTold : Sp := fun vs H Q _ => ∃ (r : Addr) (g : Gt) (bs : List Bool), vs = [.str g.wd, .ref r] ∧ g.plain = true ∧ H r = some (.lst (g.feeds.map fun a => bV (bs.getD a false))) ∧ ∀ H', Ch [] H H' → Q (bV (evp bs g)) H'
theorem scTold : FnScope ["_law_word", "_law_feeds", "_law_both"] ["_law_word", "_law_feeds"] (defScope (top 27)) := ⟨rfl, rfl, rfl, by decide +kernel, rfl, by decide +kernel, by decide +kernel⟩
theorem ok_told (F : Fun K "_law_told" "_law_told" (top 27) f fd) (z_int : mg "int" = none) : FnOk P w K mg base CX0 (k + 1) f fd ["_law_word", "_law_feeds"] spTold := by
  have nd := scTold.nd
  refine F.ok scTold (fun vs H Q E h => by obtain ⟨r, g, bs, rfl, _⟩ := h; rfl) (fun cdv A outer s H vs Q E hr h => ?_)
  obtain ⟨r, g, bs, rfl, hp, hf, q⟩ := h
  refine ⟨_, (Pr.h (qpss_cons (qps_if (qpt_cmpR op_in_seq (qpe_var (i := 0) rfl v27_0 d27_0 c27_0) (qpe_tup (qpa_cons qpe_str (qpa_cons qpe_str qpa_nil se_Constant) se_Constant)) rfl)
  (qpss_one (qps_ret (qpe_callTy call_int1 g27_int z_int bo_int (qpa_cons (qpe_cmpR op_eq (qpe_var (i := 0) rfl v27_0 d27_0 c27_0) qpe_str (nomark _)) qpa_nil se_Compare) nn_int gd_int)))
  qpss_nil)
 (qpss_cons (qps_if (qpt_cmpR op_eq (qpe_var (i := 0) rfl v27_0 d27_0 c27_0) qpe_str (nomark _))
  (qpss_one (qps_ret (qpe_op op_sub qpe_int (qpe_ix ixa_list (qpe_var (i := 1) rfl v27_1 d27_1 c27_1) qpe_int (fun _ _ => rfl)))))
  qpss_nil)
 (qpss_cons (qps_if (qpt_cmpR op_eq (qpe_var (i := 0) rfl v27_0 d27_0 c27_0) qpe_str (nomark _))
  (qpss_one (qps_ret (qpe_ix ixa_list (qpe_lst (qpa_cons (qpe_ix ixa_list (qpe_var (i := 1) rfl v27_1 d27_1 c27_1) qpe_int (fun _ _ => rfl)) (qpa_cons (qpe_ix ixa_list (qpe_var (i := 1) rfl v27_1 d27_1 c27_1) qpe_int (fun _ _ => rfl)) qpa_nil se_Subscript) se_Subscript)) (qpe_ix ixa_list (qpe_var (i := 1) rfl v27_1 d27_1 c27_1) qpe_int (fun _ _ => rfl)) (fun _ _ => rfl))))
  qpss_nil)
 (qpss_cons (qps_set (i := 2) nd rfl l27_2 (qpe_op op_add (qpe_ix ixa_list (qpe_var (i := 1) rfl v27_1 d27_1 c27_1) qpe_int (fun _ _ => rfl)) (qpe_ix ixa_list (qpe_var (i := 1) rfl v27_1 d27_1 c27_1) qpe_int (fun _ _ => rfl))))
 (qpss_one (qps_ret (qpe_ixD (qpe_disp (qpps_cons qpe_str (qpe_callTy call_int1 g27_int z_int bo_int (qpa_cons (qpe_cmpR op_eq (qpe_var (i := 2) rfl v27_2 d27_2 c27_2) qpe_int (nomark _)) qpa_nil se_Compare) nn_int gd_int) (qpps_cons qpe_str (qpe_callTy call_int1 g27_int z_int bo_int (qpa_cons (qpe_cmpR op_gt (qpe_var (i := 2) rfl v27_2 d27_2 c27_2) qpe_int (nomark _)) qpa_nil se_Compare) nn_int gd_int) (qpps_cons qpe_str (qpe_op op_mod (qpe_var (i := 2) rfl v27_2 d27_2 c27_2) qpe_int) qpps_nil))) rfl rfl (by intro z; cases z) (by decide)) (qpe_var (i := 0) rfl v27_0 d27_0 c27_0) (fun _ _ => rfl))))))))), ?_⟩
  (try dsimp only [cxOf])
  cases g with
  | inp => cases hp
  | keep _ _ => cases hp
  | zero =>
    dsimp only [Gt.wd]
    walk_at "rd"
    exact q _ (Ch.new (by assumption) _)
  | one =>
    dsimp only [Gt.wd]
    walk_at "rd"
    exact q _ (Ch.new (by assumption) _)
  | pick a b c =>
    dsimp only [Gt.wd]
    have hf : H r = some (.lst [.int (bi (bs.getD a false)), .int (bi (bs.getD b false)), .int (bi (bs.getD c false))]) := hf
    walk_at "rd"
    have hat : atI [V.int (bi (bs.getD c false)), V.int (bi (bs.getD b false))] (bi (bs.getD a false)) = some (.int (bi (evp bs (.pick a b c)))) := by
      show _ = some (V.int (bi (if bs.getD a false = true then bs.getD b false else bs.getD c false)))
      cases bs.getD a false <;> rfl
    refine Atx.of hat ?_
    rename_i p1 h1 p2 h2
    exact q _ ((Ch.new h1 _).trans (Ch.new h2 _))
theorem l28_3 : Lc (defScope (top 28)) "_law_bits_here" := by decide +kernel
theorem l28_5 : Lc (defScope (top 28)) "_law_keeps" := by decide +kernel
theorem l28_4 : Lc (defScope (top 28)) "_law_ins" := by decide +kernel
theorem v28_0 : Vs (defScope (top 28)) "_law_gates" := by decide +kernel
theorem d28_0 : Nd "_law_gates" := by decide +kernel
theorem c28_0 : Nc "_law_gates" := by decide +kernel
theorem l28_6 : Lc (defScope (top 28)) "_law_gate" := by decide +kernel
theorem v28_6 : Vs (defScope (top 28)) "_law_gate" := by decide +kernel
theorem d28_6 : Nd "_law_gate" := by decide +kernel
theorem c28_6 : Nc "_law_gate" := by decide +kernel
theorem v28_3 : Vs (defScope (top 28)) "_law_bits_here" := by decide +kernel
theorem d28_3 : Nd "_law_bits_here" := by decide +kernel
theorem c28_3 : Nc "_law_bits_here" := by decide +kernel
theorem v28_1 : Vs (defScope (top 28)) "_law_fed" := by decide +kernel
theorem d28_1 : Nd "_law_fed" := by decide +kernel
theorem c28_1 : Nc "_law_fed" := by decide +kernel
theorem v28_4 : Vs (defScope (top 28)) "_law_ins" := by decide +kernel
theorem d28_4 : Nd "_law_ins" := by decide +kernel
theorem c28_4 : Nc "_law_ins" := by decide +kernel
theorem v28_2 : Vs (defScope (top 28)) "_law_held" := by decide +kernel
theorem d28_2 : Nd "_law_held" := by decide +kernel
theorem c28_2 : Nc "_law_held" := by decide +kernel
theorem v28_5 : Vs (defScope (top 28)) "_law_keeps" := by decide +kernel
theorem d28_5 : Nd "_law_keeps" := by decide +kernel
theorem c28_5 : Nc "_law_keeps" := by decide +kernel
theorem g28__law_told : Gi (defScope (top 28)) "_law_told" := by decide +kernel
def csc28_0 : Scope := { kind := PySem.ScopeKind.function, names := [ (PySem.Str.ofString ".0", PySem.NameKind.local), (PySem.Str.ofString "_law_feed", PySem.NameKind.local), (PySem.Str.ofString "_law_bits_here", PySem.NameKind.free)], isGenerator := false, isCoroutine := false, more := [] : PySem.Scope }
theorem cok28_0 : CompOk csc28_0 (defScope (top 28)) (["_law_feed"] : List Str) (["_law_gates", "_law_fed", "_law_held", "_law_bits_here", "_law_ins", "_law_keeps", "_law_gate"] : List Str) [3] (["_law_feed", "_law_bits_here"] : List Str) := compOk rfl (by decide +kernel) (by decide +kernel) (by decide +kernel) (by decide +kernel) rfl (by decide +kernel)
theorem kq28_0_0 : (relab csc28_0 (defScope (top 28))).names.lookup (Str.ofString "_law_feed") = some NameKind.local := by decide +kernel
theorem vq28_0_1 : Vs (relab csc28_0 (defScope (top 28))) "_law_bits_here" := by decide +kernel
theorem dq28_0_1 : Nd "_law_bits_here" := by decide +kernel
theorem cq28_0_1 : Nc "_law_bits_here" := by decide +kernel
theorem vq28_0_0 : Vs (relab csc28_0 (defScope (top 28))) "_law_feed" := by decide +kernel
theorem dq28_0_0 : Nd "_law_feed" := by decide +kernel
theorem cq28_0_0 : Nc "_law_feed" := by decide +kernel
structure VC (gs : List Gt) (row kept : List Bool) : Prop where
  i : (run row kept gs).2.1 ≤ row.length
  k : (run row kept gs).2.2 ≤ kept.length
  ok : ∀ (i : Nat) (a b c : Nat), gs[i]? = some (.pick a b c) → a < i ∧ b < i ∧ c < i
  ln : gs.length ≤ 500
def spVals : Sp := fun vs H Q _ => ∃ (gp fl hl : Addr) (gs : List Gt) (xs : List V) (row kept : List Bool), vs = [.ref gp, .ref fl, .ref hl] ∧ H gp = some (.tup xs) ∧ Gs H gs xs ∧ H fl = some (.lst (row.map bV)) ∧ H hl = some (.lst (kept.map bV)) ∧ VC gs row kept ∧ ∀ r H', Ch [] H H' → H r = none → H' r = some (.lst ((run row kept gs).1.map bV)) → Q (.ref r) H'
theorem scVals : FnScope ["_law_gates", "_law_fed", "_law_held", "_law_bits_here", "_law_ins", "_law_keeps", "_law_gate"] ["_law_gates", "_law_fed", "_law_held"] (defScope (top 28)) := ⟨rfl, rfl, rfl, by decide +kernel, rfl, by decide +kernel, by decide +kernel⟩
theorem ok_vals (F : Fun K "_law_values" "_law_values" (top 28) f fd) (D_law_told : DefOk P w K mg base CX0 k "_law_told" ["_law_word", "_law_feeds"] spTold) : FnOk P w K mg base CX0 (k + 1) f fd ["_law_gates", "_law_fed", "_law_held"] spVals := by
  have nd := scVals.nd
  refine F.ok scVals (fun vs H Q E h => by obtain ⟨gp, fl, hl, gs, xs, row, kept, rfl, _⟩ := h; rfl) (fun cdv A outer s H vs Q E hr h => ?_)
  obtain ⟨gp, fl, hl, gs, xs, row, kept, rfl, hg, gg, hf, hh, vc, q⟩ := h
  refine ⟨_, (Pr.h (qpss_cons (qps_set (i := 3) nd rfl l28_3 (qpe_lst qpa_nil))
 (qpss_cons (qps_asg (qpe_tup (qpa_cons qpe_int (qpa_cons qpe_int qpa_nil se_Constant) se_Constant)) (qpg_tup rfl (qpgs_cons (qpg_name (i := 4) nd rfl l28_4) (qpgs_cons (qpg_name (i := 5) nd rfl l28_5) qpgs_nil))))
 (qpss_cons (qps_loop PassesOwn.never rfl (qpi_tup (qpe_var (i := 0) rfl v28_0 d28_0 c28_0)) (qpg_name (i := 6) nd rfl l28_6)
  (qpss_one (qps_if (qpt_cmpR op_eq (qpe_ix ixa_tup (qpe_var (i := 6) rfl v28_6 d28_6 c28_6) qpe_int (fun _ _ => rfl)) qpe_str (nomark _))
  (qpss_cons (qps_expr (qpe_bm PySem.F.plainAttrs_list PySem.F.slot_list_append PySem.F.type_list_append mt_append (qpe_var (i := 3) rfl v28_3 d28_3 c28_3) (qpa_cons (qpe_ix ixa_list (qpe_var (i := 1) rfl v28_1 d28_1 c28_1) (qpe_var (i := 4) rfl v28_4 d28_4 c28_4) (fun _ _ => rfl)) qpa_nil se_Subscript)))
 (qpss_one (qps_set (i := 4) nd rfl l28_4 (qpe_op op_add (qpe_var (i := 4) rfl v28_4 d28_4 c28_4) qpe_int))))
  (qpss_one (qps_if (qpt_cmpR op_eq (qpe_ix ixa_tup (qpe_var (i := 6) rfl v28_6 d28_6 c28_6) qpe_int (fun _ _ => rfl)) qpe_str (nomark _))
  (qpss_cons (qps_expr (qpe_bm PySem.F.plainAttrs_list PySem.F.slot_list_append PySem.F.type_list_append mt_append (qpe_var (i := 3) rfl v28_3 d28_3 c28_3) (qpa_cons (qpe_ix ixa_list (qpe_var (i := 2) rfl v28_2 d28_2 c28_2) (qpe_var (i := 5) rfl v28_5 d28_5 c28_5) (fun _ _ => rfl)) qpa_nil se_Subscript)))
 (qpss_one (qps_set (i := 5) nd rfl l28_5 (qpe_op op_add (qpe_var (i := 5) rfl v28_5 d28_5 c28_5) qpe_int))))
  (qpss_one (qps_expr (qpe_bm PySem.F.plainAttrs_list PySem.F.slot_list_append PySem.F.type_list_append mt_append (qpe_var (i := 3) rfl v28_3 d28_3 c28_3) (qpa_cons (qpe_callD D_law_told hr g28__law_told pass0 (qpa_cons (qpe_ix ixa_tup (qpe_var (i := 6) rfl v28_6 d28_6 c28_6) qpe_int (fun _ _ => rfl)) (qpa_cons (qpe_comp rfl cok28_0 (qpi_tup (qpe_slice sl_tup (qpe_var (i := 6) rfl v28_6 d28_6 c28_6) (qpo_some qpe_int) qpo_none)) (fun _ _ _ _ _ => (qpg_name (i := 0) cok28_0.nd rfl (Or.inl kq28_0_0) (Or.inr kq28_0_0))) (fun _ _ _ _ _ => qpif_nil) (fun _ _ _ _ _ => (qpe_ix (ixaK_list K rfl) (qpe_var (i := 1) rfl vq28_0_1 dq28_0_1 cq28_0_1) (qpe_var (i := 0) rfl vq28_0_0 dq28_0_0 cq28_0_0) (fun _ _ => rfl)))) qpa_nil se_ListComp) se_Subscript) gd__law_told) qpa_nil se_Call)))))))))
 (qpss_one (qps_ret (qpe_var (i := 3) rfl v28_3 d28_3 c28_3))))))), ?_⟩
  (try dsimp only [cxOf])
  have lx := gg.len
  have ln := vc.ln
  walk_at "rd"
  rename_i r hr1 T0 hT0
  have c2 : Ch [] H (upd (upd H r (.lst [])) T0 (.tup [.int 0, .int 0])) := (Ch.new hr1 _).trans (Ch.new hT0 _)
  have g2 : (upd (upd H r (.lst [])) T0 (.tup [.int 0, .int 0])) r = some (.lst []) := g_new hT0 upd_same
  generalize upd (upd H r (.lst [])) T0 (.tup [.int 0, .int 0]) = H2 at c2 g2 ⊢
  have hg2 := c2.get hg (by simp)
  walk_at "rd"
  refine loop_tup (xs := xs) (fun i σ H' => Ch [] H H' ∧ H' r = some (.lst ((run row kept (gs.take i)).1.map bV)) ∧ ∃ u, σ = [some (.ref gp), some (.ref fl), some (.ref hl), some (.ref r), some (.int ((run row kept (gs.take i)).2.1 : Int)), some (.int ((run row kept (gs.take i)).2.2 : Int)), u]) ⟨c2, g2, _, rfl⟩ ?_ ?_ ?_
  · rintro i σ H' hi ⟨c, _⟩
    exact SqT.of (c.get hg (by simp))
  · clear c2 g2 hg2
    rintro i x σ H' hx ⟨c, gr, u, rfl⟩
    have hi : i < gs.length := by rw [← lx]; exact (List.getElem?_eq_some_iff.mp hx).1
    obtain ⟨g, hgi⟩ : ∃ g, gs[i]? = some g := ⟨_, List.getElem?_eq_getElem hi⟩
    obtain ⟨p, ep, hp⟩ := gg.at_ i g hgi
    rw [hx] at ep
    cases ep
    have hp1 : H' p = some (.tup g.vs) := c.get hp (by simp)
    have hf1 := c.get hf (by simp)
    have hh1 := c.get hh (by simp)
    have es : run row kept (gs.take (i + 1)) = step row kept (run row kept (gs.take i)) g := by rw [List.take_add_one, hgi]; exact run_snoc _ _
    have mono := cnt_mono (row := row) (kept := kept) gs (i + 1)
    have vi := vc.i
    have vk := vc.k
    have rl := run_len (row := row) (kept := kept) (gs.take i)
    rw [List.length_take, Nat.min_eq_left (by omega)] at rl
    rw [es] at mono ⊢
    generalize run row kept (gs.take i) = rs at *
    have sz : (rs.1.map bV).length ≤ 500 := by rw [List.length_map]; omega
    cases hpl : g.plain with
    | false =>
      cases g with
      | inp =>
        have hp1 : H' p = some (.tup [.str "in"]) := hp1
        have m1 : rs.2.1 + 1 ≤ (run row kept gs).2.1 := mono.1
        have hat := at_bs (bs := row) (n := rs.2.1) (by omega)
        walk_at "rd"
        refine ⟨?_, _, rfl⟩
        rw [upd_same]; simp [step, bV]
      | keep ff a =>
        have hp1 : H' p = some (.tup [.str "keep", .int (bi ff), .int (a : Int)]) := hp1
        have m1 : rs.2.2 + 1 ≤ (run row kept gs).2.2 := mono.2
        have hat := at_bs (bs := kept) (n := rs.2.2) (by omega)
        walk_at "rd"
        refine ⟨?_, _, rfl⟩
        rw [upd_same]; simp [step, bV]
      | zero => cases hpl
      | one => cases hpl
      | pick a b c => cases hpl
    | true =>
      obtain ⟨ev, n1, n2⟩ := plain_vs hpl
      rw [ev] at hp1
      have es2 : step row kept rs g = (rs.1 ++ [evp rs.1 g], rs.2) := by cases g <;> first | rfl | (cases hpl)
      rw [es2]
      have fo : ∀ a ∈ g.feeds, a < i := fun a ha => by
        cases g with
        | pick a' b' c' =>
          obtain ⟨h1, h2, h3⟩ := vc.ok i _ _ _ hgi
          simp only [Gt.feeds, List.mem_cons, List.not_mem_nil, or_false] at ha
          rcases ha with rfl | rfl | rfl <;> assumption
        | _ => exact absurd ha (by simp [Gt.feeds])
      have fl3 : g.feeds.length ≤ 3 := by cases g <;> simp [Gt.feeds]
      walk_at "rd"
      rw [n1]
      refine iteF ?_
      walk_at "rd"
      rw [n2]
      refine iteF ?_
      walk_at "rd"
      rename_i pt hpt
      have cP : Ch [] H' (upd H' pt (.tup (cutV (.str g.wd :: g.feeds.map nV) (some 1) none))) := Ch.new hpt _
      have gP : (upd H' pt (.tup (cutV (.str g.wd :: g.feeds.map nV) (some 1) none))) pt = some (.tup (g.feeds.map nV)) := by rw [upd_same, cut1]
      have grP : (upd H' pt (.tup (cutV (.str g.wd :: g.feeds.map nV) (some 1) none))) r = some (.lst (rs.1.map bV)) := g_new hpt gr
      generalize upd H' pt (.tup (cutV (.str g.wd :: g.feeds.map nV) (some 1) none)) = H3 at cP gP grP ⊢
      refine comp_tup (g.feeds.map nV) (fun j ys σ H'' => H'' = H3 ∧ ys = (g.feeds.take j).map (fun a => bV (rs.1.getD a false)) ∧ ∃ u, σ = [u, some (.ref r)]) (by rw [sizeLine_eq, List.length_map]; omega) ⟨rfl, rfl, _, rfl⟩ ?_ ?_ ?_
      · rintro j ys σ H'' hj ⟨rfl, rfl, _⟩
        exact ⟨by simp; omega, SqT.of gP⟩
      · rintro j ys σ H'' z hz ⟨rfl, rfl, u, rfl⟩
        rw [List.getElem?_map] at hz
        obtain ⟨a, ha, rfl⟩ := Option.map_eq_some_iff.mp hz
        have hat := at_bs (bs := rs.1) (n := a) (by rw [rl]; exact fo a (List.mem_of_getElem? ha))
        unfold nV
        walk_at "rd"
        refine ⟨?_, _, rfl⟩
        rw [List.take_add_one, ha]; simp [bV]
      rintro ys σ H'' ⟨rfl, rfl, _⟩
      intro D hD
      rw [List.length_map, List.take_length]
      refine ⟨D, g, rs.1, rfl, hpl, upd_same, fun H4 c4 => ?_⟩
      have cF : Ch [] H H4 := ((c.trans cP).trans (Ch.new hD _)).trans c4
      have g4 : H4 r = some (.lst (rs.1.map bV)) := c4.get (g_new hD grP) (by simp)
      clear c cP hD c4 grP gr
      walk_at "rd"
      refine ⟨?_, _, rfl⟩
      rw [upd_same]; simp
  · rintro σ H' ⟨c, gr, u, rfl⟩
    rw [lx, List.take_length] at gr
    walk_at "rd"
    exact q _ _ c hr1 gr
theorem v29_3 : Vs (defScope (top 29)) "_law_told_here" := by decide +kernel
theorem d29_3 : Nd "_law_told_here" := by decide +kernel
theorem c29_3 : Nc "_law_told_here" := by decide +kernel
theorem v29_2 : Vs (defScope (top 29)) "_law_kept" := by decide +kernel
theorem d29_2 : Nd "_law_kept" := by decide +kernel
theorem c29_2 : Nc "_law_kept" := by decide +kernel
theorem v29_1 : Vs (defScope (top 29)) "_law_fed" := by decide +kernel
theorem d29_1 : Nd "_law_fed" := by decide +kernel
theorem c29_1 : Nc "_law_fed" := by decide +kernel
theorem v29_0 : Vs (defScope (top 29)) "_law_place_here" := by decide +kernel
theorem d29_0 : Nd "_law_place_here" := by decide +kernel
theorem c29_0 : Nc "_law_place_here" := by decide +kernel
def spPB : Sp := fun vs H Q _ => ∃ (p fl hl tl : Addr) (x : Plc) (row kept tab : List Bool), vs = [.ref p, .ref fl, .ref hl, .ref tl] ∧ H p = some (.tup [.str x.1.s, .int (x.2 : Int)]) ∧ H fl = some (.lst (row.map bV)) ∧ H hl = some (.lst (kept.map bV)) ∧ H tl = some (.lst (tab.map bV)) ∧ x.2 < lim row.length kept.length tab.length x.1 ∧ ∀ H', Ch [] H H' → Q (.int (bi (hdv row kept tab x))) H'
theorem scPB : FnScope ["_law_place_here", "_law_fed", "_law_kept", "_law_told_here"] ["_law_place_here", "_law_fed", "_law_kept", "_law_told_here"] (defScope (top 29)) := ⟨rfl, rfl, rfl, by decide +kernel, rfl, by decide +kernel, by decide +kernel⟩
theorem ok_pb (F : Fun K "_law_place_bit" "_law_place_bit" (top 29) f fd) : FnOk P w K mg base CX0 (k + 1) f fd ["_law_place_here", "_law_fed", "_law_kept", "_law_told_here"] spPB := by
  have nd := scPB.nd
  refine F.ok scPB (fun vs H Q E h => by obtain ⟨p, fl, hl, tl, x, row, kept, tab, rfl, _⟩ := h; rfl) (fun cdv A outer s H vs Q E hr h => ?_)
  obtain ⟨p, fl, hl, tl, x, row, kept, tab, rfl, hp, hf, hh, ht, lx, q⟩ := h
  refine ⟨_, (Pr.h (qpss_one (qps_ret (qpe_ix ixa_list (qpe_ixD (qpe_disp (qpps_cons qpe_str (qpe_var (i := 1) rfl v29_1 d29_1 c29_1) (qpps_cons qpe_str (qpe_var (i := 2) rfl v29_2 d29_2 c29_2) (qpps_cons qpe_str (qpe_var (i := 3) rfl v29_3 d29_3 c29_3) qpps_nil))) rfl rfl (by intro z; cases z) (by decide)) (qpe_ix ixa_tup (qpe_var (i := 0) rfl v29_0 d29_0 c29_0) qpe_int (fun _ _ => rfl)) (fun _ _ => rfl)) (qpe_ix ixa_tup (qpe_var (i := 0) rfl v29_0 d29_0 c29_0) qpe_int (fun _ _ => rfl)) (fun _ _ => rfl))))), ?_⟩
  (try dsimp only [cxOf])
  walk_at "rd"
  rename_i d hd
  refine ⟨(show _ = List.map (fun kv => (kV kv.1, kv.2)) (hdK fl hl tl) from rfl), (by show (3 : Nat) ≤ 15; decide), ?_⟩
  rw [show mergeK [] (hdK fl hl tl) = hdK fl hl tl from rfl]
  have c1 : Ch [] H (upd (upd H d (.dK [])) d (.dK (hdK fl hl tl))) := Ch.own hd (Ch.new hd _)
  have g1 : Hd (upd (upd H d (.dK [])) d (.dK (hdK fl hl tl))) d fl hl tl row kept tab := ⟨upd_same, c1.get hf (by simp), c1.get hh (by simp), c1.get ht (by simp)⟩
  generalize upd (upd H d (.dK [])) d (.dK (hdK fl hl tl)) = H1 at c1 g1 ⊢
  have hp1 := c1.get hp (by simp)
  have hv := hd_val fl hl tl x.1
  obtain ⟨zs, z1, z2⟩ := g1.get x lx
  walk_at "rd"
  refine ⟨Or.inl (Or.inl g1.d), hv, ?_⟩
  walk_at "rd"
  exact q _ c1
theorem l30_3 : Lc (defScope (top 30)) "_law_told_here" := by decide +kernel
theorem v30_0 : Vs (defScope (top 30)) "_law_tables_here" := by decide +kernel
theorem d30_0 : Nd "_law_tables_here" := by decide +kernel
theorem c30_0 : Nc "_law_tables_here" := by decide +kernel
theorem l30_5 : Lc (defScope (top 30)) "_law_bits_here" := by decide +kernel
theorem l30_4 : Lc (defScope (top 30)) "_law_leaves" := by decide +kernel
theorem l30_6 : Lc (defScope (top 30)) "_law_spot" := by decide +kernel
theorem g30_enumerate : Gi (defScope (top 30)) "enumerate" := by decide +kernel
theorem v30_4 : Vs (defScope (top 30)) "_law_leaves" := by decide +kernel
theorem d30_4 : Nd "_law_leaves" := by decide +kernel
theorem c30_4 : Nc "_law_leaves" := by decide +kernel
theorem l30_8 : Lc (defScope (top 30)) "_law_leaf" := by decide +kernel
theorem l30_7 : Lc (defScope (top 30)) "_law_k" := by decide +kernel
theorem v30_6 : Vs (defScope (top 30)) "_law_spot" := by decide +kernel
theorem d30_6 : Nd "_law_spot" := by decide +kernel
theorem c30_6 : Nc "_law_spot" := by decide +kernel
theorem v30_7 : Vs (defScope (top 30)) "_law_k" := by decide +kernel
theorem d30_7 : Nd "_law_k" := by decide +kernel
theorem c30_7 : Nc "_law_k" := by decide +kernel
theorem g30__law_place_bit : Gi (defScope (top 30)) "_law_place_bit" := by decide +kernel
theorem v30_3 : Vs (defScope (top 30)) "_law_told_here" := by decide +kernel
theorem d30_3 : Nd "_law_told_here" := by decide +kernel
theorem c30_3 : Nc "_law_told_here" := by decide +kernel
theorem v30_2 : Vs (defScope (top 30)) "_law_kept" := by decide +kernel
theorem d30_2 : Nd "_law_kept" := by decide +kernel
theorem c30_2 : Nc "_law_kept" := by decide +kernel
theorem v30_1 : Vs (defScope (top 30)) "_law_fed" := by decide +kernel
theorem d30_1 : Nd "_law_fed" := by decide +kernel
theorem c30_1 : Nc "_law_fed" := by decide +kernel
theorem v30_8 : Vs (defScope (top 30)) "_law_leaf" := by decide +kernel
theorem d30_8 : Nd "_law_leaf" := by decide +kernel
theorem c30_8 : Nc "_law_leaf" := by decide +kernel
theorem v30_5 : Vs (defScope (top 30)) "_law_bits_here" := by decide +kernel
theorem d30_5 : Nd "_law_bits_here" := by decide +kernel
theorem c30_5 : Nc "_law_bits_here" := by decide +kernel
def spTBt : Sp := fun vs H Q _ => ∃ (tt fl hl : Addr) (ts : List Tb) (row kept : List Bool), vs = [.ref tt, .ref fl, .ref hl] ∧ (∃ ps, H tt = some (.tup (ps.map V.ref)) ∧ Paired (TbT H) ts ps) ∧ H fl = some (.lst (row.map bV)) ∧ H hl = some (.lst (kept.map bV)) ∧ (∀ (i : Nat) (t : Tb), ts[i]? = some t → t.ok row.length kept.length i) ∧ ts.length ≤ 12 ∧ ∀ r H', Ch [] H H' → H r = none → H' r = some (.lst ((upT ts row kept ts.length).map bV)) → Q (.ref r) H'
theorem scTBt : FnScope ["_law_tables_here", "_law_fed", "_law_kept", "_law_told_here", "_law_leaves", "_law_bits_here", "_law_spot", "_law_k", "_law_leaf"] ["_law_tables_here", "_law_fed", "_law_kept"] (defScope (top 30)) := ⟨rfl, rfl, rfl, by decide +kernel, rfl, by decide +kernel, by decide +kernel⟩
theorem ok_tbt (F : Fun K "_law_table_bits" "_law_table_bits" (top 30) f fd) (D_law_place_bit : DefOk P w K mg base CX0 k "_law_place_bit" ["_law_place_here", "_law_fed", "_law_kept", "_law_told_here"] spPB) (z_enumerate : mg "enumerate" = none) : FnOk P w K mg base CX0 (k + 1) f fd ["_law_tables_here", "_law_fed", "_law_kept"] spTBt := by
  have nd := scTBt.nd
  refine F.ok scTBt (fun vs H Q E h => by obtain ⟨tt, fl, hl, ts, row, kept, rfl, _⟩ := h; rfl) (fun cdv A outer s H vs Q E hr h => ?_)
  obtain ⟨tt, fl, hl, ts, row, kept, rfl, ⟨tps, ht, tt1⟩, hf, hh, ok, t12, q⟩ := h
  have lt := Paired.length tt1
  refine ⟨_, (Pr.h (qpss_cons (qps_set (i := 3) nd rfl l30_3 (qpe_lst qpa_nil))
 (qpss_cons (qps_loop PassesOwn.never rfl (qpi_tup (qpe_var (i := 0) rfl v30_0 d30_0 c30_0)) (qpg_tup rfl (qpgs_cons (qpg_name (i := 4) nd rfl l30_4) (qpgs_cons (qpg_name (i := 5) nd rfl l30_5) qpgs_nil)))
  (qpss_cons (qps_set (i := 6) nd rfl l30_6 qpe_int)
 (qpss_cons (qps_loop PassesOwn.never rfl (qpi_enum .tuple g30_enumerate z_enumerate (qpa_cons (qpe_var (i := 4) rfl v30_4 d30_4 c30_4) qpa_nil se_Name)) (qpg_tup rfl (qpgs_cons (qpg_name (i := 7) nd rfl l30_7) (qpgs_cons (qpg_name (i := 8) nd rfl l30_8) qpgs_nil)))
  (qpss_one (qps_set (i := 6) nd rfl l30_6 (qpe_op op_add (qpe_var (i := 6) rfl v30_6 d30_6 c30_6) (qpe_op op_mul (qpe_ix ixa_list (qpe_lst (qpa_cons qpe_int (qpa_cons qpe_int (qpa_cons qpe_int (qpa_cons qpe_int qpa_nil se_Constant) se_Constant) se_Constant) se_Constant)) (qpe_var (i := 7) rfl v30_7 d30_7 c30_7) (fun _ _ => rfl)) (qpe_callD D_law_place_bit hr g30__law_place_bit pass0 (qpa_cons (qpe_var (i := 8) rfl v30_8 d30_8 c30_8) (qpa_cons (qpe_var (i := 1) rfl v30_1 d30_1 c30_1) (qpa_cons (qpe_var (i := 2) rfl v30_2 d30_2 c30_2) (qpa_cons (qpe_var (i := 3) rfl v30_3 d30_3 c30_3) qpa_nil se_Name) se_Name) se_Name) se_Name) gd__law_place_bit))))))
 (qpss_one (qps_expr (qpe_bm PySem.F.plainAttrs_list PySem.F.slot_list_append PySem.F.type_list_append mt_append (qpe_var (i := 3) rfl v30_3 d30_3 c30_3) (qpa_cons (qpe_op op_mod (qpe_op op_shr (qpe_var (i := 5) rfl v30_5 d30_5 c30_5) (qpe_var (i := 6) rfl v30_6 d30_6 c30_6)) qpe_int) qpa_nil se_BinOp)))))))
 (qpss_one (qps_ret (qpe_var (i := 3) rfl v30_3 d30_3 c30_3)))))), ?_⟩
  (try dsimp only [cxOf])
  walk_at "rd"
  rename_i r hr1
  have nfr : fl ≠ r := ne_of_none hf hr1
  have nhr : hl ≠ r := ne_of_none hh hr1
  refine loop_tup (xs := tps.map V.ref) (fun i σ H' => Ch [] H H' ∧ H' r = some (.lst ((upT ts row kept i).map bV)) ∧ ∃ u4 u5 u6 u7 u8, σ = [some (.ref tt), some (.ref fl), some (.ref hl), some (.ref r), u4, u5, u6, u7, u8]) ⟨Ch.new hr1 _, upd_same, _, _, _, _, _, rfl⟩ ?_ ?_ ?_
  · rintro i σ H' hi ⟨c, _⟩
    exact SqT.of (c.get ht (by simp))
  · rintro i z σ H' hz ⟨c, gr, u4, u5, u6, u7, u8, rfl⟩
    obtain ⟨p, x, rfl, ex', t1⟩ := paired_get tt1 i z hz
    obtain ⟨lp, sps, hp, hs, ws⟩ := t1.tu (Tu.same c)
    have hi : i < ts.length := (List.getElem?_eq_some_iff.mp ex').1
    have okt := ok i x ex'
    have l4 := okt.l4
    have ls := Paired.length ws
    rw [List.length_map] at ls
    have ul := upT_len (ts := ts) (row := row) (kept := kept) (i := i) (by omega)
    rw [upT_succ (row := row) (kept := kept) ex']
    generalize upT ts row kept i = tab at *
    obtain ⟨bs, eb⟩ : ∃ bs, x.ls.map (hdv row kept tab) = bs := ⟨_, rfl⟩
    have lb : bs.length = sps.length := by rw [← eb, List.length_map]; exact ls
    walk_at "rd"
    refine loop_enum (xs := sps.map V.ref) (fun j σ H'' => Ch [] H' H'' ∧ ∃ u7 u8, σ = [some (.ref tt), some (.ref fl), some (.ref hl), some (.ref r), some (.ref lp), some (.int x.bits), some (.int (num (bs.take j) : Int)), u7, u8]) ⟨Ch.refl _ _, _, _, rfl⟩ ?_ ?_ ?_
    · rintro j σ H'' hj ⟨c2, _⟩
      exact SqT.of (c2.get hs (by simp))
    · rintro j z σ H'' T hz ⟨c2, u7, u8, rfl⟩ hT
      obtain ⟨pl, y, rfl, ey, hpl⟩ := pl_get ws j z hz
      have ly := okt.lo y (List.mem_of_getElem? ey)
      have hj : j < x.ls.length := (List.getElem?_eq_some_iff.mp ey).1
      have c3 := c2.trans (Ch.new hT (HO.tup [.int (j : Int), .ref pl]))
      have hpl3 := c3.get hpl (by simp)
      have hf3 := c3.get (c.get hf (by simp)) (by simp)
      have hh3 := c3.get (c.get hh (by simp)) (by simp)
      have gr3 := c3.get gr (by simp)
      have ly' : y.2 < lim row.length kept.length tab.length y.1 := by rw [ul]; exact ly
      have hpw : atI [V.int 1, V.int 2, V.int 4, V.int 8] (j : Int) = some (.int (2 ^ j)) := by
        have e4 : j = 0 ∨ j = 1 ∨ j = 2 ∨ j = 3 := by omega
        rcases e4 with rfl | rfl | rfl | rfl <;> rfl
      obtain ⟨p0, p1⟩ := pow16 (j := j) (by omega)
      have ebj : bs[j]? = some (hdv row kept tab y) := by rw [← eb, List.getElem?_map, ey]; rfl
      have en : ((num (bs.take (j + 1)) : Nat) : Int) = num (bs.take j) + 2 ^ j * bi (hdv row kept tab y) := by
        rw [List.take_add_one, ebj]
        show ((num (bs.take j ++ [_]) : Nat) : Int) = _
        rw [num_snoc, List.length_take, Nat.min_eq_left (by omega)]
      rw [en]
      walk_at "rd"
    · rintro σ H'' ⟨c2, u7, u8, rfl⟩
      rw [List.length_map, ← lb, List.take_length]
      have gr2 := c2.get gr (by simp)
      have tl12 : (tab.map bV).length ≤ 12 := by rw [List.length_map]; omega
      have ev := tb_bi (x.bits / 2 ^ num bs)
      have c02 := c.trans c2
      clear c c2 gr hp hs ws
      walk_at "rd"
      refine ⟨?_, _, _, _, _, _, rfl⟩
      rw [upd_same]
      dsimp only
      rw [Int.toNat_natCast, ev, eb, List.map_append]
      rfl
  · rintro σ H' ⟨c, gr, u4, u5, u6, u7, u8, rfl⟩
    rw [List.length_map, ← lt] at gr
    walk_at "rd"
    exact q _ _ c hr1 gr
end
end

section
theorem free_b {H H2 : Hp} {b p : Addr} {o : HO} (c : Ch [b] H H2) (hb : H2 b = some o) (h : H2 p = none) : H p = none := by
  cases e : H p with
  | none => rfl
  | some o' =>
    by_cases z : p = b
    · rw [z, hb] at h; cases h
    · rw [c.get e (by simpa using z)] at h; cases h
structure DQ (K : PySem.W.Frag) (H H' : Hp) (a b : Addr) (ns : List Int) (c : Int) : Prop where
  ch : Ch [b] H H'
  hS : Scr K H' a ns
  hb : H' b = some (.lst [.int c])
section
variable {K : PySem.W.Frag} {H H' H'' : Hp} {a b q : Addr} {ns : List Int} {c c' : Int}
theorem DQ.next (d : DQ K H H' a b ns c) (e : Ch [b] H' H'') (h : H'' b = some (.lst [.int c'])) : DQ K H H'' a b ns c' := ⟨d.ch.trans e, d.hS.ch d.hb e, h⟩
theorem DQ.new (d : DQ K H H' a b ns c) (e : Ch [] H' H'') : DQ K H H'' a b ns c := ⟨d.ch.trans e.wk, d.hS.same e, e.get d.hb (by simp)⟩
theorem DQ.own {xs zs : List V} (d : DQ K H H' a b ns c) (h0 : H q = none) (hq : H' q = some (.lst xs)) (nb : b ≠ q) : DQ K H (upd H' q (.lst zs)) a b ns c := ⟨Ch.own h0 d.ch, d.hS.ch hq Ch.put, g_put nb d.hb⟩
theorem DQ.free (d : DQ K H H' a b ns c) (h : H' q = none) : H q = none := free_b d.ch d.hb h
theorem DQ.nb (d : DQ K H H' a b ns c) (h : H' q = none) : b ≠ q := ne_of_none d.hb h
theorem DQ.trans (d : DQ K H H' a b ns c) (e : DQ K H' H'' a b ns c') : DQ K H H'' a b ns c' := ⟨d.ch.trans e.ch, e.hS, e.hb⟩
theorem DQ.kl {ex : List Addr} (d : DQ K H H' a b ns c) (h : H b = some (.lst [.int c'])) (m : b ∈ ex) : Kl ex H H' := Kl.one d.ch h m
end
structure TL (K : PySem.W.Frag) (H H' : Hp) (a b : Addr) (ns : List Int) (tl : Addr) (ins keeps : Nat) (ts : List Tb) (c : Int) : Prop where
  d : DQ K H H' a b ns c
  tb : ∃ ps, H' tl = some (.lst (ps.map V.ref)) ∧ Paired (TbL [b, tl] H') ts ps
  ok : ∀ (i : Nat) (t : Tb), ts[i]? = some t → t.ok ins keeps i
structure KI (K : PySem.W.Frag) (H H' : Hp) (a b : Addr) (ns : List Int) (kl : Addr) (ins keeps n : Nat) (ks : List Kp) (c : Int) : Prop where
  d : DQ K H H' a b ns c
  ex : ∃ qs, H' kl = some (.lst (qs.map V.ref)) ∧ Paired (KpAt H') ks qs
  lo : ∀ x ∈ ks, x.pl.2 < lim ins keeps n x.pl.1
structure CI (c c' : Int) (j : Int) : Prop where
  lo : c' ≤ c
  hi : c ≤ c' + j
theorem TbL.weak {b t : Addr} {H : Hp} {x : Tb} {p : Addr} (s : TbL [b, t] H x p) : TbL [b] H x p := let ⟨lp, ps, n, a, b, w⟩ := s; ⟨lp, ps, by simp only [List.mem_cons, List.not_mem_nil, or_false, not_or] at n ⊢; exact n.1, a, b, w⟩
theorem WsAt.snoc {H : Hp} {x : Plc} {p : Addr} (hp : H p = some (.tup [.str x.1.s, .int (x.2 : Int)])) {ls : List Plc} {ps : List Addr} (s : WsAt H (ls.map plK) ps) : WsAt H ((ls ++ [x]).map plK) (ps ++ [p]) := by
  rw [List.map_append]
  exact paired_snoc (R := fun (k : Wr) (p : Addr) => H p = some (.tup (k.map kV))) hp s
theorem room_at {n : Nat} (h : n ≤ 4) : atI [V.int 2, V.int 4, V.int 16, V.int 256, V.int 65536] (n : Int) = some (.int (room n)) := by
  have e5 : n = 0 ∨ n = 1 ∨ n = 2 ∨ n = 3 ∨ n = 4 := by omega
  rcases e5 with rfl | rfl | rfl | rfl | rfl <;> rfl
theorem room_pos {n : Nat} (h : n ≤ 4) : 0 < room n ∧ room n ≤ 65536 := by
  have e5 : n = 0 ∨ n = 1 ∨ n = 2 ∨ n = 3 ∨ n = 4 := by omega
  rcases e5 with rfl | rfl | rfl | rfl | rfl <;> decide
structure WD (wd : Int) (t : Nat) : Prop where
  lo : 0 ≤ wd
  hi : wd ≤ 4
  ps : 0 < wd → 0 < t
structure BD (v : Int) (wd : Nat) : Prop where
  lo : 0 ≤ v
  hi : v < room wd
theorem pv1 (x : Int) : ∃ v, atI [V.int 2] (x % 1) = some (.int v) ∧ BD v 1 := by
  have : x % 1 = 0 := by omega
  rw [this]; exact ⟨2, rfl, by decide, by decide⟩
theorem pv2 (x : Int) : ∃ v, atI [V.int 10, V.int 12] (x % 2) = some (.int v) ∧ BD v 2 := by
  have : x % 2 = 0 ∨ x % 2 = 1 := by omega
  rcases this with h | h <;> rw [h] <;> exact ⟨_, rfl, by decide, by decide⟩
theorem pv3 (x : Int) : ∃ v, atI [V.int 170, V.int 204, V.int 240] (x % 3) = some (.int v) ∧ BD v 3 := by
  have : x % 3 = 0 ∨ x % 3 = 1 ∨ x % 3 = 2 := by omega
  rcases this with h | h | h <;> rw [h] <;> exact ⟨_, rfl, by decide, by decide⟩
theorem pv4 (x : Int) : ∃ v, atI [V.int 43690, V.int 52428, V.int 61680, V.int 65280] (x % 4) = some (.int v) ∧ BD v 4 := by
  have : x % 4 = 0 ∨ x % 4 = 1 ∨ x % 4 = 2 ∨ x % 4 = 3 := by omega
  rcases this with h | h | h | h <;> rw [h] <;> exact ⟨_, rfl, by decide, by decide⟩
structure LV (K : PySem.W.Frag) (H H' : Hp) (a b : Addr) (ns : List Int) (ins keeps n : Nat) (ls : List Plc) (ys : List V) (c : Int) : Prop where
  d : DQ K H H' a b ns c
  ex : ∃ qs, ys = qs.map V.ref ∧ WsAt H' (ls.map plK) qs
  lo : ∀ p ∈ ls, p.2 < lim ins keeps n p.1
structure LH (K : PySem.W.Frag) (H H' : Hp) (a b : Addr) (ns : List Int) (ins keeps n : Nat) (ks : List Kp) (ys : List V) (c : Int) : Prop where
  d : DQ K H H' a b ns c
  ex : ∃ qs, ys = qs.map V.ref ∧ Paired (KpAt H') ks qs
  lo : ∀ x ∈ ks, x.pl.2 < lim ins keeps n x.pl.1
section
variable {P : Program} {w : World} {K : PySem.W.Frag} {mg : Str → Option Value} {base : Heap} {f : Addr} {fd : FuncData} {k : Nat}
theorem gd__law_place : Nd "_law_place" := by decide +kernel
theorem l31_5 : Lc (defScope (top 31)) "_law_m" := by decide +kernel
theorem g31__law_next : Gi (defScope (top 31)) "_law_next" := by decide +kernel
theorem v31_1 : Vs (defScope (top 31)) "_law_at" := by decide +kernel
theorem d31_1 : Nd "_law_at" := by decide +kernel
theorem c31_1 : Nc "_law_at" := by decide +kernel
theorem v31_0 : Vs (defScope (top 31)) "_law_script" := by decide +kernel
theorem d31_0 : Nd "_law_script" := by decide +kernel
theorem c31_0 : Nc "_law_script" := by decide +kernel
theorem v31_2 : Vs (defScope (top 31)) "_law_ins" := by decide +kernel
theorem d31_2 : Nd "_law_ins" := by decide +kernel
theorem c31_2 : Nc "_law_ins" := by decide +kernel
theorem v31_3 : Vs (defScope (top 31)) "_law_keeps" := by decide +kernel
theorem d31_3 : Nd "_law_keeps" := by decide +kernel
theorem c31_3 : Nc "_law_keeps" := by decide +kernel
theorem v31_4 : Vs (defScope (top 31)) "_law_ahead" := by decide +kernel
theorem d31_4 : Nd "_law_ahead" := by decide +kernel
theorem c31_4 : Nc "_law_ahead" := by decide +kernel
theorem v31_5 : Vs (defScope (top 31)) "_law_m" := by decide +kernel
theorem d31_5 : Nd "_law_m" := by decide +kernel
theorem c31_5 : Nc "_law_m" := by decide +kernel
structure LP (c : Int) (i kk h : Nat) : Prop where
  c0 : 0 ≤ c
  c1 : c < 2 ^ 55
  i20 : i ≤ 20
  k20 : kk ≤ 20
  h20 : h ≤ 20
  ps : 0 < i + kk + h
def spPlc (K : PySem.W.Frag) : Sp := fun vs H Q _ => ∃ (a b : Addr) (ns : List Int) (c : Int) (i kk h : Nat), vs = [.ref a, .ref b, .int (i : Int), .int (kk : Int), .int (h : Int)] ∧ Scr K H a ns ∧ H b = some (.lst [.int c]) ∧ LP c i kk h ∧ ∀ (p : Addr) (x : Plc) (H' : Hp), Ch [b] H H' → H' b = some (.lst [.int (c + 1)]) → x.2 < lim i kk h x.1 → H' p = some (.tup [.str x.1.s, .int (x.2 : Int)]) → Q (.ref p) H'
theorem scPlc : FnScope ["_law_script", "_law_at", "_law_ins", "_law_keeps", "_law_ahead", "_law_m"] ["_law_script", "_law_at", "_law_ins", "_law_keeps", "_law_ahead"] (defScope (top 31)) := ⟨rfl, rfl, rfl, by decide +kernel, rfl, by decide +kernel, by decide +kernel⟩
theorem ok_plc (F : Fun K "_law_place" "_law_place" (top 31) f fd) (D_law_next : DefOk P w K mg base CX0 k "_law_next" ["_law_script", "_law_at"] (spNext K)) : FnOk P w K mg base CX0 (k + 1) f fd ["_law_script", "_law_at", "_law_ins", "_law_keeps", "_law_ahead"] (spPlc K) := by
  have nd := scPlc.nd
  refine F.ok scPlc (fun vs H Q E h => by obtain ⟨a, b, ns, c, i, kk, h, rfl, _⟩ := h; rfl) (fun cdv A outer s H vs Q E hr h => ?_)
  obtain ⟨a, b, ns, c, i, kk, h, rfl, hS, hb, ⟨c0, c1, i20, k20, h20, ps⟩, q⟩ := h
  refine ⟨_, (Pr.h (qpss_cons (qps_set (i := 5) nd rfl l31_5 (qpe_op op_mod (qpe_callD D_law_next hr g31__law_next pass0 (qpa_cons (qpe_var (i := 0) rfl v31_0 d31_0 c31_0) (qpa_cons (qpe_var (i := 1) rfl v31_1 d31_1 c31_1) qpa_nil se_Name) se_Name) gd__law_next) (qpe_op op_add (qpe_op op_add (qpe_var (i := 2) rfl v31_2 d31_2 c31_2) (qpe_var (i := 3) rfl v31_3 d31_3 c31_3)) (qpe_op op_mul qpe_int (qpe_var (i := 4) rfl v31_4 d31_4 c31_4)))))
 (qpss_cons (qps_if (qpt_cmpR op_lt (qpe_var (i := 5) rfl v31_5 d31_5 c31_5) (qpe_var (i := 2) rfl v31_2 d31_2 c31_2) (nomark _))
  (qpss_one (qps_ret (qpe_tup (qpa_cons qpe_str (qpa_cons (qpe_var (i := 5) rfl v31_5 d31_5 c31_5) qpa_nil se_Name) se_Constant))))
  qpss_nil)
 (qpss_cons (qps_if (qpt_cmpR op_lt (qpe_var (i := 5) rfl v31_5 d31_5 c31_5) (qpe_op op_add (qpe_var (i := 2) rfl v31_2 d31_2 c31_2) (qpe_var (i := 3) rfl v31_3 d31_3 c31_3)) (nomark _))
  (qpss_one (qps_ret (qpe_tup (qpa_cons qpe_str (qpa_cons (qpe_op op_sub (qpe_var (i := 5) rfl v31_5 d31_5 c31_5) (qpe_var (i := 2) rfl v31_2 d31_2 c31_2)) qpa_nil se_BinOp) se_Constant))))
  qpss_nil)
 (qpss_one (qps_ret (qpe_tup (qpa_cons qpe_str (qpa_cons (qpe_op op_mod (qpe_op op_sub (qpe_op op_sub (qpe_var (i := 5) rfl v31_5 d31_5 c31_5) (qpe_var (i := 2) rfl v31_2 d31_2 c31_2)) (qpe_var (i := 3) rfl v31_3 d31_3 c31_3)) (qpe_var (i := 4) rfl v31_4 d31_4 c31_4)) qpa_nil se_BinOp) se_Constant)))))))), ?_⟩
  (try dsimp only [cxOf])
  walk_at "rd"
  rename_i n H1 n0 n1 ch1 b1
  have tot : (0 : Int) < (i : Int) + (kk : Int) + 2 * (h : Int) := by omega
  have e0 : 0 ≤ n % ((i : Int) + (kk : Int) + 2 * (h : Int)) := Int.emod_nonneg _ (by omega)
  have e1 := Int.emod_lt_of_pos n tot
  obtain ⟨m, hm⟩ : ∃ m, m = n % ((i : Int) + (kk : Int) + 2 * (h : Int)) := ⟨_, rfl⟩
  rw [← hm] at e0 e1
  walk_at "rd"
  refine ite2 (fun h1 => ?_) (fun h1 => ?_)
  · have h1 : m < (i : Int) := by rw [hm]; simpa using h1
    walk_at "rd"
    rename_i T hT
    refine q T (.i, m.toNat) _ (ch1.trans (Ch.new hT _)) (g_new hT b1) (by show m.toNat < i; omega) ?_
    rw [upd_same]
    rw [hm] at e0 ⊢
    show _ = some (HO.tup [V.str "in", V.int ((n % ((i : Int) + (kk : Int) + 2 * (h : Int))).toNat : Int)])
    rw [Int.toNat_of_nonneg e0]
  · have h1 : ¬ m < (i : Int) := by rw [hm]; simpa using h1
    walk_at "rd"
    refine ite2 (fun h2 => ?_) (fun h2 => ?_)
    · have h2 : m < (i : Int) + (kk : Int) := by rw [hm]; simpa using h2
      walk_at "rd"
      rename_i T hT
      refine q T (.k, (m - i).toNat) _ (ch1.trans (Ch.new hT _)) (g_new hT b1) (by show (m - i).toNat < kk; omega) ?_
      rw [upd_same]
      rw [hm] at h1 ⊢
      show _ = some (HO.tup [V.str "keep", V.int ((n % ((i : Int) + (kk : Int) + 2 * (h : Int)) - i).toNat : Int)])
      rw [Int.toNat_of_nonneg (by omega)]
    · have h2 : ¬ m < (i : Int) + (kk : Int) := by rw [hm]; simpa using h2
      have hp : (0 : Int) < (h : Int) := by omega
      have e2 : 0 ≤ (m - i - kk) % (h : Int) := Int.emod_nonneg _ (by omega)
      have e3 := Int.emod_lt_of_pos (m - i - kk) hp
      walk_at "rd"
      rename_i T hT
      refine q T (.t, ((m - i - kk) % (h : Int)).toNat) _ (ch1.trans (Ch.new hT _)) (g_new hT b1) (by show ((m - i - kk) % (h : Int)).toNat < h; omega) ?_
      rw [upd_same]
      rw [hm] at e2 ⊢
      show _ = some (HO.tup [V.str "table", V.int (((n % ((i : Int) + (kk : Int) + 2 * (h : Int)) - i - kk) % (h : Int)).toNat : Int)])
      rw [Int.toNat_of_nonneg e2]
theorem l32_2 : Lc (defScope (top 32)) "_law_m" := by decide +kernel
theorem g32__law_next : Gi (defScope (top 32)) "_law_next" := by decide +kernel
theorem v32_1 : Vs (defScope (top 32)) "_law_at" := by decide +kernel
theorem d32_1 : Nd "_law_at" := by decide +kernel
theorem c32_1 : Nc "_law_at" := by decide +kernel
theorem v32_0 : Vs (defScope (top 32)) "_law_script" := by decide +kernel
theorem d32_0 : Nd "_law_script" := by decide +kernel
theorem c32_0 : Nc "_law_script" := by decide +kernel
theorem v32_2 : Vs (defScope (top 32)) "_law_m" := by decide +kernel
theorem d32_2 : Nd "_law_m" := by decide +kernel
theorem c32_2 : Nc "_law_m" := by decide +kernel
theorem l32_5 : Lc (defScope (top 32)) "_law_many" := by decide +kernel
theorem l32_4 : Lc (defScope (top 32)) "_law_keeps" := by decide +kernel
theorem l32_3 : Lc (defScope (top 32)) "_law_ins" := by decide +kernel
theorem l32_6 : Lc (defScope (top 32)) "_law_rows" := by decide +kernel
theorem g32_range : Gi (defScope (top 32)) "range" := by decide +kernel
theorem v32_5 : Vs (defScope (top 32)) "_law_many" := by decide +kernel
theorem d32_5 : Nd "_law_many" := by decide +kernel
theorem c32_5 : Nc "_law_many" := by decide +kernel
theorem l32_7 : Lc (defScope (top 32)) "_law_k" := by decide +kernel
theorem l32_8 : Lc (defScope (top 32)) "_law_n" := by decide +kernel
theorem l32_9 : Lc (defScope (top 32)) "_law_wide" := by decide +kernel
theorem v32_3 : Vs (defScope (top 32)) "_law_ins" := by decide +kernel
theorem d32_3 : Nd "_law_ins" := by decide +kernel
theorem c32_3 : Nc "_law_ins" := by decide +kernel
theorem v32_4 : Vs (defScope (top 32)) "_law_keeps" := by decide +kernel
theorem d32_4 : Nd "_law_keeps" := by decide +kernel
theorem c32_4 : Nc "_law_keeps" := by decide +kernel
theorem v32_7 : Vs (defScope (top 32)) "_law_k" := by decide +kernel
theorem d32_7 : Nd "_law_k" := by decide +kernel
theorem c32_7 : Nc "_law_k" := by decide +kernel
theorem v32_8 : Vs (defScope (top 32)) "_law_n" := by decide +kernel
theorem d32_8 : Nd "_law_n" := by decide +kernel
theorem c32_8 : Nc "_law_n" := by decide +kernel
theorem l32_10 : Lc (defScope (top 32)) "_law_leaves" := by decide +kernel
theorem v32_9 : Vs (defScope (top 32)) "_law_wide" := by decide +kernel
theorem d32_9 : Nd "_law_wide" := by decide +kernel
theorem c32_9 : Nc "_law_wide" := by decide +kernel
def csc32_0 : Scope := { kind := PySem.ScopeKind.function, names := [ (PySem.Str.ofString ".0", PySem.NameKind.local), (PySem.Str.ofString "_law_leaf", PySem.NameKind.local), (PySem.Str.ofString "_law_place", PySem.NameKind.globalImplicit), (PySem.Str.ofString "_law_at", PySem.NameKind.free), (PySem.Str.ofString "_law_ins", PySem.NameKind.free), (PySem.Str.ofString "_law_k", PySem.NameKind.free), (PySem.Str.ofString "_law_keeps", PySem.NameKind.free), (PySem.Str.ofString "_law_script", PySem.NameKind.free)], isGenerator := false, isCoroutine := false, more := [] : PySem.Scope }
theorem cok32_0 : CompOk csc32_0 (defScope (top 32)) (["_law_leaf"] : List Str) (["_law_script", "_law_at", "_law_m", "_law_ins", "_law_keeps", "_law_many", "_law_rows", "_law_k", "_law_n", "_law_wide", "_law_leaves", "_law_bits_here", "_law_held", "_law_outs"] : List Str) [0, 1, 3, 4, 7] (["_law_leaf", "_law_script", "_law_at", "_law_ins", "_law_keeps", "_law_k"] : List Str) := compOk rfl (by decide +kernel) (by decide +kernel) (by decide +kernel) (by decide +kernel) rfl (by decide +kernel)
theorem kq32_0_0 : (relab csc32_0 (defScope (top 32))).names.lookup (Str.ofString "_law_leaf") = some NameKind.local := by decide +kernel
theorem gq32_0__law_place : Gi (relab csc32_0 (defScope (top 32))) "_law_place" := by decide +kernel
theorem vq32_0_5 : Vs (relab csc32_0 (defScope (top 32))) "_law_k" := by decide +kernel
theorem dq32_0_5 : Nd "_law_k" := by decide +kernel
theorem cq32_0_5 : Nc "_law_k" := by decide +kernel
theorem vq32_0_4 : Vs (relab csc32_0 (defScope (top 32))) "_law_keeps" := by decide +kernel
theorem dq32_0_4 : Nd "_law_keeps" := by decide +kernel
theorem cq32_0_4 : Nc "_law_keeps" := by decide +kernel
theorem vq32_0_3 : Vs (relab csc32_0 (defScope (top 32))) "_law_ins" := by decide +kernel
theorem dq32_0_3 : Nd "_law_ins" := by decide +kernel
theorem cq32_0_3 : Nc "_law_ins" := by decide +kernel
theorem vq32_0_2 : Vs (relab csc32_0 (defScope (top 32))) "_law_at" := by decide +kernel
theorem dq32_0_2 : Nd "_law_at" := by decide +kernel
theorem cq32_0_2 : Nc "_law_at" := by decide +kernel
theorem vq32_0_1 : Vs (relab csc32_0 (defScope (top 32))) "_law_script" := by decide +kernel
theorem dq32_0_1 : Nd "_law_script" := by decide +kernel
theorem cq32_0_1 : Nc "_law_script" := by decide +kernel
theorem l32_11 : Lc (defScope (top 32)) "_law_bits_here" := by decide +kernel
theorem v32_6 : Vs (defScope (top 32)) "_law_rows" := by decide +kernel
theorem d32_6 : Nd "_law_rows" := by decide +kernel
theorem c32_6 : Nc "_law_rows" := by decide +kernel
theorem v32_11 : Vs (defScope (top 32)) "_law_bits_here" := by decide +kernel
theorem d32_11 : Nd "_law_bits_here" := by decide +kernel
theorem c32_11 : Nc "_law_bits_here" := by decide +kernel
theorem v32_10 : Vs (defScope (top 32)) "_law_leaves" := by decide +kernel
theorem d32_10 : Nd "_law_leaves" := by decide +kernel
theorem c32_10 : Nc "_law_leaves" := by decide +kernel
theorem l32_12 : Lc (defScope (top 32)) "_law_held" := by decide +kernel
def csc32_1 : Scope := { kind := PySem.ScopeKind.function, names := [ (PySem.Str.ofString ".0", PySem.NameKind.local), (PySem.Str.ofString "_law_k", PySem.NameKind.local), (PySem.Str.ofString "_law_next", PySem.NameKind.globalImplicit), (PySem.Str.ofString "_law_place", PySem.NameKind.globalImplicit), (PySem.Str.ofString "_law_at", PySem.NameKind.free), (PySem.Str.ofString "_law_ins", PySem.NameKind.free), (PySem.Str.ofString "_law_keeps", PySem.NameKind.free), (PySem.Str.ofString "_law_many", PySem.NameKind.free), (PySem.Str.ofString "_law_script", PySem.NameKind.free)], isGenerator := false, isCoroutine := false, more := [] : PySem.Scope }
theorem cok32_1 : CompOk csc32_1 (defScope (top 32)) (["_law_k"] : List Str) (["_law_script", "_law_at", "_law_m", "_law_ins", "_law_keeps", "_law_many", "_law_rows", "_law_k", "_law_n", "_law_wide", "_law_leaves", "_law_bits_here", "_law_held", "_law_outs"] : List Str) [0, 1, 3, 4, 5] (["_law_k", "_law_script", "_law_at", "_law_ins", "_law_keeps", "_law_many"] : List Str) := compOk rfl (by decide +kernel) (by decide +kernel) (by decide +kernel) (by decide +kernel) rfl (by decide +kernel)
theorem kq32_1_0 : (relab csc32_1 (defScope (top 32))).names.lookup (Str.ofString "_law_k") = some NameKind.local := by decide +kernel
theorem gq32_1__law_place : Gi (relab csc32_1 (defScope (top 32))) "_law_place" := by decide +kernel
theorem vq32_1_5 : Vs (relab csc32_1 (defScope (top 32))) "_law_many" := by decide +kernel
theorem dq32_1_5 : Nd "_law_many" := by decide +kernel
theorem cq32_1_5 : Nc "_law_many" := by decide +kernel
theorem vq32_1_4 : Vs (relab csc32_1 (defScope (top 32))) "_law_keeps" := by decide +kernel
theorem dq32_1_4 : Nd "_law_keeps" := by decide +kernel
theorem cq32_1_4 : Nc "_law_keeps" := by decide +kernel
theorem vq32_1_3 : Vs (relab csc32_1 (defScope (top 32))) "_law_ins" := by decide +kernel
theorem dq32_1_3 : Nd "_law_ins" := by decide +kernel
theorem cq32_1_3 : Nc "_law_ins" := by decide +kernel
theorem vq32_1_2 : Vs (relab csc32_1 (defScope (top 32))) "_law_at" := by decide +kernel
theorem dq32_1_2 : Nd "_law_at" := by decide +kernel
theorem cq32_1_2 : Nc "_law_at" := by decide +kernel
theorem vq32_1_1 : Vs (relab csc32_1 (defScope (top 32))) "_law_script" := by decide +kernel
theorem dq32_1_1 : Nd "_law_script" := by decide +kernel
theorem cq32_1_1 : Nc "_law_script" := by decide +kernel
theorem gq32_1__law_next : Gi (relab csc32_1 (defScope (top 32))) "_law_next" := by decide +kernel
theorem l32_13 : Lc (defScope (top 32)) "_law_outs" := by decide +kernel
theorem g32_int : Gi (defScope (top 32)) "int" := by decide +kernel
def csc32_2 : Scope := { kind := PySem.ScopeKind.function, names := [ (PySem.Str.ofString ".0", PySem.NameKind.local), (PySem.Str.ofString "_law_k", PySem.NameKind.local), (PySem.Str.ofString "_law_place", PySem.NameKind.globalImplicit), (PySem.Str.ofString "_law_at", PySem.NameKind.free), (PySem.Str.ofString "_law_ins", PySem.NameKind.free), (PySem.Str.ofString "_law_keeps", PySem.NameKind.free), (PySem.Str.ofString "_law_many", PySem.NameKind.free), (PySem.Str.ofString "_law_script", PySem.NameKind.free)], isGenerator := false, isCoroutine := false, more := [] : PySem.Scope }
theorem cok32_2 : CompOk csc32_2 (defScope (top 32)) (["_law_k"] : List Str) (["_law_script", "_law_at", "_law_m", "_law_ins", "_law_keeps", "_law_many", "_law_rows", "_law_k", "_law_n", "_law_wide", "_law_leaves", "_law_bits_here", "_law_held", "_law_outs"] : List Str) [0, 1, 3, 4, 5] (["_law_k", "_law_script", "_law_at", "_law_ins", "_law_keeps", "_law_many"] : List Str) := compOk rfl (by decide +kernel) (by decide +kernel) (by decide +kernel) (by decide +kernel) rfl (by decide +kernel)
theorem kq32_2_0 : (relab csc32_2 (defScope (top 32))).names.lookup (Str.ofString "_law_k") = some NameKind.local := by decide +kernel
theorem gq32_2__law_place : Gi (relab csc32_2 (defScope (top 32))) "_law_place" := by decide +kernel
theorem vq32_2_5 : Vs (relab csc32_2 (defScope (top 32))) "_law_many" := by decide +kernel
theorem dq32_2_5 : Nd "_law_many" := by decide +kernel
theorem cq32_2_5 : Nc "_law_many" := by decide +kernel
theorem vq32_2_4 : Vs (relab csc32_2 (defScope (top 32))) "_law_keeps" := by decide +kernel
theorem dq32_2_4 : Nd "_law_keeps" := by decide +kernel
theorem cq32_2_4 : Nc "_law_keeps" := by decide +kernel
theorem vq32_2_3 : Vs (relab csc32_2 (defScope (top 32))) "_law_ins" := by decide +kernel
theorem dq32_2_3 : Nd "_law_ins" := by decide +kernel
theorem cq32_2_3 : Nc "_law_ins" := by decide +kernel
theorem vq32_2_2 : Vs (relab csc32_2 (defScope (top 32))) "_law_at" := by decide +kernel
theorem dq32_2_2 : Nd "_law_at" := by decide +kernel
theorem cq32_2_2 : Nc "_law_at" := by decide +kernel
theorem vq32_2_1 : Vs (relab csc32_2 (defScope (top 32))) "_law_script" := by decide +kernel
theorem dq32_2_1 : Nd "_law_script" := by decide +kernel
theorem cq32_2_1 : Nc "_law_script" := by decide +kernel
theorem v32_13 : Vs (defScope (top 32)) "_law_outs" := by decide +kernel
theorem d32_13 : Nd "_law_outs" := by decide +kernel
theorem c32_13 : Nc "_law_outs" := by decide +kernel
theorem v32_12 : Vs (defScope (top 32)) "_law_held" := by decide +kernel
theorem d32_12 : Nd "_law_held" := by decide +kernel
theorem c32_12 : Nc "_law_held" := by decide +kernel
structure DT (K : PySem.W.Frag) (H H' : Hp) (a b : Addr) (ns : List Int) (c : Int) (tl kl ol : Addr) (ins : Nat) (ts : List Tb) (ks : List Kp) (os : List Plc) : Prop where
  d : ∃ c', DQ K H H' a b ns c' ∧ c ≤ c' ∧ c' ≤ c + 300
  dr : DrAt [b] H' tl kl ol ts ks os
  ok : Okd ins ts ks os
def spDT (K : PySem.W.Frag) : Sp := fun vs H Q _ => ∃ (a b : Addr) (ns : List Int) (c : Int), vs = [.ref a, .ref b] ∧ Scr K H a ns ∧ H b = some (.lst [.int c]) ∧ 0 ≤ c ∧ c < 2 ^ 50 ∧
  ∀ (R tl kl ol : Addr) (ins : Nat) (ts : List Tb) (ks : List Kp) (os : List Plc) (H' : Hp), DT K H H' a b ns c tl kl ol ins ts ks os → H' R = some (.tup [.int (ins : Int), .ref tl, .ref kl, .ref ol]) → Q (.ref R) H'
theorem scDT : FnScope ["_law_script", "_law_at", "_law_m", "_law_ins", "_law_keeps", "_law_many", "_law_rows", "_law_k", "_law_n", "_law_wide", "_law_leaves", "_law_bits_here", "_law_held", "_law_outs"] ["_law_script", "_law_at"] (defScope (top 32)) := ⟨rfl, rfl, rfl, by decide +kernel, rfl, by decide +kernel, by decide +kernel⟩
theorem ok_dt (F : Fun K "_law_tables" "_law_tables" (top 32) f fd) (D_law_next : DefOk P w K mg base CX0 k "_law_next" ["_law_script", "_law_at"] (spNext K)) (D_law_place : DefOk P w K mg base CX0 k "_law_place" ["_law_script", "_law_at", "_law_ins", "_law_keeps", "_law_ahead"] (spPlc K)) (z_range : mg "range" = none) (z_int : mg "int" = none) : FnOk P w K mg base CX0 (k + 1) f fd ["_law_script", "_law_at"] (spDT K) := by
  have nd := scDT.nd
  refine F.ok scDT (fun vs H Q E h => by obtain ⟨a, b, ns, c, rfl, _⟩ := h; rfl) (fun cdv A outer s H vs Q E hr h => ?_)
  obtain ⟨a, b, ns, c, rfl, hS, hb, h0, h1, q⟩ := h
  refine ⟨_, (Pr.h (qpss_cons (qps_set (i := 2) nd rfl l32_2 (qpe_callD D_law_next hr g32__law_next pass0 (qpa_cons (qpe_var (i := 0) rfl v32_0 d32_0 c32_0) (qpa_cons (qpe_var (i := 1) rfl v32_1 d32_1 c32_1) qpa_nil se_Name) se_Name) gd__law_next))
 (qpss_cons (qps_asg (qpe_tup (qpa_cons (qpe_op op_mod (qpe_var (i := 2) rfl v32_2 d32_2 c32_2) qpe_int) (qpa_cons (qpe_op op_mod (qpe_op op_fdivW (qpe_var (i := 2) rfl v32_2 d32_2 c32_2) qpe_int) qpe_int) (qpa_cons (qpe_op op_mod (qpe_op op_fdivW (qpe_var (i := 2) rfl v32_2 d32_2 c32_2) qpe_int) qpe_int) qpa_nil se_BinOp) se_BinOp) se_BinOp)) (qpg_tup rfl (qpgs_cons (qpg_name (i := 3) nd rfl l32_3) (qpgs_cons (qpg_name (i := 4) nd rfl l32_4) (qpgs_cons (qpg_name (i := 5) nd rfl l32_5) qpgs_nil)))))
 (qpss_cons (qps_set (i := 6) nd rfl l32_6 (qpe_lst qpa_nil))
 (qpss_cons (qps_loop PassesOwn.never rfl (qpi_range1 g32_range z_range (qpa_cons (qpe_var (i := 5) rfl v32_5 d32_5 c32_5) qpa_nil se_Name)) (qpg_name (i := 7) nd rfl l32_7)
  (qpss_cons (qps_set (i := 8) nd rfl l32_8 (qpe_callD D_law_next hr g32__law_next pass0 (qpa_cons (qpe_var (i := 0) rfl v32_0 d32_0 c32_0) (qpa_cons (qpe_var (i := 1) rfl v32_1 d32_1 c32_1) qpa_nil se_Name) se_Name) gd__law_next))
 (qpss_cut (qps_set (i := 9) nd rfl l32_9 (qpe_ifExp (qpt_cmpR op_gt (qpe_op op_add (qpe_op op_add (qpe_var (i := 3) rfl v32_3 d32_3 c32_3) (qpe_var (i := 4) rfl v32_4 d32_4 c32_4)) (qpe_var (i := 7) rfl v32_7 d32_7 c32_7)) qpe_int (nomark _)) (qpe_op op_mod (qpe_var (i := 8) rfl v32_8 d32_8 c32_8) qpe_int) qpe_int))
 (qpss_cons (qps_setC (i := 10) nd rfl l32_10 rfl cok32_0 (qpi_range1 g32_range z_range (qpa_cons (qpe_var (i := 9) rfl v32_9 d32_9 c32_9) qpa_nil se_Name)) (fun _ _ _ _ _ => (qpg_name (i := 0) cok32_0.nd rfl (Or.inl kq32_0_0) (Or.inr kq32_0_0))) (fun _ _ _ _ _ => qpif_nil) (fun _ _ _ _ _ => (qpe_callD D_law_place hr gq32_0__law_place pass0 (qpa_cons (qpe_var (i := 1) rfl vq32_0_1 dq32_0_1 cq32_0_1) (qpa_cons (qpe_var (i := 2) rfl vq32_0_2 dq32_0_2 cq32_0_2) (qpa_cons (qpe_var (i := 3) rfl vq32_0_3 dq32_0_3 cq32_0_3) (qpa_cons (qpe_var (i := 4) rfl vq32_0_4 dq32_0_4 cq32_0_4) (qpa_cons (qpe_var (i := 5) rfl vq32_0_5 dq32_0_5 cq32_0_5) qpa_nil se_Name) se_Name) se_Name) se_Name) se_Name) gd__law_place)) rfl)
 (qpss_cons (qps_set (i := 11) nd rfl l32_11 (qpe_op op_mod (qpe_op op_fdivW (qpe_var (i := 8) rfl v32_8 d32_8 c32_8) qpe_int) (qpe_ix ixa_list (qpe_lst (qpa_cons qpe_int (qpa_cons qpe_int (qpa_cons qpe_int (qpa_cons qpe_int (qpa_cons qpe_int qpa_nil se_Constant) se_Constant) se_Constant) se_Constant) se_Constant)) (qpe_var (i := 9) rfl v32_9 d32_9 c32_9) (fun _ _ => rfl))))
 (qpss_cut (qps_if (qPW_pt (qpw_and (qpt_cmpR op_eq (qpe_op op_mod (qpe_op op_fdivW (qpe_var (i := 8) rfl v32_8 d32_8 c32_8) qpe_int) qpe_int) qpe_int (nomark _)) (qpw_and1 (qpt_cmpR op_gt (qpe_var (i := 9) rfl v32_9 d32_9 c32_9) qpe_int (nomark _)))))
  (qpss_one (qps_set (i := 11) nd rfl l32_11 (qpe_ix ixa_list (qpe_ix ixa_list (qpe_lst (qpa_cons (qpe_lst (qpa_cons qpe_int qpa_nil se_Constant)) (qpa_cons (qpe_lst (qpa_cons qpe_int (qpa_cons qpe_int qpa_nil se_Constant) se_Constant)) (qpa_cons (qpe_lst (qpa_cons qpe_int (qpa_cons qpe_int (qpa_cons qpe_int qpa_nil se_Constant) se_Constant) se_Constant)) (qpa_cons (qpe_lst (qpa_cons qpe_int (qpa_cons qpe_int (qpa_cons qpe_int (qpa_cons qpe_int qpa_nil se_Constant) se_Constant) se_Constant) se_Constant)) qpa_nil se_List) se_List) se_List) se_List)) (qpe_op op_sub (qpe_var (i := 9) rfl v32_9 d32_9 c32_9) qpe_int) (fun _ _ => rfl)) (qpe_op op_mod (qpe_op op_fdivW (qpe_var (i := 8) rfl v32_8 d32_8 c32_8) qpe_int) (qpe_var (i := 9) rfl v32_9 d32_9 c32_9)) (fun _ _ => rfl))))
  qpss_nil)
 (qpss_one (qps_expr (qpe_bm PySem.F.plainAttrs_list PySem.F.slot_list_append PySem.F.type_list_append mt_append (qpe_var (i := 6) rfl v32_6 d32_6 c32_6) (qpa_cons (qpe_tup (qpa_cons (qpe_var (i := 10) rfl v32_10 d32_10 c32_10) (qpa_cons (qpe_var (i := 11) rfl v32_11 d32_11 c32_11) qpa_nil se_Name) se_Name)) qpa_nil se_Tuple))))))))))
 (qpss_cons (qps_setC (i := 12) nd rfl l32_12 rfl cok32_1 (qpi_range1 g32_range z_range (qpa_cons (qpe_var (i := 4) rfl v32_4 d32_4 c32_4) qpa_nil se_Name)) (fun _ _ _ _ _ => (qpg_name (i := 0) cok32_1.nd rfl (Or.inl kq32_1_0) (Or.inr kq32_1_0))) (fun _ _ _ _ _ => qpif_nil) (fun _ _ _ _ _ => (qpe_tup (qpa_cons (qpe_op op_mod (qpe_callD D_law_next hr gq32_1__law_next pass0 (qpa_cons (qpe_var (i := 1) rfl vq32_1_1 dq32_1_1 cq32_1_1) (qpa_cons (qpe_var (i := 2) rfl vq32_1_2 dq32_1_2 cq32_1_2) qpa_nil se_Name) se_Name) gd__law_next) qpe_int) (qpa_cons (qpe_callD D_law_place hr gq32_1__law_place pass0 (qpa_cons (qpe_var (i := 1) rfl vq32_1_1 dq32_1_1 cq32_1_1) (qpa_cons (qpe_var (i := 2) rfl vq32_1_2 dq32_1_2 cq32_1_2) (qpa_cons (qpe_var (i := 3) rfl vq32_1_3 dq32_1_3 cq32_1_3) (qpa_cons (qpe_var (i := 4) rfl vq32_1_4 dq32_1_4 cq32_1_4) (qpa_cons (qpe_var (i := 5) rfl vq32_1_5 dq32_1_5 cq32_1_5) qpa_nil se_Name) se_Name) se_Name) se_Name) se_Name) gd__law_place) qpa_nil se_Call) se_BinOp))) rfl)
 (qpss_cons (qps_setC (i := 13) nd rfl l32_13 rfl cok32_2 (qpi_range1 g32_range z_range (qpa_cons (qpe_op op_mul (qpe_op op_mod (qpe_op op_fdivW (qpe_var (i := 2) rfl v32_2 d32_2 c32_2) qpe_int) qpe_int) (qpe_callTy call_int1 g32_int z_int bo_int (qpa_cons (qpe_cmpR op_gt (qpe_op op_add (qpe_op op_add (qpe_var (i := 3) rfl v32_3 d32_3 c32_3) (qpe_var (i := 4) rfl v32_4 d32_4 c32_4)) (qpe_var (i := 5) rfl v32_5 d32_5 c32_5)) qpe_int (nomark _)) qpa_nil se_Compare) nn_int gd_int)) qpa_nil se_BinOp)) (fun _ _ _ _ _ => (qpg_name (i := 0) cok32_2.nd rfl (Or.inl kq32_2_0) (Or.inr kq32_2_0))) (fun _ _ _ _ _ => qpif_nil) (fun _ _ _ _ _ => (qpe_callD D_law_place hr gq32_2__law_place pass0 (qpa_cons (qpe_var (i := 1) rfl vq32_2_1 dq32_2_1 cq32_2_1) (qpa_cons (qpe_var (i := 2) rfl vq32_2_2 dq32_2_2 cq32_2_2) (qpa_cons (qpe_var (i := 3) rfl vq32_2_3 dq32_2_3 cq32_2_3) (qpa_cons (qpe_var (i := 4) rfl vq32_2_4 dq32_2_4 cq32_2_4) (qpa_cons (qpe_var (i := 5) rfl vq32_2_5 dq32_2_5 cq32_2_5) qpa_nil se_Name) se_Name) se_Name) se_Name) se_Name) gd__law_place)) rfl)
 (qpss_one (qps_ret (qpe_tup (qpa_cons (qpe_var (i := 3) rfl v32_3 d32_3 c32_3) (qpa_cons (qpe_var (i := 6) rfl v32_6 d32_6 c32_6) (qpa_cons (qpe_var (i := 12) rfl v32_12 d32_12 c32_12) (qpa_cons (qpe_var (i := 13) rfl v32_13 d32_13 c32_13) qpa_nil se_Name) se_Name) se_Name) se_Name))))))))))), ?_⟩
  (try dsimp only [cxOf])
  walk_at "rd"
  rename_i m H1 m0 m1 c1 b1 p2 hp2 tl htl
  have d1 : DQ K H H1 a b ns (c + 1) := ⟨c1, hS.ch hb c1, b1⟩
  have d2 := d1.new ((Ch.new hp2 (HO.tup [V.int (m % 5), V.int (m / 5 % 4), V.int (m / 20 % 10)])))
  obtain ⟨ins, ei⟩ : ∃ ins : Nat, m % 5 = (ins : Int) := ⟨(m % 5).toNat, by omega⟩
  obtain ⟨keeps, ek⟩ : ∃ keeps : Nat, m / 5 % 4 = (keeps : Int) := ⟨(m / 5 % 4).toNat, by omega⟩
  obtain ⟨many, em⟩ : ∃ many : Nat, m / 20 % 10 = (many : Int) := ⟨(m / 20 % 10).toNat, by omega⟩
  have i5 : ins < 5 := by omega
  have k4 : keeps < 4 := by omega
  have n10 : many < 10 := by omega
  have ftl : H tl = none := d2.free htl
  have nbt : b ≠ tl := d2.nb htl
  have e0 : TL K H (upd (upd H1 p2 (HO.tup [V.int (m % 5), V.int (m / 5 % 4), V.int (m / 20 % 10)])) tl (.lst [])) a b ns tl ins keeps [] (c + 1) := ⟨d2.new (Ch.new htl _), ⟨[], upd_same, .nil⟩, fun i t h => by simp at h⟩
  clear d1 d2 hp2 htl c1 b1
  refine loop_range (fun i σ H' => ∃ ts c' u7 u8 u9 u10 u11, σ = [some (.ref a), some (.ref b), some (.int m), some (.int (ins : Int)), some (.int (keeps : Int)), some (.int (many : Int)), some (.ref tl), u7, u8, u9, u10, u11, none, none] ∧ TL K H H' a b ns tl ins keeps ts c' ∧ ts.length = i ∧ CI c' (c + 1) (10 * i)) ⟨[], c + 1, _, _, _, _, _, by rw [← ei, ← ek, ← em]; rfl, e0, rfl, by omega, by omega⟩ ?_ ?_
  · clear e0
    rintro i σ H' hi ⟨ts, c', u7, u8, u9, u10, u11, rfl, tL, hl, ci⟩
    have hi : i < many := by have : i < (m / 20 % 10).toNat := hi; omega
    rw [Int.zero_add]
    have ci1 := ci.lo
    have ci2 := ci.hi
    have hS' := tL.d.hS
    have hb' := tL.d.hb
    walk_at "rd"
    rename_i n H5 n0 n1 c5 b5
    have d5 : DQ K H' H5 a b ns (c' + 1) := ⟨c5, hS'.ch hb' c5, b5⟩
    refine cut_by (fun σ H'' => ∃ wd : Int, σ = [some (.ref a), some (.ref b), some (.int m), some (.int (ins : Int)), some (.int (keeps : Int)), some (.int (many : Int)), some (.ref tl), some (.int (i : Int)), some (.int n), some (.int wd), u10, u11, none, none] ∧ H'' = H5 ∧ WD wd (ins + keeps + i)) ?_ ?_
    · walk_at "rd"
      refine ite2 (fun hc => ?_) (fun hc => ?_)
      · have hc : (0 : Int) < (ins : Int) + (keeps : Int) + (i : Int) := by simpa using hc
        walk_at "rd"
        exact ⟨by omega, by omega, fun _ => by omega⟩
      · walk_at "rd"
        exact ⟨by omega, by omega, fun z => by omega⟩
    rintro σ H5' ⟨wd, rfl, rfl, w0, w4, wp⟩
    obtain ⟨wd, rfl⟩ := Int.eq_ofNat_of_zero_le w0
    walk_at "rd"
    refine comp_range (fun j ys σ H'' => ∃ ls, LV K H5' H'' a b ns ins keeps i ls ys (c' + 1 + (j : Int)) ∧ ls.length = j ∧ ∃ u, σ = [u, some (.ref a), some (.ref b), some (.int (ins : Int)), some (.int (keeps : Int)), some (.int (i : Int))]) (by rw [sizeLine_eq]; omega) ⟨[], ⟨by have := d5.hb; exact ⟨Ch.refl _ _, d5.hS, by simpa using d5.hb⟩, ⟨[], rfl, .nil⟩, by simp⟩, rfl, _, rfl⟩ ?_ ?_ ?_
    · rintro j ys σ H'' hj ⟨ls, lv, lj, _⟩
      obtain ⟨qs, rfl, ws⟩ := lv.ex
      have := Paired.length ws
      rw [List.length_map] at this ⊢
      omega
    · rintro j ys σ H'' hj ⟨ls, lv, lj, u, rfl⟩
      have hj : j < wd := by simpa using hj
      have hS6 := lv.d.hS
      have hb6 := lv.d.hb
      obtain ⟨qs, rfl, ws⟩ := lv.ex
      walk_at "rd"
      refine ⟨⟨by omega, by omega, by omega, by omega, by omega, wp (by omega)⟩, fun p x H6 c6 b6 lx hx => ?_⟩
      have e1 : c' + 1 + ((j + 1 : Nat) : Int) = c' + 1 + (j : Int) + 1 := by omega
      refine ⟨ls ++ [x], ⟨by rw [e1]; exact lv.d.next c6 b6, ⟨qs ++ [p], by simp, WsAt.snoc hx (ws.tu (Tu.lst c6 hb6))⟩, fun y hy => ?_⟩, by simp [lj], _, rfl⟩
      rcases List.mem_append.mp hy with z | z
      · exact lv.lo y z
      · rw [List.mem_singleton.mp z]; exact lx
    · rintro ys σ H6 ⟨ls, lv, lj, _⟩
      have lj : ls.length = wd := by simpa using lj
      obtain ⟨qs, rfl, ws⟩ := lv.ex
      intro lp hlp
      rw [Int.toNat_natCast] at lv
      have w4' : wd ≤ 4 := by omega
      have ra := room_at w4'
      obtain ⟨rp, rp2⟩ := room_pos w4'
      have nbl : b ≠ lp := lv.d.nb hlp
      have c7 : Ch [] H6 (upd H6 lp (.lst (qs.map V.ref))) := Ch.new hlp _
      have g7 : (upd H6 lp (.lst (qs.map V.ref))) lp = some (.lst (qs.map V.ref)) := upd_same
      generalize upd H6 lp (.lst (qs.map V.ref)) = H7 at c7 g7 ⊢
      have bd0 : BD (n / 5 % room wd) wd := ⟨Int.emod_nonneg _ (by omega), Int.emod_lt_of_pos _ rp⟩
      walk_at "rd"
      rename_i p8 hp8
      refine cut_by (fun σ H'' => ∃ v, σ = [some (.ref a), some (.ref b), some (.int m), some (.int (ins : Int)), some (.int (keeps : Int)), some (.int (many : Int)), some (.ref tl), some (.int (i : Int)), some (.int n), some (.int (wd : Int)), some (.ref lp), some (.int v), none, none] ∧ Ch [] H7 H'' ∧ BD v wd) ?_ ?_
      · walk_at "rd"
        refine (fun g => ite2 (fun _ => ?_) (fun _ => iteF g)) ?_
        · walk_at "rd"
          refine ite2 (fun h2 => ?_) (fun _ => g)
          have h2 : (0 : Int) < (wd : Int) := by simpa using h2
          have e4 : wd = 1 ∨ wd = 2 ∨ wd = 3 ∨ wd = 4 := by omega
          rcases e4 with rfl | rfl | rfl | rfl
          · obtain ⟨v, hv, bv⟩ := pv1 (n / 5)
            walk_at "rd"
            refine Atx.of hv ?_
            walk_at "rd"
          · obtain ⟨v, hv, bv⟩ := pv2 (n / 5)
            walk_at "rd"
            refine Atx.of hv ?_
            walk_at "rd"
          · obtain ⟨v, hv, bv⟩ := pv3 (n / 5)
            walk_at "rd"
            refine Atx.of hv ?_
            walk_at "rd"
          · obtain ⟨v, hv, bv⟩ := pv4 (n / 5)
            walk_at "rd"
            refine Atx.of hv ?_
            walk_at "rd"
        · walk_at "rd"
      · rintro σ H8 ⟨v, rfl, c8, bv⟩
        have d68 : DQ K H' H8 a b ns (c' + 1 + (wd : Int)) := (d5.trans lv.d).new (c7.trans c8)
        obtain ⟨tps, gt, tt⟩ := tL.tb
        have lt := Paired.length tt
        have gt8 : H8 tl = some (.lst (tps.map V.ref)) := d68.ch.get gt (by simpa using nbt.symm)
        have tt8 := paired_imp (fun _ _ => TbL.kl (d68.kl hb' (by simp))) tt
        have lpt : lp ≠ tl := (ne_of_none ((d5.trans lv.d).ch.get gt (by simpa using nbt.symm)) hlp).symm
        have g8 := c8.get g7 (by simp)
        have ws8 := ws.tu (Tu.same (c7.trans c8))
        have t12 : (tps.map V.ref).length ≤ 12 := by rw [List.length_map]; omega
        have nex : lp ∉ [b, tl] := by simp [nbl.symm, lpt]
        have okn : Tb.ok ins keeps i ⟨ls, v⟩ := ⟨by show ls.length ≤ 4; omega, lv.lo, bv.lo, by show v < room ls.length; rw [lj]; exact bv.hi⟩
        have lo := lv.lo
        clear lv c7 g7 c8 gt hlp d5
        walk_at "rd"
        rename_i T hT
        have dT := (tL.d.trans d68).new (Ch.new hT (HO.tup [.ref lp, .int v]))
        have gT : (upd H8 T (HO.tup [.ref lp, .int v])) tl = some (.lst (tps.map V.ref)) := g_new hT gt8
        have dJ := dT.own (zs := tps.map V.ref ++ [.ref T]) ftl gT nbt
        have kT : Kl [b, tl] H8 _ := Kl.new (Ch.new hT (HO.tup [.ref lp, .int v]))
        have kJ : Kl [b, tl] _ (upd (upd H8 T (HO.tup [.ref lp, .int v])) tl (.lst (tps.map V.ref ++ [.ref T]))) := Kl.one Ch.put gT (by simp)
        refine ⟨⟨dJ, ⟨tps ++ [T], by rw [upd_same, List.map_append]; rfl, paired_snoc (x := ⟨ls, v⟩) ⟨lp, qs, nex, kJ.t _ _ upd_same, kJ.l _ _ nex (kT.l _ _ nex g8), (ws8.tu kT.t).tu kJ.t⟩ (paired_imp (fun _ _ z => TbL.kl kJ (TbL.kl kT z)) tt8)⟩, fun j t h => ?_⟩, by simp [hl], by omega, by omega⟩
        by_cases hj : j < ts.length
        · rw [List.getElem?_append_left hj] at h
          exact tL.ok j t h
        · have h2 := (List.getElem?_eq_some_iff.mp h).1
          rw [List.length_append, List.length_singleton] at h2
          have en : j = ts.length := by omega
          subst en
          rw [List.getElem?_append_right (Nat.le_refl _), Nat.sub_self] at h
          cases h
          rw [hl]
          exact okn
  · clear e0
    rintro σ H5 ⟨ts, c', u7, u8, u9, u10, u11, rfl, tL, hl, ci⟩
    have hl : ts.length = many := by rw [hl]; omega
    have ci1 := ci.lo
    have ci2 : c' ≤ c + 1 + 100 := by have := ci.hi; omega
    have d0 : DQ K H5 H5 a b ns c' := ⟨Ch.refl _ _, tL.d.hS, tL.d.hb⟩
    have hb5 := tL.d.hb
    walk_at "rd"
    refine comp_range (fun j ys σ H'' => ∃ ks, LH K H5 H'' a b ns ins keeps many ks ys (c' + 2 * (j : Int)) ∧ ks.length = j ∧ ∃ u, σ = [u, some (.ref a), some (.ref b), some (.int (ins : Int)), some (.int (keeps : Int)), some (.int (many : Int))]) (by rw [sizeLine_eq]; omega) ⟨[], ⟨by simpa using d0, ⟨[], rfl, .nil⟩, by simp⟩, rfl, _, rfl⟩ ?_ ?_ ?_
    · rintro j ys σ H'' hj ⟨ks, lh, lj, _⟩
      obtain ⟨qs, rfl, ws⟩ := lh.ex
      have := Paired.length ws
      rw [List.length_map]
      omega
    · rintro j ys σ H'' hj ⟨ks, lh, lj, u, rfl⟩
      have hj : j < keeps := by simpa using hj
      have hS6 := lh.d.hS
      have hb6 := lh.d.hb
      obtain ⟨qs, rfl, kk⟩ := lh.ex
      walk_at "rd"
      rename_i n6 H6 n60 n61 c6 b6
      have d6 := lh.d.next c6 b6
      refine ⟨⟨by omega, by omega, by omega, by omega, by omega, by omega⟩, fun p x H7 c7 b7 lx hx => ?_⟩
      walk_at "rd"
      rename_i T hT
      have e1 : c' + 2 * ((j + 1 : Nat) : Int) = c' + 2 * (j : Int) + 1 + 1 := by omega
      have tu7 : Tu H'' H7 := (Tu.lst c6 hb6).trans (Tu.lst c7 b6)
      have hKp : KpAt (upd H7 T (HO.tup [.int (n6 % 2), .ref p])) ⟨decide (n6 % 2 = 1), x⟩ T := by
        refine ⟨p, ?_, g_new hT hx⟩
        rw [← tb_bi n6]
        exact upd_same
      have lhn : LH K H5 (upd H7 T (HO.tup [.int (n6 % 2), .ref p])) a b ns ins keeps many (ks ++ [⟨decide (n6 % 2 = 1), x⟩]) (qs.map V.ref ++ [.ref T]) (c' + 2 * ((j + 1 : Nat) : Int)) := ⟨by rw [e1]; exact (d6.next c7 b7).new (Ch.new hT _), ⟨qs ++ [T], by simp, paired_snoc hKp (paired_imp (fun _ _ z => KpAt.tu (tu7.trans (Tu.new _ hT)) z) kk)⟩, fun y hy => by
        rcases List.mem_append.mp hy with z | z
        · exact lh.lo y z
        · rw [List.mem_singleton.mp z]; exact lx⟩
      exact ⟨lhn, by simp [lj], _, rfl⟩
    rintro ys σ H6 ⟨ks, lh, lj, _⟩
    have lj : ks.length = keeps := by simpa using lj
    rw [Int.toNat_natCast] at lh
    obtain ⟨kps, rfl, kk⟩ := lh.ex
    intro kl hkl
    have nbk : b ≠ kl := lh.d.nb hkl
    have c7 : Ch [] H6 (upd H6 kl (.lst (kps.map V.ref))) := Ch.new hkl _
    have g7 : (upd H6 kl (.lst (kps.map V.ref))) kl = some (.lst (kps.map V.ref)) := upd_same
    generalize upd H6 kl (.lst (kps.map V.ref)) = H7 at c7 g7 ⊢
    have d7 : DQ K H5 H7 a b ns (c' + 2 * (keeps : Int)) := lh.d.new c7
    have kk7 := paired_imp (fun _ _ => KpAt.tu (Tu.same c7)) kk
    have klo := lh.lo
    clear lh c7 hkl d0
    walk_at "rd"
    obtain ⟨oc, eoc, o0, o4, op⟩ : ∃ oc : Int, (m / 200 % 5 * if decide (0 < (ins : Int) + (keeps : Int) + (many : Int)) = true then (1 : Int) else 0) = oc ∧ 0 ≤ oc ∧ oc ≤ 4 ∧ (0 < oc → 0 < ins + keeps + many) := by
      refine ⟨_, rfl, ?_⟩
      by_cases h : 0 < (ins : Int) + (keeps : Int) + (many : Int)
      · rw [decide_eq_true h, if_pos rfl, Int.mul_one]
        exact ⟨by omega, by omega, fun _ => by omega⟩
      · rw [decide_eq_false h, if_neg (by decide), Int.mul_zero]
        exact ⟨by omega, by omega, fun z => by omega⟩
    rw [eoc]
    refine ⟨by omega, by omega, ?_⟩
    have hb7 := d7.hb
    refine comp_range (fun j ys σ H'' => ∃ ls, LV K H7 H'' a b ns ins keeps many ls ys (c' + 2 * (keeps : Int) + (j : Int)) ∧ ls.length = j ∧ ∃ u, σ = [u, some (.ref a), some (.ref b), some (.int (ins : Int)), some (.int (keeps : Int)), some (.int (many : Int))]) (by rw [sizeLine_eq]; omega) ⟨[], ⟨⟨Ch.refl _ _, d7.hS, by simpa using d7.hb⟩, ⟨[], rfl, .nil⟩, by simp⟩, rfl, _, rfl⟩ ?_ ?_ ?_
    · rintro j ys σ H'' hj ⟨ls, lv, lj, _⟩
      obtain ⟨qs, rfl, ws⟩ := lv.ex
      have := Paired.length ws
      rw [List.length_map] at this ⊢
      omega
    · rintro j ys σ H'' hj ⟨ls, lv, lj, u, rfl⟩
      have hj : j < oc.toNat := hj
      have hS6 := lv.d.hS
      have hb6 := lv.d.hb
      obtain ⟨qs, rfl, ws⟩ := lv.ex
      walk_at "rd"
      refine ⟨⟨by omega, by omega, by omega, by omega, by omega, op (by omega)⟩, fun p x H6 c6 b6 lx hx => ?_⟩
      have e1 : c' + 2 * (keeps : Int) + ((j + 1 : Nat) : Int) = c' + 2 * (keeps : Int) + (j : Int) + 1 := by omega
      refine ⟨ls ++ [x], ⟨by rw [e1]; exact lv.d.next c6 b6, ⟨qs ++ [p], by simp, WsAt.snoc hx (ws.tu (Tu.lst c6 hb6))⟩, fun y hy => ?_⟩, by simp [lj], _, rfl⟩
      rcases List.mem_append.mp hy with z | z
      · exact lv.lo y z
      · rw [List.mem_singleton.mp z]; exact lx
    rintro ys σ H8 ⟨os, lv, lo, _⟩
    have lo : os.length = oc.toNat := lo
    obtain ⟨ops, rfl, oo⟩ := lv.ex
    intro ol hol
    have d8 := d7.trans lv.d
    have d08 := tL.d.trans d8
    have nbo : b ≠ ol := lv.d.nb hol
    obtain ⟨tps, gt, tt⟩ := tL.tb
    have gt8 : H8 tl = some (.lst (tps.map V.ref)) := d8.ch.get gt (by simpa using nbt.symm)
    have tt8 := paired_imp (fun _ _ => TbL.kl (d8.kl hb5 (by simp))) tt
    have gk8 : H8 kl = some (.lst (kps.map V.ref)) := lv.d.ch.get g7 (by simpa using nbk.symm)
    have kk8 := paired_imp (fun _ _ => KpAt.tu (Tu.lst lv.d.ch hb7)) kk7
    have olo := lv.lo
    walk_at "rd"
    rename_i R hR
    have cR : Ch [] H8 (upd (upd H8 ol (.lst (ops.map V.ref))) R (.tup [.int (ins : Int), .ref tl, .ref kl, .ref ol])) := (Ch.new hol _).trans (Ch.new hR _)
    have dR := d08.new cR
    have tok := tL.ok
    clear tL lv d8 d08 d7
    subst lj
    subst hl
    exact q R tl kl ol ins ts ks os _ ⟨⟨_, dR, by omega, by omega⟩, ⟨⟨by simpa using nbt.symm, tps, cR.get gt8 (by simp), paired_imp (fun _ _ z => (TbL.kl (Kl.new cR) z).weak) tt8⟩, ⟨by simpa using nbk.symm, kps, cR.get gk8 (by simp), paired_imp (fun _ _ => KpAt.tu (Tu.same cR)) kk8⟩, ⟨by simpa using nbo.symm, ops, g_new hR upd_same, oo.tu (Tu.same cR)⟩⟩, ⟨tok, klo, olo, by omega, by omega, by omega, by omega⟩⟩ upd_same
end
end

section
theorem sca_bs (bs : List Bool) : ScaL (bs.map bV) := ⟨fun x hx => by
  obtain ⟨b, _, rfl⟩ := List.mem_map.mp hx
  exact .inl ⟨_, rfl⟩⟩
theorem fold_plain {row kept : List Bool} : ∀ (t : List Gt) (s : VS), (∀ g ∈ t, g.plain = true) → (t.foldl (step row kept) s).2 = s.2
  | [], s, _ => rfl
  | g :: t, s, h => by
    rw [List.foldl_cons, fold_plain t _ fun x hx => h x (by simp [hx])]
    have := h g (by simp)
    cases g <;> first | rfl | (cases this)
theorem NF.vc {gs : List Gt} {ins : Nat} {ts : List Tb} {ks : List Kp} {nums : List Nat} (nf : NF gs ins ts ks nums) {row kept : List Bool} (hr : row.length = ins) (hk : kept.length = ks.length) : VC gs row kept := by
  obtain ⟨t, et, pt⟩ := nf.sh
  have e : (run row kept gs).2 = (ins, ks.length) := by
    have e1 : gs.map Gt.er = (baseG ins ks ++ t).map Gt.er := by
      rw [et, List.map_append, List.map_append, List.map_append]
      unfold baseG
      rw [List.map_append, List.map_map, List.map_map]
      rfl
    rw [← run_er gs, e1, run_er]
    have e2 : run row kept (baseG ins ks ++ t) = t.foldl (step row kept) (run row kept (baseG ins ks)) := by unfold run; rw [List.foldl_append]
    have e3 := run_base (row := row) (kept := kept) ins ks ks.length (Nat.le_refl _)
    rw [List.take_length] at e3
    rw [e2, fold_plain t _ pt]
    unfold baseG
    rw [e3]
  exact ⟨by rw [e, hr]; exact Nat.le_refl _, by rw [e, hk]; exact Nat.le_refl _, nf.ok, nf.ln⟩
theorem nums_up {gs : List Gt} {ins : Nat} {ts : List Tb} {ks : List Kp} {nums : List Nat} (nf : NF gs ins ts ks nums) (hl : nums.length = ts.length) (row kept : List Bool) : nums.map (vl gs row kept) = upT ts row kept ts.length := by
  have ul := upT_len (ts := ts) (row := row) (kept := kept) (i := ts.length) (Nat.le_refl _)
  refine List.ext_getElem (by rw [List.length_map, hl, ul]) fun j h1 h2 => ?_
  rw [List.length_map] at h1
  have v := (nf.v (.t, j) (by show j < ts.length; omega)).2 row kept
  have e1 : gn ins nums (.t, j) = nums[j] := by
    show nums.getD j 0 = _
    rw [List.getD_eq_getElem?_getD, List.getElem?_eq_getElem h1]; rfl
  have e2 : hdv row kept (upT ts row kept ts.length) (.t, j) = (upT ts row kept ts.length)[j] := by
    show (upT ts row kept ts.length).getD j false = _
    rw [List.getD_eq_getElem?_getD, List.getElem?_eq_getElem h2]; rfl
  rw [List.getElem_map, ← e1, v, e2]
def kfa : Gt → Option Nat
  | .keep _ a => some a
  | _ => none
theorem kfa_all {gs : List Gt} {ins : Nat} {ts : List Tb} {ks : List Kp} {nums : List Nat} (nf : NF gs ins ts ks nums) : gs.filterMap kfa = ks.map fun k => gn ins nums k.pl := by
  obtain ⟨t, et, pt⟩ := nf.sh
  rw [et, List.filterMap_append, List.filterMap_append]
  have e1 : (List.replicate ins Gt.inp).filterMap kfa = [] := List.filterMap_eq_nil_iff.mpr fun g hg => by rw [(List.mem_replicate.mp hg).2]; rfl
  have e2 : t.filterMap kfa = [] := List.filterMap_eq_nil_iff.mpr fun g hg => by have := pt g hg; cases g <;> first | rfl | (cases this)
  rw [e1, e2, List.nil_append, List.append_nil, List.filterMap_map]
  exact (List.filterMap_eq_map (f := fun k : Kp => gn ins nums k.pl) ▸ rfl)
structure BSp (CT CN : Addr) (H : Hp) (x nt nl fl hl gp op tt kt ot : Addr) (ins : Nat) (ts : List Tb) (ks : List Kp) (os : List Plc) (gs : List Gt) (xs : List V) (nums : List Nat) (row kept : List Bool) : Prop where
  ta : TlAt CT H x ins tt kt ot ts ks os
  na : NetAt CN H nt gp op gs xs (os.map (gn ins nums))
  nf : NF gs ins ts ks nums
  ok : Okd ins ts ks os
  ln : nums.length = ts.length
  hn : H nl = some (.lst (nums.map nV))
  hf : H fl = some (.lst (row.map bV))
  hh : H hl = some (.lst (kept.map bV))
  lr : row.length = ins
  lk : kept.length = ks.length
section
variable {P : Program} {w : World} {K : PySem.W.Frag} {mg : Str → Option Value} {base : Heap} {f : Addr} {fd : FuncData} {k : Nat}
theorem gd__law_table_bits : Nd "_law_table_bits" := by decide +kernel
theorem gd__law_values : Nd "_law_values" := by decide +kernel
theorem l33_5 : Lc (defScope (top 33)) "_law_told_here" := by decide +kernel
theorem g33__law_table_bits : Gi (defScope (top 33)) "_law_table_bits" := by decide +kernel
theorem v33_4 : Vs (defScope (top 33)) "_law_kept" := by decide +kernel
theorem d33_4 : Nd "_law_kept" := by decide +kernel
theorem c33_4 : Nc "_law_kept" := by decide +kernel
theorem v33_3 : Vs (defScope (top 33)) "_law_fed" := by decide +kernel
theorem d33_3 : Nd "_law_fed" := by decide +kernel
theorem c33_3 : Nc "_law_fed" := by decide +kernel
theorem v33_2 : Vs (defScope (top 33)) "_law_tables_here" := by decide +kernel
theorem d33_2 : Nd "_law_tables_here" := by decide +kernel
theorem c33_2 : Nc "_law_tables_here" := by decide +kernel
theorem l33_6 : Lc (defScope (top 33)) "_law_bits_here" := by decide +kernel
theorem g33__law_values : Gi (defScope (top 33)) "_law_values" := by decide +kernel
theorem v33_0 : Vs (defScope (top 33)) "_law_net" := by decide +kernel
theorem d33_0 : Nd "_law_net" := by decide +kernel
theorem c33_0 : Nc "_law_net" := by decide +kernel
theorem v33_1 : Vs (defScope (top 33)) "_law_numbers" := by decide +kernel
theorem d33_1 : Nd "_law_numbers" := by decide +kernel
theorem c33_1 : Nc "_law_numbers" := by decide +kernel
def csc33_0 : Scope := { kind := PySem.ScopeKind.function, names := [ (PySem.Str.ofString ".0", PySem.NameKind.local), (PySem.Str.ofString "_law_number", PySem.NameKind.local), (PySem.Str.ofString "_law_bits_here", PySem.NameKind.free)], isGenerator := false, isCoroutine := false, more := [] : PySem.Scope }
theorem cok33_0 : CompOk csc33_0 (defScope (top 33)) (["_law_number"] : List Str) (["_law_net", "_law_numbers", "_law_tables_here", "_law_fed", "_law_kept", "_law_told_here", "_law_bits_here", "_law_outs", "_law_taken"] : List Str) [6] (["_law_number", "_law_bits_here"] : List Str) := compOk rfl (by decide +kernel) (by decide +kernel) (by decide +kernel) (by decide +kernel) rfl (by decide +kernel)
theorem kq33_0_0 : (relab csc33_0 (defScope (top 33))).names.lookup (Str.ofString "_law_number") = some NameKind.local := by decide +kernel
theorem vq33_0_1 : Vs (relab csc33_0 (defScope (top 33))) "_law_bits_here" := by decide +kernel
theorem dq33_0_1 : Nd "_law_bits_here" := by decide +kernel
theorem cq33_0_1 : Nc "_law_bits_here" := by decide +kernel
theorem vq33_0_0 : Vs (relab csc33_0 (defScope (top 33))) "_law_number" := by decide +kernel
theorem dq33_0_0 : Nd "_law_number" := by decide +kernel
theorem cq33_0_0 : Nc "_law_number" := by decide +kernel
theorem v33_5 : Vs (defScope (top 33)) "_law_told_here" := by decide +kernel
theorem d33_5 : Nd "_law_told_here" := by decide +kernel
theorem c33_5 : Nc "_law_told_here" := by decide +kernel
theorem l33_7 : Lc (defScope (top 33)) "_law_outs" := by decide +kernel
def csc33_1 : Scope := { kind := PySem.ScopeKind.function, names := [ (PySem.Str.ofString ".0", PySem.NameKind.local), (PySem.Str.ofString "_law_place_here", PySem.NameKind.local), (PySem.Str.ofString "_law_place_bit", PySem.NameKind.globalImplicit), (PySem.Str.ofString "_law_fed", PySem.NameKind.free), (PySem.Str.ofString "_law_kept", PySem.NameKind.free), (PySem.Str.ofString "_law_told_here", PySem.NameKind.free)], isGenerator := false, isCoroutine := false, more := [] : PySem.Scope }
theorem cok33_1 : CompOk csc33_1 (defScope (top 33)) (["_law_place_here"] : List Str) (["_law_net", "_law_numbers", "_law_tables_here", "_law_fed", "_law_kept", "_law_told_here", "_law_bits_here", "_law_outs", "_law_taken"] : List Str) [3, 4, 5] (["_law_place_here", "_law_fed", "_law_kept", "_law_told_here"] : List Str) := compOk rfl (by decide +kernel) (by decide +kernel) (by decide +kernel) (by decide +kernel) rfl (by decide +kernel)
theorem kq33_1_0 : (relab csc33_1 (defScope (top 33))).names.lookup (Str.ofString "_law_place_here") = some NameKind.local := by decide +kernel
theorem gq33_1__law_place_bit : Gi (relab csc33_1 (defScope (top 33))) "_law_place_bit" := by decide +kernel
theorem vq33_1_3 : Vs (relab csc33_1 (defScope (top 33))) "_law_told_here" := by decide +kernel
theorem dq33_1_3 : Nd "_law_told_here" := by decide +kernel
theorem cq33_1_3 : Nc "_law_told_here" := by decide +kernel
theorem vq33_1_2 : Vs (relab csc33_1 (defScope (top 33))) "_law_kept" := by decide +kernel
theorem dq33_1_2 : Nd "_law_kept" := by decide +kernel
theorem cq33_1_2 : Nc "_law_kept" := by decide +kernel
theorem vq33_1_1 : Vs (relab csc33_1 (defScope (top 33))) "_law_fed" := by decide +kernel
theorem dq33_1_1 : Nd "_law_fed" := by decide +kernel
theorem cq33_1_1 : Nc "_law_fed" := by decide +kernel
theorem vq33_1_0 : Vs (relab csc33_1 (defScope (top 33))) "_law_place_here" := by decide +kernel
theorem dq33_1_0 : Nd "_law_place_here" := by decide +kernel
theorem cq33_1_0 : Nc "_law_place_here" := by decide +kernel
def csc33_2 : Scope := { kind := PySem.ScopeKind.function, names := [ (PySem.Str.ofString ".0", PySem.NameKind.local), (PySem.Str.ofString "_law_out", PySem.NameKind.local), (PySem.Str.ofString "_law_bits_here", PySem.NameKind.free)], isGenerator := false, isCoroutine := false, more := [] : PySem.Scope }
theorem cok33_2 : CompOk csc33_2 (defScope (top 33)) (["_law_out"] : List Str) (["_law_net", "_law_numbers", "_law_tables_here", "_law_fed", "_law_kept", "_law_told_here", "_law_bits_here", "_law_outs", "_law_taken"] : List Str) [6] (["_law_out", "_law_bits_here"] : List Str) := compOk rfl (by decide +kernel) (by decide +kernel) (by decide +kernel) (by decide +kernel) rfl (by decide +kernel)
theorem kq33_2_0 : (relab csc33_2 (defScope (top 33))).names.lookup (Str.ofString "_law_out") = some NameKind.local := by decide +kernel
theorem vq33_2_1 : Vs (relab csc33_2 (defScope (top 33))) "_law_bits_here" := by decide +kernel
theorem dq33_2_1 : Nd "_law_bits_here" := by decide +kernel
theorem cq33_2_1 : Nc "_law_bits_here" := by decide +kernel
theorem vq33_2_0 : Vs (relab csc33_2 (defScope (top 33))) "_law_out" := by decide +kernel
theorem dq33_2_0 : Nd "_law_out" := by decide +kernel
theorem cq33_2_0 : Nc "_law_out" := by decide +kernel
theorem v33_7 : Vs (defScope (top 33)) "_law_outs" := by decide +kernel
theorem d33_7 : Nd "_law_outs" := by decide +kernel
theorem c33_7 : Nc "_law_outs" := by decide +kernel
theorem l33_8 : Lc (defScope (top 33)) "_law_taken" := by decide +kernel
def csc33_3 : Scope := { kind := PySem.ScopeKind.function, names := [ (PySem.Str.ofString ".0", PySem.NameKind.local), (PySem.Str.ofString "_law_gate", PySem.NameKind.local), (PySem.Str.ofString "_law_bits_here", PySem.NameKind.free)], isGenerator := false, isCoroutine := false, more := [] : PySem.Scope }
theorem cok33_3 : CompOk csc33_3 (defScope (top 33)) (["_law_gate"] : List Str) (["_law_net", "_law_numbers", "_law_tables_here", "_law_fed", "_law_kept", "_law_told_here", "_law_bits_here", "_law_outs", "_law_taken"] : List Str) [6] (["_law_gate", "_law_bits_here"] : List Str) := compOk rfl (by decide +kernel) (by decide +kernel) (by decide +kernel) (by decide +kernel) rfl (by decide +kernel)
theorem kq33_3_0 : (relab csc33_3 (defScope (top 33))).names.lookup (Str.ofString "_law_gate") = some NameKind.local := by decide +kernel
theorem vq33_3_0 : Vs (relab csc33_3 (defScope (top 33))) "_law_gate" := by decide +kernel
theorem dq33_3_0 : Nd "_law_gate" := by decide +kernel
theorem cq33_3_0 : Nc "_law_gate" := by decide +kernel
theorem vq33_3_1 : Vs (relab csc33_3 (defScope (top 33))) "_law_bits_here" := by decide +kernel
theorem dq33_3_1 : Nd "_law_bits_here" := by decide +kernel
theorem cq33_3_1 : Nc "_law_bits_here" := by decide +kernel
theorem v33_8 : Vs (defScope (top 33)) "_law_taken" := by decide +kernel
theorem d33_8 : Nd "_law_taken" := by decide +kernel
theorem c33_8 : Nc "_law_taken" := by decide +kernel
def csc33_4 : Scope := { kind := PySem.ScopeKind.function, names := [ (PySem.Str.ofString ".0", PySem.NameKind.local), (PySem.Str.ofString "_law_first", PySem.NameKind.local), (PySem.Str.ofString "_law_place_here", PySem.NameKind.local), (PySem.Str.ofString "_law_place_bit", PySem.NameKind.globalImplicit), (PySem.Str.ofString "_law_fed", PySem.NameKind.free), (PySem.Str.ofString "_law_kept", PySem.NameKind.free), (PySem.Str.ofString "_law_told_here", PySem.NameKind.free)], isGenerator := false, isCoroutine := false, more := [] : PySem.Scope }
theorem cok33_4 : CompOk csc33_4 (defScope (top 33)) (["_law_first", "_law_place_here"] : List Str) (["_law_net", "_law_numbers", "_law_tables_here", "_law_fed", "_law_kept", "_law_told_here", "_law_bits_here", "_law_outs", "_law_taken"] : List Str) [3, 4, 5] (["_law_first", "_law_place_here", "_law_fed", "_law_kept", "_law_told_here"] : List Str) := compOk rfl (by decide +kernel) (by decide +kernel) (by decide +kernel) (by decide +kernel) rfl (by decide +kernel)
theorem kq33_4_1 : (relab csc33_4 (defScope (top 33))).names.lookup (Str.ofString "_law_place_here") = some NameKind.local := by decide +kernel
theorem kq33_4_0 : (relab csc33_4 (defScope (top 33))).names.lookup (Str.ofString "_law_first") = some NameKind.local := by decide +kernel
theorem gq33_4__law_place_bit : Gi (relab csc33_4 (defScope (top 33))) "_law_place_bit" := by decide +kernel
theorem vq33_4_4 : Vs (relab csc33_4 (defScope (top 33))) "_law_told_here" := by decide +kernel
theorem dq33_4_4 : Nd "_law_told_here" := by decide +kernel
theorem cq33_4_4 : Nc "_law_told_here" := by decide +kernel
theorem vq33_4_3 : Vs (relab csc33_4 (defScope (top 33))) "_law_kept" := by decide +kernel
theorem dq33_4_3 : Nd "_law_kept" := by decide +kernel
theorem cq33_4_3 : Nc "_law_kept" := by decide +kernel
theorem vq33_4_2 : Vs (relab csc33_4 (defScope (top 33))) "_law_fed" := by decide +kernel
theorem dq33_4_2 : Nd "_law_fed" := by decide +kernel
theorem cq33_4_2 : Nc "_law_fed" := by decide +kernel
theorem vq33_4_1 : Vs (relab csc33_4 (defScope (top 33))) "_law_place_here" := by decide +kernel
theorem dq33_4_1 : Nd "_law_place_here" := by decide +kernel
theorem cq33_4_1 : Nc "_law_place_here" := by decide +kernel
def spBS (CT CN : Addr) : Sp := fun vs H Q _ => ∃ (x nt nl fl hl gp op tt kt ot : Addr) (ins : Nat) (ts : List Tb) (ks : List Kp) (os : List Plc) (gs : List Gt) (xs : List V) (nums : List Nat) (row kept : List Bool), vs = [.ref nt, .ref nl, .ref x, .ref fl, .ref hl] ∧ BSp CT CN H x nt nl fl hl gp op tt kt ot ins ts ks os gs xs nums row kept ∧ ∀ H', Ch [] H H' → Q (.bl true) H'
theorem scBS : FnScope ["_law_net", "_law_numbers", "_law_tables_here", "_law_fed", "_law_kept", "_law_told_here", "_law_bits_here", "_law_outs", "_law_taken"] ["_law_net", "_law_numbers", "_law_tables_here", "_law_fed", "_law_kept"] (defScope (top 33)) := ⟨rfl, rfl, rfl, by decide +kernel, rfl, by decide +kernel, by decide +kernel⟩
theorem ok_bs {CT CN : Addr} (F : Fun K "_law_beat_same" "_law_beat_same" (top 33) f fd) (clT : Cls K CT) (tT : NoAttr K CT "tables") (tK : NoAttr K CT "keeps") (tO : NoAttr K CT "outs") (clN : Cls K CN) (nG : NoAttr K CN "gates") (nO : NoAttr K CN "outs")
    (D_law_table_bits : DefOk P w K mg base CX0 k "_law_table_bits" ["_law_tables_here", "_law_fed", "_law_kept"] spTBt) (D_law_values : DefOk P w K mg base CX0 k "_law_values" ["_law_gates", "_law_fed", "_law_held"] spVals) (D_law_place_bit : DefOk P w K mg base CX0 k "_law_place_bit" ["_law_place_here", "_law_fed", "_law_kept", "_law_told_here"] spPB) : FnOk P w K mg base CX0 (k + 1) f fd ["_law_net", "_law_numbers", "_law_tables_here", "_law_fed", "_law_kept"] (spBS CT CN) := by
  have nd := scBS.nd
  refine F.ok scBS (fun vs H Q E h => by obtain ⟨x, nt, nl, fl, hl, gp, op, tt, kt, ot, ins, ts, ks, os, gs, xs, nums, row, kept, rfl, _⟩ := h; rfl) (fun cdv A outer s H vs Q E hr h => ?_)
  obtain ⟨x, nt, nl, fl, hl, gp, op, tt, kt, ot, ins, ts, ks, os, gs, xs, nums, row, kept, rfl, ⟨⟨⟨dx, hx⟩, tp⟩, ⟨⟨dn, hnt⟩, hg, gg, hno⟩, nf, ok, ln, hn, hf, hh, lr, lk⟩, q⟩ := h
  refine ⟨_, (Pr.h (qpss_cons (qps_set (i := 5) nd rfl l33_5 (qpe_callD D_law_table_bits hr g33__law_table_bits pass0 (qpa_cons (qpe_fld (qpe_var (i := 2) rfl v33_2 d33_2 c33_2) rfl) (qpa_cons (qpe_var (i := 3) rfl v33_3 d33_3 c33_3) (qpa_cons (qpe_var (i := 4) rfl v33_4 d33_4 c33_4) qpa_nil se_Name) se_Name) se_Attribute) gd__law_table_bits))
 (qpss_cons (qps_set (i := 6) nd rfl l33_6 (qpe_callD D_law_values hr g33__law_values pass0 (qpa_cons (qpe_fld (qpe_var (i := 0) rfl v33_0 d33_0 c33_0) rfl) (qpa_cons (qpe_var (i := 3) rfl v33_3 d33_3 c33_3) (qpa_cons (qpe_var (i := 4) rfl v33_4 d33_4 c33_4) qpa_nil se_Name) se_Name) se_Attribute) gd__law_values))
 (qpss_cons (qps_if (qpt_cmpR (op_neS hr.units) (qpe_comp rfl cok33_0 (qpi_list (qpe_var (i := 1) rfl v33_1 d33_1 c33_1)) (fun _ _ _ _ _ => (qpg_name (i := 0) cok33_0.nd rfl (Or.inl kq33_0_0) (Or.inr kq33_0_0))) (fun _ _ _ _ _ => qpif_nil) (fun _ _ _ _ _ => (qpe_ix (ixaK_list K rfl) (qpe_var (i := 1) rfl vq33_0_1 dq33_0_1 cq33_0_1) (qpe_var (i := 0) rfl vq33_0_0 dq33_0_0 cq33_0_0) (fun _ _ => rfl)))) (qpe_var (i := 5) rfl v33_5 d33_5 c33_5) (nomark _))
  (qpss_one (qps_ret qpe_bl))
  qpss_nil)
 (qpss_cons (qps_setC (i := 7) nd rfl l33_7 rfl cok33_1 (qpi_tup (qpe_fld (qpe_var (i := 2) rfl v33_2 d33_2 c33_2) rfl)) (fun _ _ _ _ _ => (qpg_name (i := 0) cok33_1.nd rfl (Or.inl kq33_1_0) (Or.inr kq33_1_0))) (fun _ _ _ _ _ => qpif_nil) (fun _ _ _ _ _ => (qpe_callD D_law_place_bit hr gq33_1__law_place_bit pass0 (qpa_cons (qpe_var (i := 0) rfl vq33_1_0 dq33_1_0 cq33_1_0) (qpa_cons (qpe_var (i := 1) rfl vq33_1_1 dq33_1_1 cq33_1_1) (qpa_cons (qpe_var (i := 2) rfl vq33_1_2 dq33_1_2 cq33_1_2) (qpa_cons (qpe_var (i := 3) rfl vq33_1_3 dq33_1_3 cq33_1_3) qpa_nil se_Name) se_Name) se_Name) se_Name) gd__law_place_bit)) rfl)
 (qpss_cons (qps_if (qpt_cmpR (op_neS hr.units) (qpe_comp rfl cok33_2 (qpi_tup (qpe_fld (qpe_var (i := 0) rfl v33_0 d33_0 c33_0) rfl)) (fun _ _ _ _ _ => (qpg_name (i := 0) cok33_2.nd rfl (Or.inl kq33_2_0) (Or.inr kq33_2_0))) (fun _ _ _ _ _ => qpif_nil) (fun _ _ _ _ _ => (qpe_ix (ixaK_list K rfl) (qpe_var (i := 1) rfl vq33_2_1 dq33_2_1 cq33_2_1) (qpe_var (i := 0) rfl vq33_2_0 dq33_2_0 cq33_2_0) (fun _ _ => rfl)))) (qpe_var (i := 7) rfl v33_7 d33_7 c33_7) (nomark _))
  (qpss_one (qps_ret qpe_bl))
  qpss_nil)
 (qpss_cons (qps_setC (i := 8) nd rfl l33_8 rfl cok33_3 (qpi_tup (qpe_fld (qpe_var (i := 0) rfl v33_0 d33_0 c33_0) rfl)) (fun _ _ _ _ _ => (qpg_name (i := 0) cok33_3.nd rfl (Or.inl kq33_3_0) (Or.inr kq33_3_0))) (fun _ _ _ _ _ => (qpif_one (qpt_cmpR op_eq (qpe_ix (ixaK_tup K rfl) (qpe_var (i := 0) rfl vq33_3_0 dq33_3_0 cq33_3_0) qpe_int (fun _ _ => rfl)) qpe_str (nomark _)))) (fun _ _ _ _ _ => (qpe_ix (ixaK_list K rfl) (qpe_var (i := 1) rfl vq33_3_1 dq33_3_1 cq33_3_1) (qpe_ix (ixaK_tup K rfl) (qpe_var (i := 0) rfl vq33_3_0 dq33_3_0 cq33_3_0) qpe_int (fun _ _ => rfl)) (fun _ _ => rfl))) rfl)
 (qpss_one (qps_ret (qpe_cmpR (op_eqS hr.units) (qpe_var (i := 8) rfl v33_8 d33_8 c33_8) (qpe_comp rfl cok33_4 (qpi_tup (qpe_fld (qpe_var (i := 2) rfl v33_2 d33_2 c33_2) rfl)) (fun _ _ _ _ _ => (qpg_tupK K 2 rfl rfl (qpgs_cons (qpg_name (i := 0) cok33_4.nd rfl (Or.inl kq33_4_0) (Or.inr kq33_4_0)) (qpgs_cons (qpg_name (i := 1) cok33_4.nd rfl (Or.inl kq33_4_1) (Or.inr kq33_4_1)) qpgs_nil)))) (fun _ _ _ _ _ => qpif_nil) (fun _ _ _ _ _ => (qpe_callD D_law_place_bit hr gq33_4__law_place_bit pass0 (qpa_cons (qpe_var (i := 1) rfl vq33_4_1 dq33_4_1 cq33_4_1) (qpa_cons (qpe_var (i := 2) rfl vq33_4_2 dq33_4_2 cq33_4_2) (qpa_cons (qpe_var (i := 3) rfl vq33_4_3 dq33_4_3 cq33_4_3) (qpa_cons (qpe_var (i := 4) rfl vq33_4_4 dq33_4_4 cq33_4_4) qpa_nil se_Name) se_Name) se_Name) se_Name) gd__law_place_bit))) (nomark _))))))))))), ?_⟩
  (try dsimp only [cxOf])
  have f2 := @ft_t ins tt kt ot
  have f3 := @ft_k ins tt kt ot
  have f4 := @ft_o ins tt kt ot
  have fg := fldsNet_gates gp op
  have fo := fldsNet_outs gp op
  have vc := nf.vc lr lk
  have okT : ∀ (i : Nat) (t : Tb), ts[i]? = some t → t.ok row.length kept.length i := by rw [lr, lk]; exact ok.t
  have t12 := ok.lt
  have k12 := ok.lk
  have o12 := ok.lo
  have tpt := tp.t
  have gl := nf.ln
  have lx := gg.len
  walk_at "rd"
  rename_i tr H1 c1 ftr g1
  refine ⟨gg.tu (Tu.same c1), c1.get hf (by simp), c1.get hh (by simp), vc, fun br H2 c2 fbr g2 => ?_⟩
  have c02 := c1.trans c2
  have gt2 := c2.get g1 (by simp)
  have av : ∀ n, n < gs.length → atI ((run row kept gs).1.map bV) (n : Int) = some (.int (bi (vl gs row kept n))) := fun n hn => at_bs (by rw [run_len]; exact hn)
  have ul := upT_len (ts := ts) (row := row) (kept := kept) (i := ts.length) (Nat.le_refl _)
  have eN := nums_up nf ln row kept
  have nl12 : nums.length ≤ 12 := by omega
  have numlt : ∀ n ∈ nums, n < gs.length := fun n hn => by
    obtain ⟨j, hj⟩ := List.getElem?_of_mem hn
    have h1 := (List.getElem?_eq_some_iff.mp hj).1
    have := (nf.v (.t, j) (by show j < ts.length; omega)).1
    have e1 : gn ins nums (.t, j) = n := by
      show nums.getD j 0 = _
      rw [List.getD_eq_getElem?_getD, hj]; rfl
    rw [e1] at this
    exact this
  have hd : ∀ y : Plc, y.2 < lim ins ks.length ts.length y.1 → gn ins nums y < gs.length ∧ vl gs row kept (gn ins nums y) = hdv row kept (upT ts row kept ts.length) y := fun y hy => ⟨(nf.v y hy).1, (nf.v y hy).2 row kept⟩
  generalize upT ts row kept ts.length = tab at *
  have hn2 := c02.get hn (by simp)
  clear c1 c2 g1 vc okT tpt
  walk_at "rd"
  refine comp_list (nums.map nV) (fun j ys σ H' => H' = H2 ∧ ys = ((nums.take j).map (vl gs row kept)).map bV ∧ ∃ u, σ = [u, some (.ref br)]) (by rw [sizeLine_eq, List.length_map]; omega) ⟨rfl, rfl, _, rfl⟩ ?_ ?_ ?_
  · rintro j ys σ H' hj ⟨rfl, rfl, _⟩
    exact ⟨by simp; omega, SqL.of hn2⟩
  · rintro j ys σ H' z hz ⟨rfl, rfl, u, rfl⟩
    rw [List.getElem?_map] at hz
    obtain ⟨n, hn', rfl⟩ := Option.map_eq_some_iff.mp hz
    have hat := av n (numlt n (List.mem_of_getElem? hn'))
    unfold nV
    walk_at "rd"
    refine ⟨?_, _, rfl⟩
    rw [List.take_add_one, hn']; simp [bV]
  rintro ys σ H3 ⟨rfl, rfl, _⟩
  rw [List.length_map, List.take_length, eN]
  intro D1 hD1
  have c3 : Ch [] H3 (upd H3 D1 (.lst (tab.map bV))) := Ch.new hD1 _
  have g3 : (upd H3 D1 (.lst (tab.map bV))) D1 = some (.lst (tab.map bV)) := upd_same
  generalize upd H3 D1 (.lst (tab.map bV)) = H4 at c3 g3 ⊢
  have c04 := c02.trans c3
  have gt4 := c3.get gt2 (by simp)
  have gb4 := c3.get g2 (by simp)
  have sc := sca_bs tab
  clear c3 gt2 g2 hn2
  walk_at "rd"
  refine iteNn rfl ?_
  obtain ⟨ops, ho, oo⟩ := tp.o
  have lo := Paired.length oo
  rw [List.length_map] at lo
  have ho4 := c04.get ho (by simp)
  have hx4 : H4 x = some (.ins CT dx (fldsT ins tt kt ot)) := c04.get hx (by simp)
  walk_at "rd"
  refine comp_tup (ops.map V.ref) (fun j ys σ H' => Ch [] H4 H' ∧ ys = ((os.take j).map (hdv row kept tab)).map bV ∧ ∃ u, σ = [u, some (.ref fl), some (.ref hl), some (.ref tr)]) (by rw [sizeLine_eq, List.length_map]; omega) ⟨Ch.refl _ _, rfl, _, rfl⟩ ?_ ?_ ?_
  · rintro j ys σ H' hj ⟨c, rfl, _⟩
    exact ⟨by simp; omega, SqT.of (c.get ho4 (by simp))⟩
  · rintro j ys σ H' z hz ⟨c, rfl, u, rfl⟩
    have c0 := c04.trans c
    obtain ⟨pl, y, rfl, ey, hpl⟩ := pl_get (oo.tu (Tu.same c0)) j z hz
    have ly : y.2 < lim row.length kept.length tab.length y.1 := by rw [lr, lk, ul]; exact ok.o y (List.mem_of_getElem? ey)
    have hf5 := c0.get hf (by simp)
    have hh5 := c0.get hh (by simp)
    have gt5 := c.get gt4 (by simp)
    walk_at "rd"
    refine ⟨?_, _, rfl⟩
    rw [List.take_add_one, ey]; simp [bV]
  rintro ys σ H5 ⟨c5, rfl, _⟩
  rw [List.length_map, ← lo, List.take_length]
  intro D2 hD2
  have c6 : Ch [] H4 (upd H5 D2 (.lst ((os.map (hdv row kept tab)).map bV))) := c5.trans (Ch.new hD2 _)
  have g6 : (upd H5 D2 (.lst ((os.map (hdv row kept tab)).map bV))) D2 = some (.lst ((os.map (hdv row kept tab)).map bV)) := upd_same
  generalize upd H5 D2 (.lst ((os.map (hdv row kept tab)).map bV)) = H6 at c6 g6 ⊢
  have c06 := c04.trans c6
  have gb6 := c6.get gb4 (by simp)
  have gt6 := c6.get gt4 (by simp)
  have ho6 := c06.get hno (by simp)
  have hn6 : H6 nt = some (.ins CN dn (fldsNet gp op)) := c06.get hnt (by simp)
  clear c5 hD2 c6 c04 c02 gt4 gb4 g3
  walk_at "rd"
  refine comp_tup ((os.map (gn ins nums)).map nV) (fun j ys σ H' => H' = H6 ∧ ys = ((os.take j).map (hdv row kept tab)).map bV ∧ ∃ u, σ = [u, some (.ref br)]) (by rw [sizeLine_eq, List.length_map, List.length_map]; omega) ⟨rfl, rfl, _, rfl⟩ ?_ ?_ ?_
  · rintro j ys σ H' hj ⟨rfl, rfl, _⟩
    exact ⟨by simp; omega, SqT.of ho6⟩
  · rintro j ys σ H' z hz ⟨rfl, rfl, u, rfl⟩
    rw [List.getElem?_map, List.getElem?_map, Option.map_map] at hz
    obtain ⟨y, hy, rfl⟩ := Option.map_eq_some_iff.mp hz
    obtain ⟨l1, v1⟩ := hd y (ok.o y (List.mem_of_getElem? hy))
    have hat := av _ l1
    rw [v1] at hat
    show gName 0 (.int ((gn ins nums y : Nat) : Int)) _ _ _
    walk_at "rd"
    refine ⟨?_, _, rfl⟩
    rw [List.take_add_one, hy]; simp [bV]
  rintro ys σ H7 ⟨rfl, rfl, _⟩
  rw [List.length_map, List.length_map, List.take_length]
  intro D3 hD3
  have c8 : Ch [] H7 (upd H7 D3 (.lst ((os.map (hdv row kept tab)).map bV))) := Ch.new hD3 _
  have g8 : (upd H7 D3 (.lst ((os.map (hdv row kept tab)).map bV))) D3 = some (.lst ((os.map (hdv row kept tab)).map bV)) := upd_same
  generalize upd H7 D3 (.lst ((os.map (hdv row kept tab)).map bV)) = H8 at c8 g8 ⊢
  have c08 := c06.trans c8
  have g68 := c8.get g6 (by simp)
  have gb8 := c8.get gb6 (by simp)
  have gt8 := c8.get gt6 (by simp)
  have sc2 := sca_bs (os.map (hdv row kept tab))
  clear c8 c06 gb6 gt6 ho6 hn6 g6
  walk_at "rd"
  refine iteNn rfl ?_
  have hg8 := c08.get hg (by simp)
  have gg8 := gg.tu (Tu.same c08)
  have hn8 : H8 nt = some (.ins CN dn (fldsNet gp op)) := c08.get hnt (by simp)
  walk_at "rd"
  refine comp_tup xs (fun j ys σ H' => H' = H8 ∧ ys = (((gs.take j).filterMap kfa).map (vl gs row kept)).map bV ∧ ∃ u, σ = [u, some (.ref br)]) (by rw [sizeLine_eq]; omega) ⟨rfl, rfl, _, rfl⟩ ?_ ?_ ?_
  · rintro j ys σ H' hj ⟨rfl, rfl, _⟩
    refine ⟨?_, SqT.of hg8⟩
    rw [List.length_map, List.length_map]
    exact Nat.le_trans (List.length_filterMap_le _ _) (by rw [List.length_take]; omega)
  · rintro j ys σ H' z hz ⟨rfl, rfl, u, rfl⟩
    have hj : j < gs.length := by rw [← lx]; exact (List.getElem?_eq_some_iff.mp hz).1
    obtain ⟨g, hgi⟩ : ∃ g, gs[j]? = some g := ⟨_, List.getElem?_eq_getElem hj⟩
    obtain ⟨p, ep, hp⟩ := gg8.at_ j g hgi
    rw [hz] at ep
    cases ep
    have tk : (gs.take (j + 1)).filterMap kfa = (gs.take j).filterMap kfa ++ [g].filterMap kfa := by rw [List.take_add_one, hgi, List.filterMap_append]; rfl
    rw [tk]
    cases g with
    | keep ff a =>
      have hp : H' p = some (.tup [.str "keep", .int (bi ff), .int (a : Int)]) := hp
      have hal : a < gs.length := by
        have hm : a ∈ gs.filterMap kfa := List.mem_filterMap.mpr ⟨_, List.mem_of_getElem? hgi, rfl⟩
        rw [kfa_all nf] at hm
        obtain ⟨kk', hk', rfl⟩ := List.mem_map.mp hm
        exact (nf.v kk'.pl (ok.k kk' hk')).1
      have hat := av a hal
      walk_at "rd"
      refine ⟨?_, _, rfl⟩
      simp [kfa, bV]
    | inp =>
      have hp : H' p = some (.tup [.str "in"]) := hp
      walk_at "rd"
      exact ⟨by simp [kfa], _, rfl⟩
    | zero =>
      have hp : H' p = some (.tup [.str "zero"]) := hp
      walk_at "rd"
      exact ⟨by simp [kfa], _, rfl⟩
    | one =>
      have hp : H' p = some (.tup [.str "one"]) := hp
      walk_at "rd"
      exact ⟨by simp [kfa], _, rfl⟩
    | pick a b c =>
      have hp : H' p = some (.tup [.str "pick", .int (a : Int), .int (b : Int), .int (c : Int)]) := hp
      walk_at "rd"
      exact ⟨by simp [kfa], _, rfl⟩
  rintro ys σ H9 ⟨rfl, rfl, _⟩
  have eK : (gs.filterMap kfa).map (vl gs row kept) = ks.map (fun k => hdv row kept tab k.pl) := by
    rw [kfa_all nf, List.map_map]
    exact List.map_congr_left fun k hk => (hd k.pl (ok.k k hk)).2
  rw [lx, List.take_length, eK]
  intro D4 hD4
  have c10 : Ch [] H9 (upd H9 D4 (.lst ((ks.map (fun k => hdv row kept tab k.pl)).map bV))) := Ch.new hD4 _
  have g10 : (upd H9 D4 (.lst ((ks.map (fun k => hdv row kept tab k.pl)).map bV))) D4 = some (.lst ((ks.map (fun k => hdv row kept tab k.pl)).map bV)) := upd_same
  generalize upd H9 D4 (.lst ((ks.map (fun k => hdv row kept tab k.pl)).map bV)) = H10 at c10 g10 ⊢
  have c010 := c08.trans c10
  have gt10 := c10.get gt8 (by simp)
  obtain ⟨kps, hk, kk⟩ := tp.k
  have lkp := Paired.length kk
  have hk10 := c010.get hk (by simp)
  have hx10 : H10 x = some (.ins CT dx (fldsT ins tt kt ot)) := c010.get hx (by simp)
  clear c10 c08 gt8 gb8 hg8 gg8 hn8 hx4 ho4
  walk_at "rd"
  refine comp_tup (kps.map V.ref) (fun j ys σ H' => Ch [] H10 H' ∧ ys = ((ks.take j).map (fun k => hdv row kept tab k.pl)).map bV ∧ ∃ u v, σ = [u, v, some (.ref fl), some (.ref hl), some (.ref tr)]) (by rw [sizeLine_eq, List.length_map]; omega) ⟨Ch.refl _ _, rfl, _, _, rfl⟩ ?_ ?_ ?_
  · rintro j ys σ H' hj ⟨c, rfl, _⟩
    exact ⟨by simp; omega, SqT.of (c.get hk10 (by simp))⟩
  · rintro j ys σ H' z hz ⟨c, rfl, u, v, rfl⟩
    have c0 := c010.trans c
    obtain ⟨p, y, rfl, ey, y1⟩ := paired_get kk j z hz
    obtain ⟨pp, hp, hpp⟩ := y1.tu (Tu.same c0)
    have ly : y.pl.2 < lim row.length kept.length tab.length y.pl.1 := by rw [lr, lk, ul]; exact ok.k y (List.mem_of_getElem? ey)
    have hf5 := c0.get hf (by simp)
    have hh5 := c0.get hh (by simp)
    have gt5 := c.get gt10 (by simp)
    walk_at "rd"
    refine ⟨?_, _, _, rfl⟩
    rw [List.take_add_one, ey]; simp [bV]
  rintro ys σ H11 ⟨c11, rfl, _⟩
  rw [List.length_map, ← lkp, List.take_length]
  intro D5 hD5
  have sc3 := sca_bs (ks.map (fun k => hdv row kept tab k.pl))
  have g11 := c11.get g10 (by simp)
  refine ⟨D4, D5, _, _, rfl, rfl, g_new hD5 g11, upd_same, sc3, sc3, ?_⟩
  rw [decide_eq_true rfl]
  exact q _ ((c010.trans c11).trans (Ch.new hD5 _))
end
end

section
theorem scr_chg {K : PySem.W.Frag} {H H' : Hp} {a b : Addr} {ns : List Int} {o : HO} (S : Scr K H a ns) (hb : H b = some o) (ho : ∀ o' u, o ≠ .frz o' u) (c : Ch [b] H H') : Scr K H' a ns := by
  refine ⟨S.1, ?_⟩
  rcases S.2 with ⟨o', h⟩ | h
  · exact Or.inl ⟨o', c.get h (by simpa using ne_of h hb (fun z => ho _ _ z.symm))⟩
  · exact Or.inr h
def rCount : V → List V → Hp → VK → Prop := fun x vs H Q => ∃ (l : Addr) (ws : List Str) (k : Str), x = .ref l ∧ vs = [.str k] ∧ H l = some (.lst (ws.map V.str)) ∧ Q (.int (PySem.Spec.countIn (.str k) (ws.map PyData.str))) H
theorem vals_strs : ∀ {ws : List Str} {us : List Value}, Vals (ws.map V.str) us → PyProof.Rows.StrsAre us ws
  | [], _, .nil => .nil
  | y :: ws, _, .cons r t => by obtain ⟨tk, rfl⟩ := r; exact .cons y tk (vals_strs t)
theorem mt_count {X : Cx} : MtM X "list.count" rCount := by
  intro pins s σ H x vs v us Q I rx rv h
  obtain ⟨l, ws, k, rfl, rfl, hH, q⟩ := h
  cases rx
  obtain ⟨u, rfl, ru⟩ := rv.one
  obtain ⟨t, rfl⟩ := ru
  obtain ⟨z, its, n, r, hl, e⟩ := I.lstM hH
  exact PyProof.Rows.count_list_strs ⟨_, e, rfl, n, rfl⟩ (vals_strs r) ⟨.int _, H, I.tok _, ⟨_, rfl⟩, q⟩
def rIsC (K : PySem.W.Frag) : List V → Hp → VK → Prop := fun xs H Q => ∃ (x : V) (C : Addr) (t : Value) (b : Bool), xs = [x, .ref C] ∧ TyOf K H x t ∧ PySem.W.kitOne K t (.ref C) = some b ∧ Q (.bl b) H
theorem call_isC {X : Cx} : CallR X (.builtin "isinstance") (rIsC X.K) := by
  intro pins s σ H xs us Q I r h
  obtain ⟨x, C, t, b, rfl, ty, e, q⟩ := h
  obtain ⟨u, v, rfl, ru, rv⟩ := vals2 r
  cases rv
  exact isinst_ok I ru ty e fun tk => ⟨.bl b, H, I.tok _, rfl, q⟩
def Gt.isI : Gt → Bool
  | .inp => true
  | _ => false
theorem sm1 : PySem.Spec.same (.str "in") (.str "in") = true := by decide +kernel
theorem sm2 : PySem.Spec.same (.str "zero") (.str "in") = false := by decide +kernel
theorem cnt_in : ∀ gs : List Gt, PySem.Spec.countIn (.str "in") ((gs.map Gt.wd).map PyData.str) = (((gs.filter Gt.isI).length : Nat) : Int)
  | [] => rfl
  | g :: gs => by
    rw [List.map_cons, List.map_cons, PySem.Spec.countIn, cnt_in gs, List.filter_cons]
    have : PySem.Spec.same (.str g.wd) (.str "in") = g.isI := by cases g <;> first | exact sm1 | exact sm2 | exact sm3 | exact sm4 | exact sm5
    rw [this]
    cases g.isI <;> simp <;> omega
def kff : Gt → Option Bool
  | .keep f _ => some f
  | _ => none
theorem kff_all {gs : List Gt} {ins : Nat} {ts : List Tb} {ks : List Kp} {nums : List Nat} (nf : NF gs ins ts ks nums) : gs.filterMap kff = ks.map Kp.f ∧ (gs.filter Gt.isI).length = ins := by
  obtain ⟨t, et, pt⟩ := nf.sh
  rw [et]
  constructor
  · rw [List.filterMap_append, List.filterMap_append]
    have e1 : (List.replicate ins Gt.inp).filterMap kff = [] := List.filterMap_eq_nil_iff.mpr fun g hg => by rw [(List.mem_replicate.mp hg).2]; rfl
    have e2 : t.filterMap kff = [] := List.filterMap_eq_nil_iff.mpr fun g hg => by have := pt g hg; cases g <;> first | rfl | (cases this)
    rw [e1, e2, List.nil_append, List.append_nil, List.filterMap_map]
    exact (List.filterMap_eq_map (f := fun k : Kp => k.f) ▸ rfl)
  · rw [List.filter_append, List.filter_append, List.length_append, List.length_append]
    have e1 : (List.replicate ins Gt.inp).filter Gt.isI = List.replicate ins .inp := List.filter_eq_self.mpr fun g hg => by rw [(List.mem_replicate.mp hg).2]; rfl
    have e2 : t.filter Gt.isI = [] := List.filter_eq_nil_iff.mpr fun g hg => by have := pt g hg; cases g <;> first | (cases (show false = true from this); done) | (intro z; cases z)
    have e3 : (ks.map fun k => Gt.keep k.f (gn ins nums k.pl)).filter Gt.isI = [] := List.filter_eq_nil_iff.mpr fun g hg => by
      obtain ⟨k, _, rfl⟩ := List.mem_map.mp hg
      intro z; cases z
    rw [e1, e2, e3]
    simp
theorem gt_hd (g : Gt) : ∃ rs, g.vs = .str g.wd :: rs := by cases g <;> exact ⟨_, rfl⟩
theorem TlAt.same {C : Addr} {H H' : Hp} {x : Addr} {ins : Nat} {tt kt ot : Addr} {ts : List Tb} {ks : List Kp} {os : List Plc} (p : TlAt C H x ins tt kt ot ts ks os) (c : Ch [] H H') : TlAt C H' x ins tt kt ot ts ks os := ⟨p.ob.imp fun _ h => c.get h (by simp), p.tp.tu (Tu.same c)⟩
structure Cw where
  CT : Addr
  CN : Addr
  a : Addr
  b : Addr
  ns : List Int
  x : Addr
  nt : Addr
  nl : Addr
  gp : Addr
  op : Addr
  tt : Addr
  kt : Addr
  ot : Addr
  KT : Addr
  ins : Nat
  ts : List Tb
  ks : List Kp
  os : List Plc
  gs : List Gt
  xs : List V
  nums : List Nat
structure LW (K : PySem.W.Frag) (z : Cw) (kw : Addr) (H : Hp) (kn : List Bool) (c : Int) : Prop where
  ta : TlAt z.CT H z.x z.ins z.tt z.kt z.ot z.ts z.ks z.os
  na : NetAt z.CN H z.nt z.gp z.op z.gs z.xs (z.os.map (gn z.ins z.nums))
  hn : H z.nl = some (.lst (z.nums.map nV))
  hK : H z.KT = some (.tup [.int (z.ins : Int), .ref z.tt, .ref z.kt, .ref z.ot])
  hk : H kw = some (.lst (kn.map bV))
  lk : kn.length = z.ks.length
  sc : Scr K H z.a z.ns
  hb : H z.b = some (.lst [.int c])
  ne : kw ≠ z.b ∧ z.nl ≠ z.b
theorem LW.same {K : PySem.W.Frag} {z : Cw} {kw : Addr} {H H' : Hp} {kn : List Bool} {c : Int} (l : LW K z kw H kn c) (d : Ch [] H H') : LW K z kw H' kn c :=
  ⟨l.ta.same d, ⟨l.na.ob.imp fun _ h => d.get h (by simp), d.get l.na.gt (by simp), l.na.gg.tu (Tu.same d), d.get l.na.ot (by simp)⟩, d.get l.hn (by simp), d.get l.hK (by simp), d.get l.hk (by simp), l.lk, l.sc.same d, d.get l.hb (by simp), l.ne⟩
theorem LW.bump {K : PySem.W.Frag} {z : Cw} {kw : Addr} {H H' : Hp} {kn : List Bool} {c c' : Int} (l : LW K z kw H kn c) (d : Ch [z.b] H H') (hb : H' z.b = some (.lst [.int c'])) : LW K z kw H' kn c' := by
  have tu := Tu.lst d l.hb
  have ne : ∀ {p C dx : Addr} {fs : List (Str × V)}, H p = some (.ins C dx fs) → p ∉ [z.b] := fun h => by simpa using ne_of h l.hb (by intro z; cases z)
  exact ⟨⟨l.ta.ob.imp fun _ h => d.get h (ne h), l.ta.tp.tu tu⟩, ⟨l.na.ob.imp fun _ h => d.get h (ne h), tu _ _ l.na.gt, l.na.gg.tu tu, tu _ _ l.na.ot⟩, d.get l.hn (by simpa using l.ne.2), tu _ _ l.hK, d.get l.hk (by simpa using l.ne.1), l.lk, l.sc.ch l.hb d, hb, l.ne⟩
structure CBd (c : Int) (i : Nat) : Prop where
  lo : 0 ≤ c
  hi : c ≤ 2000 + 100 * (i : Int)
section
variable {P : Program} {w : World} {K : PySem.W.Frag} {mg : Str → Option Value} {base : Heap} {f : Addr} {fd : FuncData} {k : Nat}
theorem gd__law_tables : Nd "_law_tables" := by decide +kernel
theorem gd_Tables : Nd "Tables" := by decide +kernel
theorem gd_opened_net : Nd "opened_net" := by decide +kernel
theorem gd__law_bits : Nd "_law_bits" := by decide +kernel
theorem gd__law_beat_same : Nd "_law_beat_same" := by decide +kernel
theorem l34_1 : Lc (defScope (top 34)) "_law_at" := by decide +kernel
theorem g34__law_tables : Gi (defScope (top 34)) "_law_tables" := by decide +kernel
theorem v34_1 : Vs (defScope (top 34)) "_law_at" := by decide +kernel
theorem d34_1 : Nd "_law_at" := by decide +kernel
theorem c34_1 : Nc "_law_at" := by decide +kernel
theorem v34_0 : Vs (defScope (top 34)) "_law_script" := by decide +kernel
theorem d34_0 : Nd "_law_script" := by decide +kernel
theorem c34_0 : Nc "_law_script" := by decide +kernel
theorem l34_5 : Lc (defScope (top 34)) "_law_outs" := by decide +kernel
theorem l34_4 : Lc (defScope (top 34)) "_law_held" := by decide +kernel
theorem l34_3 : Lc (defScope (top 34)) "_law_rows" := by decide +kernel
theorem l34_2 : Lc (defScope (top 34)) "_law_ins" := by decide +kernel
theorem l34_6 : Lc (defScope (top 34)) "_law_tables_here" := by decide +kernel
theorem g34_Tables : Gi (defScope (top 34)) "Tables" := by decide +kernel
theorem v34_5 : Vs (defScope (top 34)) "_law_outs" := by decide +kernel
theorem d34_5 : Nd "_law_outs" := by decide +kernel
theorem c34_5 : Nc "_law_outs" := by decide +kernel
theorem v34_4 : Vs (defScope (top 34)) "_law_held" := by decide +kernel
theorem d34_4 : Nd "_law_held" := by decide +kernel
theorem c34_4 : Nc "_law_held" := by decide +kernel
theorem v34_3 : Vs (defScope (top 34)) "_law_rows" := by decide +kernel
theorem d34_3 : Nd "_law_rows" := by decide +kernel
theorem c34_3 : Nc "_law_rows" := by decide +kernel
theorem v34_2 : Vs (defScope (top 34)) "_law_ins" := by decide +kernel
theorem d34_2 : Nd "_law_ins" := by decide +kernel
theorem c34_2 : Nc "_law_ins" := by decide +kernel
theorem l34_7 : Lc (defScope (top 34)) "_law_kept_tables" := by decide +kernel
theorem v34_6 : Vs (defScope (top 34)) "_law_tables_here" := by decide +kernel
theorem d34_6 : Nd "_law_tables_here" := by decide +kernel
theorem c34_6 : Nc "_law_tables_here" := by decide +kernel
theorem l34_8 : Lc (defScope (top 34)) "_law_found" := by decide +kernel
theorem g34_opened_net : Gi (defScope (top 34)) "opened_net" := by decide +kernel
theorem g34_isinstance : Gi (defScope (top 34)) "isinstance" := by decide +kernel
theorem v34_8 : Vs (defScope (top 34)) "_law_found" := by decide +kernel
theorem d34_8 : Nd "_law_found" := by decide +kernel
theorem c34_8 : Nc "_law_found" := by decide +kernel
theorem g34_Net : Gi (defScope (top 34)) "Net" := by decide +kernel
theorem g34_len : Gi (defScope (top 34)) "len" := by decide +kernel
theorem g34_tuple : Gi (defScope (top 34)) "tuple" := by decide +kernel
theorem l34_10 : Lc (defScope (top 34)) "_law_numbers" := by decide +kernel
theorem l34_9 : Lc (defScope (top 34)) "_law_net" := by decide +kernel
theorem l34_11 : Lc (defScope (top 34)) "_law_words" := by decide +kernel
theorem v34_9 : Vs (defScope (top 34)) "_law_net" := by decide +kernel
theorem d34_9 : Nd "_law_net" := by decide +kernel
theorem c34_9 : Nc "_law_net" := by decide +kernel
def csc34_0 : Scope := { kind := PySem.ScopeKind.function, names := [(PySem.Str.ofString ".0", PySem.NameKind.local), (PySem.Str.ofString "_law_gate", PySem.NameKind.local)], isGenerator := false, isCoroutine := false, more := [] : PySem.Scope }
theorem cok34_0 : CompOk csc34_0 (defScope (top 34)) (["_law_gate"] : List Str) (["_law_script", "_law_at", "_law_ins", "_law_rows", "_law_held", "_law_outs", "_law_tables_here", "_law_kept_tables", "_law_found", "_law_net", "_law_numbers", "_law_words", "_law_firsts", "_law_kept", "_law_beat", "_law_fed", "_law_told_here", "_law_due"] : List Str) [] (["_law_gate"] : List Str) := compOk rfl (by decide +kernel) (by decide +kernel) (by decide +kernel) (by decide +kernel) rfl (by decide +kernel)
theorem kq34_0_0 : (relab csc34_0 (defScope (top 34))).names.lookup (Str.ofString "_law_gate") = some NameKind.local := by decide +kernel
theorem vq34_0_0 : Vs (relab csc34_0 (defScope (top 34))) "_law_gate" := by decide +kernel
theorem dq34_0_0 : Nd "_law_gate" := by decide +kernel
theorem cq34_0_0 : Nc "_law_gate" := by decide +kernel
theorem l34_12 : Lc (defScope (top 34)) "_law_firsts" := by decide +kernel
def csc34_1 : Scope := { kind := PySem.ScopeKind.function, names := [(PySem.Str.ofString ".0", PySem.NameKind.local), (PySem.Str.ofString "_law_gate", PySem.NameKind.local)], isGenerator := false, isCoroutine := false, more := [] : PySem.Scope }
theorem cok34_1 : CompOk csc34_1 (defScope (top 34)) (["_law_gate"] : List Str) (["_law_script", "_law_at", "_law_ins", "_law_rows", "_law_held", "_law_outs", "_law_tables_here", "_law_kept_tables", "_law_found", "_law_net", "_law_numbers", "_law_words", "_law_firsts", "_law_kept", "_law_beat", "_law_fed", "_law_told_here", "_law_due"] : List Str) [] (["_law_gate"] : List Str) := compOk rfl (by decide +kernel) (by decide +kernel) (by decide +kernel) (by decide +kernel) rfl (by decide +kernel)
theorem kq34_1_0 : (relab csc34_1 (defScope (top 34))).names.lookup (Str.ofString "_law_gate") = some NameKind.local := by decide +kernel
theorem vq34_1_0 : Vs (relab csc34_1 (defScope (top 34))) "_law_gate" := by decide +kernel
theorem dq34_1_0 : Nd "_law_gate" := by decide +kernel
theorem cq34_1_0 : Nc "_law_gate" := by decide +kernel
theorem v34_10 : Vs (defScope (top 34)) "_law_numbers" := by decide +kernel
theorem d34_10 : Nd "_law_numbers" := by decide +kernel
theorem c34_10 : Nc "_law_numbers" := by decide +kernel
theorem v34_12 : Vs (defScope (top 34)) "_law_firsts" := by decide +kernel
theorem d34_12 : Nd "_law_firsts" := by decide +kernel
theorem c34_12 : Nc "_law_firsts" := by decide +kernel
def csc34_2 : Scope := { kind := PySem.ScopeKind.function, names := [ (PySem.Str.ofString ".0", PySem.NameKind.local), (PySem.Str.ofString "_law_first", PySem.NameKind.local), (PySem.Str.ofString "_law_place_here", PySem.NameKind.local)], isGenerator := false, isCoroutine := false, more := [] : PySem.Scope }
theorem cok34_2 : CompOk csc34_2 (defScope (top 34)) (["_law_first", "_law_place_here"] : List Str) (["_law_script", "_law_at", "_law_ins", "_law_rows", "_law_held", "_law_outs", "_law_tables_here", "_law_kept_tables", "_law_found", "_law_net", "_law_numbers", "_law_words", "_law_firsts", "_law_kept", "_law_beat", "_law_fed", "_law_told_here", "_law_due"] : List Str) [] (["_law_first", "_law_place_here"] : List Str) := compOk rfl (by decide +kernel) (by decide +kernel) (by decide +kernel) (by decide +kernel) rfl (by decide +kernel)
theorem kq34_2_1 : (relab csc34_2 (defScope (top 34))).names.lookup (Str.ofString "_law_place_here") = some NameKind.local := by decide +kernel
theorem kq34_2_0 : (relab csc34_2 (defScope (top 34))).names.lookup (Str.ofString "_law_first") = some NameKind.local := by decide +kernel
theorem vq34_2_0 : Vs (relab csc34_2 (defScope (top 34))) "_law_first" := by decide +kernel
theorem dq34_2_0 : Nd "_law_first" := by decide +kernel
theorem cq34_2_0 : Nc "_law_first" := by decide +kernel
theorem v34_11 : Vs (defScope (top 34)) "_law_words" := by decide +kernel
theorem d34_11 : Nd "_law_words" := by decide +kernel
theorem c34_11 : Nc "_law_words" := by decide +kernel
theorem g34_all : Gi (defScope (top 34)) "all" := by decide +kernel
def csc34_3 : Scope := { kind := PySem.ScopeKind.function, names := [ (PySem.Str.ofString ".0", PySem.NameKind.local), (PySem.Str.ofString "_law_number", PySem.NameKind.local), (PySem.Str.ofString "len", PySem.NameKind.globalImplicit), (PySem.Str.ofString "_law_words", PySem.NameKind.free)], isGenerator := false, isCoroutine := false, more := [] : PySem.Scope }
theorem cok34_3 : CompOk csc34_3 (defScope (top 34)) (["_law_number"] : List Str) (["_law_script", "_law_at", "_law_ins", "_law_rows", "_law_held", "_law_outs", "_law_tables_here", "_law_kept_tables", "_law_found", "_law_net", "_law_numbers", "_law_words", "_law_firsts", "_law_kept", "_law_beat", "_law_fed", "_law_told_here", "_law_due"] : List Str) [11] (["_law_number", "_law_words"] : List Str) := compOk rfl (by decide +kernel) (by decide +kernel) (by decide +kernel) (by decide +kernel) rfl (by decide +kernel)
theorem kq34_3_0 : (relab csc34_3 (defScope (top 34))).names.lookup (Str.ofString "_law_number") = some NameKind.local := by decide +kernel
theorem vq34_3_0 : Vs (relab csc34_3 (defScope (top 34))) "_law_number" := by decide +kernel
theorem dq34_3_0 : Nd "_law_number" := by decide +kernel
theorem cq34_3_0 : Nc "_law_number" := by decide +kernel
theorem gq34_3_len : Gi (relab csc34_3 (defScope (top 34))) "len" := by decide +kernel
theorem vq34_3_1 : Vs (relab csc34_3 (defScope (top 34))) "_law_words" := by decide +kernel
theorem dq34_3_1 : Nd "_law_words" := by decide +kernel
theorem cq34_3_1 : Nc "_law_words" := by decide +kernel
theorem g34_list : Gi (defScope (top 34)) "list" := by decide +kernel
theorem l34_13 : Lc (defScope (top 34)) "_law_kept" := by decide +kernel
theorem g34_range : Gi (defScope (top 34)) "range" := by decide +kernel
theorem l34_14 : Lc (defScope (top 34)) "_law_beat" := by decide +kernel
theorem l34_15 : Lc (defScope (top 34)) "_law_fed" := by decide +kernel
theorem g34__law_bits : Gi (defScope (top 34)) "_law_bits" := by decide +kernel
theorem g34__law_beat_same : Gi (defScope (top 34)) "_law_beat_same" := by decide +kernel
theorem v34_13 : Vs (defScope (top 34)) "_law_kept" := by decide +kernel
theorem d34_13 : Nd "_law_kept" := by decide +kernel
theorem c34_13 : Nc "_law_kept" := by decide +kernel
theorem v34_15 : Vs (defScope (top 34)) "_law_fed" := by decide +kernel
theorem d34_15 : Nd "_law_fed" := by decide +kernel
theorem c34_15 : Nc "_law_fed" := by decide +kernel
theorem l34_16 : Lc (defScope (top 34)) "_law_told_here" := by decide +kernel
theorem g34__law_table_bits : Gi (defScope (top 34)) "_law_table_bits" := by decide +kernel
def csc34_4 : Scope := { kind := PySem.ScopeKind.function, names := [ (PySem.Str.ofString ".0", PySem.NameKind.local), (PySem.Str.ofString "_law_first", PySem.NameKind.local), (PySem.Str.ofString "_law_place_here", PySem.NameKind.local), (PySem.Str.ofString "_law_place_bit", PySem.NameKind.globalImplicit), (PySem.Str.ofString "_law_fed", PySem.NameKind.free), (PySem.Str.ofString "_law_kept", PySem.NameKind.free), (PySem.Str.ofString "_law_told_here", PySem.NameKind.free)], isGenerator := false, isCoroutine := false, more := [] : PySem.Scope }
theorem cok34_4 : CompOk csc34_4 (defScope (top 34)) (["_law_first", "_law_place_here"] : List Str) (["_law_script", "_law_at", "_law_ins", "_law_rows", "_law_held", "_law_outs", "_law_tables_here", "_law_kept_tables", "_law_found", "_law_net", "_law_numbers", "_law_words", "_law_firsts", "_law_kept", "_law_beat", "_law_fed", "_law_told_here", "_law_due"] : List Str) [15, 13, 16] (["_law_first", "_law_place_here", "_law_fed", "_law_kept", "_law_told_here"] : List Str) := compOk rfl (by decide +kernel) (by decide +kernel) (by decide +kernel) (by decide +kernel) rfl (by decide +kernel)
theorem kq34_4_1 : (relab csc34_4 (defScope (top 34))).names.lookup (Str.ofString "_law_place_here") = some NameKind.local := by decide +kernel
theorem kq34_4_0 : (relab csc34_4 (defScope (top 34))).names.lookup (Str.ofString "_law_first") = some NameKind.local := by decide +kernel
theorem gq34_4__law_place_bit : Gi (relab csc34_4 (defScope (top 34))) "_law_place_bit" := by decide +kernel
theorem vq34_4_4 : Vs (relab csc34_4 (defScope (top 34))) "_law_told_here" := by decide +kernel
theorem dq34_4_4 : Nd "_law_told_here" := by decide +kernel
theorem cq34_4_4 : Nc "_law_told_here" := by decide +kernel
theorem vq34_4_3 : Vs (relab csc34_4 (defScope (top 34))) "_law_kept" := by decide +kernel
theorem dq34_4_3 : Nd "_law_kept" := by decide +kernel
theorem cq34_4_3 : Nc "_law_kept" := by decide +kernel
theorem vq34_4_2 : Vs (relab csc34_4 (defScope (top 34))) "_law_fed" := by decide +kernel
theorem dq34_4_2 : Nd "_law_fed" := by decide +kernel
theorem cq34_4_2 : Nc "_law_fed" := by decide +kernel
theorem vq34_4_1 : Vs (relab csc34_4 (defScope (top 34))) "_law_place_here" := by decide +kernel
theorem dq34_4_1 : Nd "_law_place_here" := by decide +kernel
theorem cq34_4_1 : Nc "_law_place_here" := by decide +kernel
theorem l34_17 : Lc (defScope (top 34)) "_law_due" := by decide +kernel
theorem v34_7 : Vs (defScope (top 34)) "_law_kept_tables" := by decide +kernel
theorem d34_7 : Nd "_law_kept_tables" := by decide +kernel
theorem c34_7 : Nc "_law_kept_tables" := by decide +kernel
theorem g34__law_same : Gi (defScope (top 34)) "_law_same" := by decide +kernel
theorem v34_17 : Vs (defScope (top 34)) "_law_due" := by decide +kernel
theorem d34_17 : Nd "_law_due" := by decide +kernel
theorem c34_17 : Nc "_law_due" := by decide +kernel
def spLaw (K : PySem.W.Frag) : Sp := fun vs H Q _ => ∃ (a : Addr) (ns : List Int), vs = [.ref a] ∧ Scr K H a ns ∧ ∀ H', Q (.bl true) H'
theorem scLaw : FnScope ["_law_script", "_law_at", "_law_ins", "_law_rows", "_law_held", "_law_outs", "_law_tables_here", "_law_kept_tables", "_law_found", "_law_net", "_law_numbers", "_law_words", "_law_firsts", "_law_kept", "_law_beat", "_law_fed", "_law_told_here", "_law_due"] ["_law_script"] (defScope (top 34)) := ⟨rfl, rfl, rfl, by decide +kernel, rfl, by decide +kernel, by decide +kernel⟩
theorem ok_law {CT CN : Addr} (F : Fun K "law" "law" (top 34) f fd) (clT : Cls K CT) (tI : NoAttr K CT "ins") (tT : NoAttr K CT "tables") (tK : NoAttr K CT "keeps") (tO : NoAttr K CT "outs") (clN : Cls K CN) (nG : NoAttr K CN "gates")
    (xcl : PySem.W.findIn K (.ref CN) "__class__" = some (some (.builtin "object.__class__"))) (xsg : PySem.W.specialIn K (.builtin "object.__class__") "__get__" = some (some (.builtin "getset_descriptor.__get__"))) (xtk : PySem.W.takesIn K (.builtin "object.__class__") = some true) (xmo : PySem.W.mroIn K CN (.type "object") = some true) (wN : PySem.W.kitOne K (.ref CN) (.ref CN) = some true) (m_Net : mg "Net" = some (.ref CN))
    (D_law_tables : DefOk P w K mg base CX0 (k + 1) "_law_tables" ["_law_script", "_law_at"] (spDT K)) (D_law_bits : DefOk P w K mg base CX0 (k + 1) "_law_bits" ["_law_script", "_law_at", "_law_many"] (spLBits K)) (D_law_same : DefOk P w K mg base CX0 (k + 1) "_law_same" ["_law_found", "_law_due"] (spSame 1))
    (Dopened_net : DefOk P w K mg base CX0 (k + 1) "opened_net" ["tables"] (spON CT CN)) (D_law_beat_same : DefOk P w K mg base CX0 (k + 1) "_law_beat_same" ["_law_net", "_law_numbers", "_law_tables_here", "_law_fed", "_law_kept"] (spBS CT CN)) (D_law_table_bits : DefOk P w K mg base CX0 (k + 1) "_law_table_bits" ["_law_tables_here", "_law_fed", "_law_kept"] spTBt) (D_law_place_bit : DefOk P w K mg base CX0 (k + 1) "_law_place_bit" ["_law_place_here", "_law_fed", "_law_kept", "_law_told_here"] spPB)
    (MkTables : MakeOk P w K mg base CX0 k CT "Tables" ["self", "ins", "tables", "keeps", "outs"] (spTabs CT)) (z_range : mg "range" = none) (z_list : mg "list" = none) (z_tuple : mg "tuple" = none) (z_len : mg "len" = none) (z_all : mg "all" = none) (z_isinstance : mg "isinstance" = none) :
    FnOk P w K mg base CX0 (k + 2) f fd ["_law_script"] (spLaw K) := by
  have nd := scLaw.nd
  refine F.ok scLaw (fun vs H Q E h => by obtain ⟨a, ns, rfl, _⟩ := h; rfl) (fun cdv A outer s H vs Q E hr h => ?_)
  obtain ⟨a, ns, rfl, hS, q⟩ := h
  have hrm := hr
  refine ⟨_, (Pr.h (qpss_cons (qps_set (i := 1) nd rfl l34_1 (qpe_lst (qpa_cons qpe_int qpa_nil se_Constant)))
 (qpss_cons (qps_asg (qpe_callD D_law_tables hr g34__law_tables pass0 (qpa_cons (qpe_var (i := 0) rfl v34_0 d34_0 c34_0) (qpa_cons (qpe_var (i := 1) rfl v34_1 d34_1 c34_1) qpa_nil se_Name) se_Name) gd__law_tables) (qpg_tup rfl (qpgs_cons (qpg_name (i := 2) nd rfl l34_2) (qpgs_cons (qpg_name (i := 3) nd rfl l34_3) (qpgs_cons (qpg_name (i := 4) nd rfl l34_4) (qpgs_cons (qpg_name (i := 5) nd rfl l34_5) qpgs_nil))))))
 (qpss_cons (qps_set (i := 6) nd rfl l34_6 (qpe_makeD MkTables hrm g34_Tables pass0 (qpa_cons (qpe_var (i := 2) rfl v34_2 d34_2 c34_2) (qpa_cons (qpe_var (i := 3) rfl v34_3 d34_3 c34_3) (qpa_cons (qpe_var (i := 4) rfl v34_4 d34_4 c34_4) (qpa_cons (qpe_var (i := 5) rfl v34_5 d34_5 c34_5) qpa_nil se_Name) se_Name) se_Name) se_Name) gd_Tables))
 (qpss_cons (qps_set (i := 7) nd rfl l34_7 (qpe_tup (qpa_cons (qpe_fld (qpe_var (i := 6) rfl v34_6 d34_6 c34_6) rfl) (qpa_cons (qpe_fld (qpe_var (i := 6) rfl v34_6 d34_6 c34_6) rfl) (qpa_cons (qpe_fld (qpe_var (i := 6) rfl v34_6 d34_6 c34_6) rfl) (qpa_cons (qpe_fld (qpe_var (i := 6) rfl v34_6 d34_6 c34_6) rfl) qpa_nil se_Attribute) se_Attribute) se_Attribute) se_Attribute)))
 (qpss_cons (qps_set (i := 8) nd rfl l34_8 (qpe_callD Dopened_net hr g34_opened_net pass0 (qpa_cons (qpe_var (i := 6) rfl v34_6 d34_6 c34_6) qpa_nil se_Name) gd_opened_net))
 (qpss_cons (qps_if (qPW_pt (qpw_or (qpt_not (qpt_val (qpe_callB call_isT g34_isinstance z_isinstance bo_isinstance (qpa_cons (qpe_var (i := 8) rfl v34_8 d34_8 c34_8) (qpa_cons (qpe_bltn (v := .ty "tuple") g34_tuple z_tuple bo_tuple rfl nn_tuple gd_tuple) qpa_nil)) nn_isinstance gd_isinstance))) (qpw_or (qpt_cmpR op_ne (qpe_callB call_len_seq g34_len z_len PySem.boot_len (qpa_cons (qpe_var (i := 8) rfl v34_8 d34_8 c34_8) qpa_nil se_Name) nn_len gd_len) qpe_int (nomark _)) (qpw_or1 (qpt_not (qpt_val (qpe_callB call_isC g34_isinstance z_isinstance bo_isinstance (qpa_cons (qpe_ix ixa_tup (qpe_var (i := 8) rfl v34_8 d34_8 c34_8) qpe_int (fun _ _ => rfl)) (qpa_cons (qpe_glob (v := .ref _) g34_Net m_Net rfl gd_Net) qpa_nil)) nn_isinstance gd_isinstance)))))))
  (qpss_one (qps_ret qpe_bl))
  qpss_nil)
 (qpss_cons (qps_asg (qpe_var (i := 8) rfl v34_8 d34_8 c34_8) (qpg_tup rfl (qpgs_cons (qpg_name (i := 9) nd rfl l34_9) (qpgs_cons (qpg_name (i := 10) nd rfl l34_10) qpgs_nil))))
 (qpss_cons (qps_set (i := 11) nd rfl l34_11 (qpe_comp rfl cok34_0 (qpi_tup (qpe_fld (qpe_var (i := 9) rfl v34_9 d34_9 c34_9) rfl)) (fun _ _ _ _ _ => (qpg_name (i := 0) cok34_0.nd rfl (Or.inl kq34_0_0) (Or.inr kq34_0_0))) (fun _ _ _ _ _ => qpif_nil) (fun _ _ _ _ _ => (qpe_ix (ixaK_tup K rfl) (qpe_var (i := 0) rfl vq34_0_0 dq34_0_0 cq34_0_0) qpe_int (fun _ _ => rfl)))))
 (qpss_cons (qps_setC (i := 12) nd rfl l34_12 rfl cok34_1 (qpi_tup (qpe_fld (qpe_var (i := 9) rfl v34_9 d34_9 c34_9) rfl)) (fun _ _ _ _ _ => (qpg_name (i := 0) cok34_1.nd rfl (Or.inl kq34_1_0) (Or.inr kq34_1_0))) (fun _ _ _ _ _ => (qpif_one (qpt_cmpR op_eq (qpe_ix (ixaK_tup K rfl) (qpe_var (i := 0) rfl vq34_1_0 dq34_1_0 cq34_1_0) qpe_int (fun _ _ => rfl)) qpe_str (nomark _)))) (fun _ _ _ _ _ => (qpe_ix (ixaK_tup K rfl) (qpe_var (i := 0) rfl vq34_1_0 dq34_1_0 cq34_1_0) qpe_int (fun _ _ => rfl))) rfl)
 (qpss_cons (qps_if (qPW_pt (qpw_or (qpt_cmpR op_ne (qpe_bm PySem.F.plainAttrs_list PySem.F.slot_list_count PySem.F.type_list_count mt_count (qpe_var (i := 11) rfl v34_11 d34_11 c34_11) (qpa_cons qpe_str qpa_nil se_Constant)) (qpe_var (i := 2) rfl v34_2 d34_2 c34_2) (nomark _)) (qpw_or (qpt_cmpR (op_neS hr.units) (qpe_var (i := 12) rfl v34_12 d34_12 c34_12) (qpe_comp rfl cok34_2 (qpi_list (qpe_var (i := 4) rfl v34_4 d34_4 c34_4)) (fun _ _ _ _ _ => (qpg_tupK K 2 rfl rfl (qpgs_cons (qpg_name (i := 0) cok34_2.nd rfl (Or.inl kq34_2_0) (Or.inr kq34_2_0)) (qpgs_cons (qpg_name (i := 1) cok34_2.nd rfl (Or.inl kq34_2_1) (Or.inr kq34_2_1)) qpgs_nil)))) (fun _ _ _ _ _ => qpif_nil) (fun _ _ _ _ _ => (qpe_var (i := 0) rfl vq34_2_0 dq34_2_0 cq34_2_0))) (nomark _)) (qpw_or1 (qpt_cmpR op_ne (qpe_callB call_len_seq g34_len z_len PySem.boot_len (qpa_cons (qpe_var (i := 10) rfl v34_10 d34_10 c34_10) qpa_nil se_Name) nn_len gd_len) (qpe_callB call_len_seq g34_len z_len PySem.boot_len (qpa_cons (qpe_var (i := 3) rfl v34_3 d34_3 c34_3) qpa_nil se_Name) nn_len gd_len) (nomark _))))))
  (qpss_one (qps_ret qpe_bl))
  qpss_nil)
 (qpss_cons (qps_if (qPW_pt (qpw_or (qpt_not (qpt_val (qpe_callB call_isT g34_isinstance z_isinstance bo_isinstance (qpa_cons (qpe_var (i := 10) rfl v34_10 d34_10 c34_10) (qpa_cons (qpe_bltn (v := .ty "list") g34_list z_list bo_list rfl nn_list gd_list) qpa_nil)) nn_isinstance gd_isinstance))) (qpw_or1 (qpt_not (qpt_val (qpe_callB (call_all rfl) g34_all z_all bo_all (qpa_cons (qpe_comp rfl cok34_3 (qpi_list (qpe_var (i := 10) rfl v34_10 d34_10 c34_10)) (fun _ _ _ _ _ => (qpg_name (i := 0) cok34_3.nd rfl (Or.inl kq34_3_0) (Or.inr kq34_3_0))) (fun _ _ _ _ _ => qpif_nil) (fun _ _ _ _ _ => (qpe_chain op_le op_lt qpe_int (qpe_var (i := 0) rfl vq34_3_0 dq34_3_0 cq34_3_0) (qpe_callB (callK_len_seq K rfl) gq34_3_len z_len PySem.boot_len (qpa_cons (qpe_var (i := 1) rfl vq34_3_1 dq34_3_1 cq34_3_1) qpa_nil se_Name) nn_len gd_len)))) qpa_nil se_ListComp) nn_all gd_all))))))
  (qpss_one (qps_ret qpe_bl))
  qpss_nil)
 (qpss_cons (qps_set (i := 13) nd rfl l34_13 (qpe_callTy call_list_of g34_list z_list bo_list (qpa_cons (qpe_var (i := 12) rfl v34_12 d34_12 c34_12) qpa_nil se_Name) nn_list gd_list))
 (qpss_cons (qps_loop PassesOwn.never rfl (qpi_range1 g34_range z_range (qpa_cons qpe_int qpa_nil se_Constant)) (qpg_name (i := 14) nd rfl l34_14)
  (qpss_cons (qps_set (i := 15) nd rfl l34_15 (qpe_callD D_law_bits hr g34__law_bits pass0 (qpa_cons (qpe_var (i := 0) rfl v34_0 d34_0 c34_0) (qpa_cons (qpe_var (i := 1) rfl v34_1 d34_1 c34_1) (qpa_cons (qpe_var (i := 2) rfl v34_2 d34_2 c34_2) qpa_nil se_Name) se_Name) se_Name) gd__law_bits))
 (qpss_cons (qps_if (qpt_not (qpt_val (qpe_callD D_law_beat_same hr g34__law_beat_same pass0 (qpa_cons (qpe_var (i := 9) rfl v34_9 d34_9 c34_9) (qpa_cons (qpe_var (i := 10) rfl v34_10 d34_10 c34_10) (qpa_cons (qpe_var (i := 6) rfl v34_6 d34_6 c34_6) (qpa_cons (qpe_var (i := 15) rfl v34_15 d34_15 c34_15) (qpa_cons (qpe_var (i := 13) rfl v34_13 d34_13 c34_13) qpa_nil se_Name) se_Name) se_Name) se_Name) se_Name) gd__law_beat_same)))
  (qpss_one (qps_ret qpe_bl))
  qpss_nil)
 (qpss_cons (qps_set (i := 16) nd rfl l34_16 (qpe_callD D_law_table_bits hr g34__law_table_bits pass0 (qpa_cons (qpe_fld (qpe_var (i := 6) rfl v34_6 d34_6 c34_6) rfl) (qpa_cons (qpe_var (i := 15) rfl v34_15 d34_15 c34_15) (qpa_cons (qpe_var (i := 13) rfl v34_13 d34_13 c34_13) qpa_nil se_Name) se_Name) se_Attribute) gd__law_table_bits))
 (qpss_one (qps_set (i := 13) nd rfl l34_13 (qpe_comp rfl cok34_4 (qpi_tup (qpe_fld (qpe_var (i := 6) rfl v34_6 d34_6 c34_6) rfl)) (fun _ _ _ _ _ => (qpg_tupK K 2 rfl rfl (qpgs_cons (qpg_name (i := 0) cok34_4.nd rfl (Or.inl kq34_4_0) (Or.inr kq34_4_0)) (qpgs_cons (qpg_name (i := 1) cok34_4.nd rfl (Or.inl kq34_4_1) (Or.inr kq34_4_1)) qpgs_nil)))) (fun _ _ _ _ _ => qpif_nil) (fun _ _ _ _ _ => (qpe_callD D_law_place_bit hr gq34_4__law_place_bit pass0 (qpa_cons (qpe_var (i := 1) rfl vq34_4_1 dq34_4_1 cq34_4_1) (qpa_cons (qpe_var (i := 2) rfl vq34_4_2 dq34_4_2 cq34_4_2) (qpa_cons (qpe_var (i := 3) rfl vq34_4_3 dq34_4_3 cq34_4_3) (qpa_cons (qpe_var (i := 4) rfl vq34_4_4 dq34_4_4 cq34_4_4) qpa_nil se_Name) se_Name) se_Name) se_Name) gd__law_place_bit)))))))))
 (qpss_cons (qps_set (i := 17) nd rfl l34_17 (qpe_callTy call_list_of g34_list z_list bo_list (qpa_cons (qpe_var (i := 10) rfl v34_10 d34_10 c34_10) qpa_nil se_Name) nn_list gd_list))
 (qpss_cons (qps_expr (qpe_bm PySem.F.plainAttrs_list PySem.F.slot_list_append PySem.F.type_list_append mt_append (qpe_var (i := 10) rfl v34_10 d34_10 c34_10) (qpa_cons qpe_non qpa_nil se_Constant)))
 (qpss_cons (qps_if (qpt_cmpR (op_neD hr.units) (qpe_var (i := 7) rfl v34_7 d34_7 c34_7) (qpe_tup (qpa_cons (qpe_fld (qpe_var (i := 6) rfl v34_6 d34_6 c34_6) rfl) (qpa_cons (qpe_fld (qpe_var (i := 6) rfl v34_6 d34_6 c34_6) rfl) (qpa_cons (qpe_fld (qpe_var (i := 6) rfl v34_6 d34_6 c34_6) rfl) (qpa_cons (qpe_fld (qpe_var (i := 6) rfl v34_6 d34_6 c34_6) rfl) qpa_nil se_Attribute) se_Attribute) se_Attribute) se_Attribute)) (nomark _))
  (qpss_one (qps_ret qpe_bl))
  qpss_nil)
 (qpss_one (qps_ret (qpe_callD D_law_same hr g34__law_same pass0 (qpa_cons (qpe_ix ixa_tup (qpe_callD Dopened_net hr g34_opened_net pass0 (qpa_cons (qpe_var (i := 6) rfl v34_6 d34_6 c34_6) qpa_nil se_Name) gd_opened_net) qpe_int (fun _ _ => rfl)) (qpa_cons (qpe_var (i := 17) rfl v34_17 d34_17 c34_17) qpa_nil se_Name) se_Subscript) gd__law_same)))))))))))))))))))), ?_⟩
  (try dsimp only [cxOf])
  walk_at "rd"
  rename_i b hb R tl kl ol ins ts ks os H1 dt hR1 x1 dx1 hx1 hdx1 nx1
  obtain ⟨⟨c1, d1, cl, ch⟩, dr1, ok⟩ := dt
  have i1 := Ch.inst (C := CT) hx1 hdx1 nx1
  refine ⟨dr1.ch i1, ok, fun tt kt ot H3 c3 tab3 => ⟨rfl, ?_⟩⟩
  have y2 : (upd (upd H1 dx1 (HO.own x1)) x1 (HO.ins CT dx1 [])) x1 = some (.ins CT dx1 []) := upd_same
  have dr3 := (dr1.ch i1).kl (Kl.ob c3 y2)
  have hS3 := scr_chg (d1.hS.same i1) y2 (by intro _ _ z; cases z) c3
  have hb3 : H3 b = some (.lst [.int c1]) := (Kl.ob (ex := []) c3 y2).l _ _ (by simp) (i1.get d1.hb (by simp))
  clear i1 c3 y2 dr1 d1 hR1 hx1 hdx1 nx1
  obtain ⟨dx3, hx3⟩ := tab3.ob
  have f1 := @ft_i ins tt kt ot
  have f2 := @ft_t ins tt kt ot
  have f3 := @ft_k ins tt kt ot
  have f4 := @ft_o ins tt kt ot
  walk_at "rd"
  rename_i KT hKT
  have cK : Ch [] H3 (upd H3 KT (.tup [.int (ins : Int), .ref tt, .ref kt, .ref ot])) := Ch.new hKT _
  refine ⟨tab3.same cK, ok, fun R2 nt nl gp op gs xs H4 c4 fnl nf na hR2 hnl => ?_⟩
  have c34 := cK.trans c4
  have hKT4 : H4 KT = some (.tup [.int (ins : Int), .ref tt, .ref kt, .ref ot]) := c4.get upd_same (by simp)
  have tab4 := tab3.same c34
  have dr4 := dr3.ch c34
  have hS4 := hS3.same c34
  have hb4 := c34.get hb3 (by simp)
  have nnb : nl ≠ b := (ne_of_none (cK.get hb3 (by simp)) fnl).symm
  have ln := (on_all ok.t ts.length (Nat.le_refl _)).l
  generalize eN : (opN ins ks ts ts.length).2 = nums at *
  clear cK c4 hKT tab3 dr3 hS3 hb3 hx3
  obtain ⟨dn, hnt⟩ := na.ob
  have tyN : TyOf K H4 (.ref nt) (.ref CN) := .ins hnt clN xcl xsg xtk xmo
  have fg := fldsNet_gates gp op
  have hg4 := na.gt
  have gg4 := na.gg
  have lx := gg4.len
  have gl := nf.ln
  walk_at "rd"
  refine comp_tup xs (fun j ys σ H' => H' = H4 ∧ ys = ((gs.take j).map Gt.wd).map V.str ∧ ∃ u, σ = [u]) (by rw [sizeLine_eq]; omega) ⟨rfl, rfl, _, rfl⟩ ?_ ?_ ?_
  · rintro j ys σ H' hj ⟨rfl, rfl, _⟩
    exact ⟨by simp; omega, SqT.of hg4⟩
  · rintro j ys σ H' z hz ⟨rfl, rfl, u, rfl⟩
    have hj : j < gs.length := by rw [← lx]; exact (List.getElem?_eq_some_iff.mp hz).1
    obtain ⟨g, hgi⟩ : ∃ g, gs[j]? = some g := ⟨_, List.getElem?_eq_getElem hj⟩
    obtain ⟨p, ep, hp⟩ := gg4.at_ j g hgi
    rw [hz] at ep
    cases ep
    obtain ⟨rs, ev⟩ := gt_hd g
    rw [ev] at hp
    walk_at "rd"
    refine ⟨?_, _, rfl⟩
    rw [List.take_add_one, hgi]; simp
  rintro ys σ H5 ⟨rfl, rfl, _⟩
  rw [lx, List.take_length]
  intro wl hwl
  have c6 : Ch [] H5 (upd H5 wl (.lst ((gs.map Gt.wd).map V.str))) := Ch.new hwl _
  have g6 : (upd H5 wl (.lst ((gs.map Gt.wd).map V.str))) wl = some (.lst ((gs.map Gt.wd).map V.str)) := upd_same
  generalize upd H5 wl (.lst ((gs.map Gt.wd).map V.str)) = H6 at c6 g6 ⊢
  have hnt6 : H6 nt = some (.ins CN dn (fldsNet gp op)) := c6.get hnt (by simp)
  have hg6 := c6.get hg4 (by simp)
  have gg6 := gg4.tu (Tu.same c6)
  walk_at "rd"
  refine comp_tup xs (fun j ys σ H' => H' = H6 ∧ ys = ((gs.take j).filterMap kff).map bV ∧ ∃ u, σ = [u]) (by rw [sizeLine_eq]; omega) ⟨rfl, rfl, _, rfl⟩ ?_ ?_ ?_
  · rintro j ys σ H' hj ⟨rfl, rfl, _⟩
    refine ⟨?_, SqT.of hg6⟩
    rw [List.length_map]
    exact Nat.le_trans (List.length_filterMap_le _ _) (by rw [List.length_take]; omega)
  · rintro j ys σ H' z hz ⟨rfl, rfl, u, rfl⟩
    have hj : j < gs.length := by rw [← lx]; exact (List.getElem?_eq_some_iff.mp hz).1
    obtain ⟨g, hgi⟩ : ∃ g, gs[j]? = some g := ⟨_, List.getElem?_eq_getElem hj⟩
    obtain ⟨p, ep, hp⟩ := gg6.at_ j g hgi
    rw [hz] at ep
    cases ep
    have tk : (gs.take (j + 1)).filterMap kff = (gs.take j).filterMap kff ++ [g].filterMap kff := by rw [List.take_add_one, hgi, List.filterMap_append]; rfl
    rw [tk]
    cases g with
    | keep ff a =>
      have hp : H' p = some (.tup [.str "keep", .int (bi ff), .int (a : Int)]) := hp
      walk_at "rd"
      refine ⟨?_, _, rfl⟩
      simp [kff, bV]
    | inp =>
      have hp : H' p = some (.tup [.str "in"]) := hp
      walk_at "rd"
      exact ⟨by simp [kff], _, rfl⟩
    | zero =>
      have hp : H' p = some (.tup [.str "zero"]) := hp
      walk_at "rd"
      exact ⟨by simp [kff], _, rfl⟩
    | one =>
      have hp : H' p = some (.tup [.str "one"]) := hp
      walk_at "rd"
      exact ⟨by simp [kff], _, rfl⟩
    | pick a b c =>
      have hp : H' p = some (.tup [.str "pick", .int (a : Int), .int (b : Int), .int (c : Int)]) := hp
      walk_at "rd"
      exact ⟨by simp [kff], _, rfl⟩
  obtain ⟨ekf, eki⟩ := kff_all nf
  rintro ys σ H7 ⟨rfl, rfl, _⟩
  rw [lx, List.take_length, ekf]
  intro fs hfs
  have c8 : Ch [] H7 (upd H7 fs (.lst ((ks.map Kp.f).map bV))) := Ch.new hfs _
  have g8 : (upd H7 fs (.lst ((ks.map Kp.f).map bV))) fs = some (.lst ((ks.map Kp.f).map bV)) := upd_same
  generalize upd H7 fs (.lst ((ks.map Kp.f).map bV)) = H8 at c8 g8 ⊢
  have c48 := c6.trans c8
  have g68 := c8.get g6 (by simp)
  have hn8 := c48.get hnl (by simp)
  have dr8 := dr4.ch c48
  obtain ⟨ntl, tps, gtl, ttl⟩ := dr8.t
  obtain ⟨nkl, kps, gkl, kkl⟩ := dr8.k
  have ltp := Paired.length ttl
  have lkp := Paired.length kkl
  have k12 := ok.lk
  have t12 := ok.lt
  have i12 := ok.li
  have o12 := ok.lo
  have ecn : PySem.Spec.countIn (.str "in") ((gs.map Gt.wd).map PyData.str) = (ins : Int) := by rw [cnt_in, eki]
  clear c6 c8 g6 hnt6 hg6 gg6
  walk_at "rd"
  refine iteNn (by rw [ecn]) ?_
  walk_at "rd"
  refine comp_list (kps.map V.ref) (fun j ys σ H' => H' = H8 ∧ ys = ((ks.take j).map Kp.f).map bV ∧ ∃ u v, σ = [u, v]) (by rw [sizeLine_eq, List.length_map]; omega) ⟨rfl, rfl, _, _, rfl⟩ ?_ ?_ ?_
  · rintro j ys σ H' hj ⟨rfl, rfl, _⟩
    exact ⟨by simp; omega, SqL.of gkl⟩
  · rintro j ys σ H' z hz ⟨rfl, rfl, u, v, rfl⟩
    obtain ⟨p, x, rfl, ex, ⟨pp, hp, _⟩⟩ := paired_get kkl j z hz
    walk_at "rd"
    refine ⟨?_, _, _, rfl⟩
    rw [List.take_add_one, ex]; simp
  rintro ys σ H9 ⟨rfl, rfl, _⟩
  rw [List.length_map, ← lkp, List.take_length]
  intro D9 hD9
  have sc9 := sca_bs (ks.map Kp.f)
  refine ⟨fs, D9, _, _, rfl, rfl, g_new hD9 g8, upd_same, sc9, sc9, ?_⟩
  have c10 : Ch [] H9 (upd H9 D9 (.lst ((ks.map Kp.f).map bV))) := Ch.new hD9 _
  generalize upd H9 D9 (.lst ((ks.map Kp.f).map bV)) = H10 at c10 ⊢
  have hn10 := c10.get hn8 (by simp)
  have gtl10 := c10.get gtl (by simp)
  have g610 := c10.get g68 (by simp)
  have el : (nums.map nV).length = (tps.map V.ref).length := by rw [List.length_map, List.length_map, ln, ltp]
  have numlt : ∀ n ∈ nums, n < gs.length := fun n hn => by
    obtain ⟨j, hj⟩ := List.getElem?_of_mem hn
    have h1 := (List.getElem?_eq_some_iff.mp hj).1
    have := (nf.v (.t, j) (by show j < ts.length; omega)).1
    have e1 : gn ins nums (.t, j) = n := by
      show nums.getD j 0 = _
      rw [List.getD_eq_getElem?_getD, hj]; rfl
    rw [e1] at this
    exact this
  walk_at "rd"
  refine iteNn rfl ?_
  walk_at "rd"
  refine iteNn (by rw [el]) ?_
  walk_at "rd"
  refine comp_list (nums.map nV) (fun j ys σ H' => H' = H10 ∧ ys = List.replicate j (V.bl true) ∧ ∃ u, σ = [u, some (.ref wl)]) (by rw [sizeLine_eq, List.length_map]; omega) ⟨rfl, rfl, _, rfl⟩ ?_ ?_ ?_
  · rintro j ys σ H' hj ⟨rfl, rfl, _⟩
    exact ⟨by simp, SqL.of hn10⟩
  · rintro j ys σ H' z hz ⟨rfl, rfl, u, rfl⟩
    rw [List.getElem?_map] at hz
    obtain ⟨n, hn', rfl⟩ := Option.map_eq_some_iff.mp hz
    have hlt := numlt n (List.mem_of_getElem? hn')
    have hlt' : (n : Int) < (((gs.map Gt.wd).map V.str).length : Int) := by rw [List.length_map, List.length_map]; omega
    unfold nV
    walk_at "rd"
    refine ⟨?_, _, rfl⟩
    dsimp only
    rw [decide_eq_true hlt', ← List.replicate_succ']
  rintro ys σ H11 ⟨rfl, rfl, _⟩
  intro D11 hD11
  refine ⟨D11, List.replicate (nums.map nV).length true, rfl, by rw [upd_same, List.map_replicate], ?_⟩
  rw [show (List.replicate (nums.map nV).length true).all id = true from by simp [List.all_replicate]]
  have c12 : Ch [] H11 (upd H11 D11 (.lst (List.replicate (nums.map nV).length (V.bl true)))) := Ch.new hD11 _
  generalize upd H11 D11 (.lst (List.replicate (nums.map nV).length (V.bl true))) = H12 at c12 ⊢
  have c412 := (c48.trans c10).trans c12
  have g812 := c12.get (c10.get g8 (by simp)) (by simp)
  walk_at "rd"
  rename_i kw hkw
  have nkw : kw ≠ b := (ne_of_none (c412.get hb4 (by simp)) hkw).symm
  have c413 := c412.trans (Ch.new hkw (HO.lst ((ks.map Kp.f).map bV)))
  have lw0 : LW K ⟨CT, CN, a, b, ns, x1, nt, nl, gp, op, tt, kt, ot, KT, ins, ts, ks, os, gs, xs, nums⟩ kw (upd H12 kw (.lst ((ks.map Kp.f).map bV))) (ks.map Kp.f) c1 :=
    ⟨tab4.same c413, ⟨na.ob.imp fun _ h => c413.get h (by simp), c413.get na.gt (by simp), na.gg.tu (Tu.same c413), c413.get na.ot (by simp)⟩, c413.get hnl (by simp), c413.get hKT4 (by simp), upd_same, by simp, hS4.same c413, c413.get hb4 (by simp), nkw, nnb⟩
  clear c413 c412 c12 g812 hkw c10 c48 hn10 gtl10 g610 hn8 g8 g68 dr8 gtl ttl gkl kkl tab4 na hS4 hb4 hnl hKT4 dr4 gg4 hg4 hnt tyN hR2 hD11 hD9 hfs hwl c34 fnl
  refine loop_range (fun i σ H' => ∃ kw kn c u14 u15 u16, σ = [some (.ref a), some (.ref b), some (.int (ins : Int)), some (.ref tl), some (.ref kl), some (.ref ol), some (.ref x1), some (.ref KT), some (.ref R2), some (.ref nt), some (.ref nl), some (.ref wl), some (.ref fs), some (.ref kw), u14, u15, u16, none] ∧ LW K ⟨CT, CN, a, b, ns, x1, nt, nl, gp, op, tt, kt, ot, KT, ins, ts, ks, os, gs, xs, nums⟩ kw H' kn c ∧ CBd c i) ⟨kw, _, _, _, _, _, rfl, lw0, by omega, by omega⟩ ?_ ?_
  · clear lw0
    rintro i σ H' hi ⟨kw, kn, c, u14, u15, u16, rfl, lw, cb⟩
    have hi : i < 5 := hi
    have cb0 := cb.lo
    have cb1 := cb.hi
    have sc0 : Scr K H' a ns := lw.sc
    have hb0 : H' b = some (.lst [.int c]) := lw.hb
    walk_at "rd"
    rename_i r row c2 H13 c13 fr lr gr gb e1 e2
    have nrb : r ≠ b := (ne_of_none hb0 fr).symm
    have lw13 := lw.bump c13 gb
    have lkn : kn.length = ks.length := lw13.lk
    have bsp : BSp CT CN H13 x1 nt nl r kw gp op tt kt ot ins ts ks os gs xs nums row kn := ⟨lw13.ta, lw13.na, nf, ok, ln, lw13.hn, gr, lw13.hk, lr, lw13.lk⟩
    refine ⟨bsp, fun H14 c14 => ?_⟩
    have lw14 := lw13.same c14
    have gr14 := c14.get gr (by simp)
    clear lw c13 gb sc0 hb0 fr lw13 bsp c14 gr
    have okT : ∀ (i : Nat) (t : Tb), ts[i]? = some t → t.ok row.length kn.length i := by rw [lr, lkn]; exact ok.t
    obtain ⟨dx, hx0⟩ : ∃ dx, H14 x1 = some (.ins CT dx (fldsT ins tt kt ot)) := lw14.ta.ob
    have hh14 : H14 kw = some (.lst (kn.map bV)) := lw14.hk
    have tp14 := lw14.ta.tp
    walk_at "rd"
    refine ⟨tp14.t, gr14, hh14, okT, t12, fun tr H15 c15 _ gt => ?_⟩
    have lw15 := lw14.same c15
    have gr15 := c15.get gr14 (by simp)
    have hx15 : H15 x1 = some (.ins CT dx (fldsT ins tt kt ot)) := c15.get hx0 (by simp)
    have hh15 : H15 kw = some (.lst (kn.map bV)) := lw15.hk
    have ul : (upT ts row kn ts.length).length = ts.length := by simp [upT_len]
    generalize upT ts row kn ts.length = tab at *
    obtain ⟨qps, hk, kk⟩ := lw15.ta.tp.k
    have lq : ks.length = qps.length := Paired.length kk
    clear c15 lw14 gr14 hx0 hh14 tp14
    walk_at "rd"
    refine comp_tup (qps.map V.ref) (fun j ys σ H' => Ch [] H15 H' ∧ ys = ((ks.take j).map (fun k => hdv row kn tab k.pl)).map bV ∧ ∃ u v, σ = [u, v, some (.ref r), some (.ref kw), some (.ref tr)]) (by rw [sizeLine_eq, List.length_map]; omega) ⟨Ch.refl _ _, rfl, _, _, rfl⟩ ?_ ?_ ?_
    · rintro j ys σ H' hj ⟨c, rfl, _⟩
      exact ⟨by simp; omega, SqT.of (c.get hk (by simp))⟩
    · rintro j ys σ H' z hz ⟨c, rfl, u, v, rfl⟩
      obtain ⟨p, y, rfl, ey, y1⟩ := paired_get kk j z hz
      obtain ⟨pp, hp, hpp⟩ := y1.tu (Tu.same c)
      have ly : y.pl.2 < lim row.length kn.length tab.length y.pl.1 := by rw [lr, lkn, ul]; exact ok.k y (List.mem_of_getElem? ey)
      have hf5 := c.get gr15 (by simp)
      have hh5 := c.get hh15 (by simp)
      have gt5 := c.get gt (by simp)
      walk_at "rd"
      refine ⟨?_, _, _, rfl⟩
      rw [List.take_add_one, ey]; simp [bV]
    rintro ys σ H16 ⟨c16, rfl, _⟩
    rw [List.length_map, ← lq, List.take_length]
    intro D5 hD5
    have lw16 := lw15.same c16
    have nD : D5 ≠ b := (ne_of_none lw16.hb hD5).symm
    have lw17 := lw16.same (Ch.new hD5 (HO.lst ((ks.map (fun k => hdv row kn tab k.pl)).map bV)))
    refine ⟨D5, ks.map (fun k => hdv row kn tab k.pl), c2, _, _, _, rfl, ⟨lw17.ta, lw17.na, lw17.hn, lw17.hK, upd_same, by simp, lw17.sc, lw17.hb, nD, nnb⟩, by omega, by push_cast; omega⟩
  rintro σ H' ⟨kw, kn, c, u14, u15, u16, rfl, lw, cb⟩
  clear lw0
  obtain ⟨dx, hx0⟩ : ∃ dx, H' x1 = some (.ins CT dx (fldsT ins tt kt ot)) := lw.ta.ob
  have hn0 : H' nl = some (.lst (nums.map nV)) := lw.hn
  have hK0 : H' KT = some (.tup [.int (ins : Int), .ref tt, .ref kt, .ref ot]) := lw.hK
  have n12 : nums.length ≤ 12 := by omega
  walk_at "rd"
  rename_i l hl p hp
  have nln : l ≠ nl := (ne_of_none hn0 hl).symm
  have cl1 : Ch [nl] H' (upd H' l (.lst (nums.map nV))) := Ch.new hl _
  have cl2 : Ch [nl] (upd H' l (.lst (nums.map nV))) (upd (upd H' l (.lst (nums.map nV))) nl (.lst (nums.map nV ++ [V.non]))) := fun b' u q' n' => by rw [upd_ne (by simpa using n')]; exact q'
  have cl3 := (cl1.trans cl2).trans (Ch.new hp (HO.tup [V.int ↑ins, V.ref tt, V.ref kt, V.ref ot]))
  have gl2 : (upd (upd H' l (.lst (nums.map nV))) nl (.lst (nums.map nV ++ [V.non]))) l = some (.lst (nums.map nV)) := by rw [upd_ne nln]; exact upd_same
  have gl3 := (Ch.new (W := []) hp (HO.tup [V.int ↑ins, V.ref tt, V.ref kt, V.ref ot])).get gl2 (by simp)
  refine ⟨.cons (.inl ⟨rfl, .inl ⟨_, rfl⟩⟩) (.cons (.inl ⟨rfl, .inr ⟨_, rfl⟩⟩) (.cons (.inl ⟨rfl, .inr ⟨_, rfl⟩⟩) (.cons (.inl ⟨rfl, .inr ⟨_, rfl⟩⟩) .nil))), ?_⟩
  generalize upd (upd (upd H' l (.lst (nums.map nV))) nl (.lst (nums.map nV ++ [V.non]))) p (HO.tup [V.int ↑ins, V.ref tt, V.ref kt, V.ref ot]) = H4 at cl3 gl3 ⊢
  have ta4 : TlAt CT H4 x1 ins tt kt ot ts ks os := ⟨⟨dx, cl3.get hx0 (by simpa using ne_of hx0 hn0 (by intro z; cases z))⟩, lw.ta.tp.tu (Tu.lst cl3 hn0)⟩
  clear cl1 cl2 gl2 hl hp lw hK0 hx0
  walk_at "rd"
  rename_i R3 nt' nl' gp' op' gs' xs' H5' c5 fnl' nf' na' hR3 hnl'
  have em : nums.map nV = (nums.map (fun n : Nat => (n : Int))).map V.int := by rw [List.map_map]; rfl
  have hn5 := hnl'
  rw [eN, em] at hn5
  have gl5 := c5.get gl3 (by simp)
  rw [em] at gl5
  exact ⟨hn5, gl5, by rw [List.length_map]; omega, fun H6 _ => q _⟩
end
end

section
theorem ok_ogF {P : Program} {w : World} {K : PySem.W.Frag} {mg : Str → Option Value} {base : Heap} {f : Addr} {fd : FuncData} {k : Nat} (F : Fun K "opened_gate" "opened_gate" (top 16) f fd) : FnOk P w K mg base CX0 (k + 1) f fd ["rig", "leaves", "bits", "known"] spF :=
  F.ok scOG (fun vs H Q E h => h.elim) (fun cdv A outer s H vs Q E hr h => h.elim)
theorem og_le {C : Addr} {n : Nat} {vs : List V} {H : Hp} {Q : VK} {E : XK} (h : spOG C n vs H Q E) : n ≤ 4 := by
  obtain ⟨y, gl, cd, kd, ll, top, bits, s, kn, _, og, _⟩ := h
  exact Nat.le_trans og.hn og.n4
theorem og_all {P : Program} {w : World} {K : PySem.W.Frag} {mg : Str → Option Value} {base : Heap} {C f : Addr} {fd : FuncData} {k : Nat} (h : ∀ n, n ≤ 4 → FnOk P w K mg base CX0 k f fd ["rig", "leaves", "bits", "known"] (spOG C n)) :
    FnOk P w K mg base CX0 k f fd ["rig", "leaves", "bits", "known"] (fun vs H Q E => ∃ n, spOG C n vs H Q E) :=
  ⟨fun vs H Q E ⟨n, e⟩ => (h n (og_le e)).len vs H Q E e, fun A outer s H args us vs Q E hr he hb hv ⟨n, e⟩ => (h n (og_le e)).run A outer s H args us vs Q E hr he hb hv e⟩
theorem all_mk {l : PySem.W.OpenLaw} {w : World} {K : PySem.W.Frag} {h : Heap} {mg : Str → Option Value} {fa ff CT CN CR : Addr} {kvs : List (Key × V)} (X : K.In h) (G : h.Ns mainGlobals mg) (hfa : mg "law" = some (.ref fa))
    {f0 : Addr} {od0 an0 : Option Addr} {sl0 : Array (Option Value)} {oc0 kV0 dc0 pm0 cd0 ct0 : Value}
    {f1 : Addr} {od1 an1 : Option Addr} {sl1 : Array (Option Value)} {oc1 kV1 dc1 pm1 cd1 ct1 : Value}
    {f2 : Addr} {od2 an2 : Option Addr} {sl2 : Array (Option Value)} {oc2 kV2 dc2 pm2 cd2 ct2 : Value}
    {f3 : Addr} {od3 an3 : Option Addr} {sl3 : Array (Option Value)} {oc3 kV3 dc3 pm3 cd3 ct3 : Value}
    {f4 : Addr} {od4 an4 : Option Addr} {sl4 : Array (Option Value)} {oc4 kV4 dc4 pm4 cd4 ct4 : Value}
    {f5 : Addr} {od5 an5 : Option Addr} {sl5 : Array (Option Value)} {oc5 kV5 dc5 pm5 cd5 ct5 : Value}
    {f6 : Addr} {od6 an6 : Option Addr} {sl6 : Array (Option Value)} {oc6 kV6 dc6 pm6 cd6 ct6 : Value}
    {f7 : Addr} {od7 an7 : Option Addr} {sl7 : Array (Option Value)} {oc7 kV7 dc7 pm7 cd7 ct7 : Value}
    {f8 : Addr} {od8 an8 : Option Addr} {sl8 : Array (Option Value)} {oc8 kV8 dc8 pm8 cd8 ct8 : Value}
    {f9 : Addr} {od9 an9 : Option Addr} {sl9 : Array (Option Value)} {oc9 kV9 dc9 pm9 cd9 ct9 : Value}
    {f10 : Addr} {od10 an10 : Option Addr} {sl10 : Array (Option Value)} {oc10 kV10 dc10 pm10 cd10 ct10 : Value}
    {f11 : Addr} {od11 an11 : Option Addr} {sl11 : Array (Option Value)} {oc11 kV11 dc11 pm11 cd11 ct11 : Value}
    {f12 : Addr} {od12 an12 : Option Addr} {sl12 : Array (Option Value)} {oc12 kV12 dc12 pm12 cd12 ct12 : Value}
    {f13 : Addr} {od13 an13 : Option Addr} {sl13 : Array (Option Value)} {oc13 kV13 dc13 pm13 cd13 ct13 : Value}
    {f14 : Addr} {od14 an14 : Option Addr} {sl14 : Array (Option Value)} {oc14 kV14 dc14 pm14 cd14 ct14 : Value}
    {f15 : Addr} {od15 an15 : Option Addr} {sl15 : Array (Option Value)} {oc15 kV15 dc15 pm15 cd15 ct15 : Value}
    {f16 : Addr} {od16 an16 : Option Addr} {sl16 : Array (Option Value)} {oc16 kV16 dc16 pm16 cd16 ct16 : Value}
    {f17 : Addr} {od17 an17 : Option Addr} {sl17 : Array (Option Value)} {oc17 kV17 dc17 pm17 cd17 ct17 : Value}
    {f18 : Addr} {od18 an18 : Option Addr} {sl18 : Array (Option Value)} {oc18 kV18 dc18 pm18 cd18 ct18 : Value}
    {f19 : Addr} {od19 an19 : Option Addr} {sl19 : Array (Option Value)} {oc19 kV19 dc19 pm19 cd19 ct19 : Value}
    {f20 : Addr} {od20 an20 : Option Addr} {sl20 : Array (Option Value)} {oc20 kV20 dc20 pm20 cd20 ct20 : Value}
    {f21 : Addr} {od21 an21 : Option Addr} {sl21 : Array (Option Value)} {oc21 kV21 dc21 pm21 cd21 ct21 : Value}
    {f22 : Addr} {od22 an22 : Option Addr} {sl22 : Array (Option Value)} {oc22 kV22 dc22 pm22 cd22 ct22 : Value}
    {f23 : Addr} {od23 an23 : Option Addr} {sl23 : Array (Option Value)} {oc23 kV23 dc23 pm23 cd23 ct23 : Value}
    {f24 : Addr} {od24 an24 : Option Addr} {sl24 : Array (Option Value)} {oc24 kV24 dc24 pm24 cd24 ct24 : Value}
    {f25 : Addr} {od25 an25 : Option Addr} {sl25 : Array (Option Value)} {oc25 kV25 dc25 pm25 cd25 ct25 : Value}
    {f26 : Addr} {od26 an26 : Option Addr} {sl26 : Array (Option Value)} {oc26 kV26 dc26 pm26 cd26 ct26 : Value}
    (aT : PySem.W.nsIn K mainGlobals "Tables" = some (some (.ref CT))) (aN : PySem.W.nsIn K mainGlobals "Net" = some (some (.ref CN))) (aR : PySem.W.nsIn K mainGlobals "Rig" = some (some (.ref CR)))
    (a0 : PySem.W.nsIn K mainGlobals "is_whole" = some (some (.ref f0))) (l0 : K.lookup f0 = some ⟨oc0, od0, .func (PySem.W.fnOf "is_whole" "is_whole" (defArgs (top 5)) (defBody (top 5)) (defScope (top 5)) .none kV0 dc0 pm0 an0 cd0 ct0), sl0⟩) (c0 : PySem.W.codeIn K cd0 "is_whole" = true) (k0 : PySem.W.keepIn K (.ref f0) = true)
    (a1 : PySem.W.nsIn K mainGlobals "is_below" = some (some (.ref f1))) (l1 : K.lookup f1 = some ⟨oc1, od1, .func (PySem.W.fnOf "is_below" "is_below" (defArgs (top 6)) (defBody (top 6)) (defScope (top 6)) .none kV1 dc1 pm1 an1 cd1 ct1), sl1⟩) (c1 : PySem.W.codeIn K cd1 "is_below" = true) (k1 : PySem.W.keepIn K (.ref f1) = true)
    (a2 : PySem.W.nsIn K mainGlobals "is_listed" = some (some (.ref f2))) (l2 : K.lookup f2 = some ⟨oc2, od2, .func (PySem.W.fnOf "is_listed" "is_listed" (defArgs (top 7)) (defBody (top 7)) (defScope (top 7)) .none kV2 dc2 pm2 an2 cd2 ct2), sl2⟩) (c2 : PySem.W.codeIn K cd2 "is_listed" = true) (k2 : PySem.W.keepIn K (.ref f2) = true)
    (a3 : PySem.W.nsIn K mainGlobals "is_place" = some (some (.ref f3))) (l3 : K.lookup f3 = some ⟨oc3, od3, .func (PySem.W.fnOf "is_place" "is_place" (defArgs (top 8)) (defBody (top 8)) (defScope (top 8)) .none kV3 dc3 pm3 an3 cd3 ct3), sl3⟩) (c3 : PySem.W.codeIn K cd3 "is_place" = true) (k3 : PySem.W.keepIn K (.ref f3) = true)
    (a4 : PySem.W.nsIn K mainGlobals "is_gate" = some (some (.ref f4))) (l4 : K.lookup f4 = some ⟨oc4, od4, .func (PySem.W.fnOf "is_gate" "is_gate" (defArgs (top 11)) (defBody (top 11)) (defScope (top 11)) .none kV4 dc4 pm4 an4 cd4 ct4), sl4⟩) (c4 : PySem.W.codeIn K cd4 "is_gate" = true) (k4 : PySem.W.keepIn K (.ref f4) = true)
    (a5 : PySem.W.nsIn K mainGlobals "opened_gate" = some (some (.ref f5))) (l5 : K.lookup f5 = some ⟨oc5, od5, .func (PySem.W.fnOf "opened_gate" "opened_gate" (defArgs (top 16)) (defBody (top 16)) (defScope (top 16)) .none kV5 dc5 pm5 an5 cd5 ct5), sl5⟩) (c5 : PySem.W.codeIn K cd5 "opened_gate" = true) (k5 : PySem.W.keepIn K (.ref f5) = true)
    (a6 : PySem.W.nsIn K mainGlobals "opened_net" = some (some (.ref f6))) (l6 : K.lookup f6 = some ⟨oc6, od6, .func (PySem.W.fnOf "opened_net" "opened_net" (defArgs (top 17)) (defBody (top 17)) (defScope (top 17)) .none kV6 dc6 pm6 an6 cd6 ct6), sl6⟩) (c6 : PySem.W.codeIn K cd6 "opened_net" = true) (k6 : PySem.W.keepIn K (.ref f6) = true)
    (a7 : PySem.W.nsIn K mainGlobals "is_table" = some (some (.ref f7))) (l7 : K.lookup f7 = some ⟨oc7, od7, .func (PySem.W.fnOf "is_table" "is_table" (defArgs (top 19)) (defBody (top 19)) (defScope (top 19)) .none kV7 dc7 pm7 an7 cd7 ct7), sl7⟩) (c7 : PySem.W.codeIn K cd7 "is_table" = true) (k7 : PySem.W.keepIn K (.ref f7) = true)
    (a8 : PySem.W.nsIn K mainGlobals "is_keep" = some (some (.ref f8))) (l8 : K.lookup f8 = some ⟨oc8, od8, .func (PySem.W.fnOf "is_keep" "is_keep" (defArgs (top 20)) (defBody (top 20)) (defScope (top 20)) .none kV8 dc8 pm8 an8 cd8 ct8), sl8⟩) (c8 : PySem.W.codeIn K cd8 "is_keep" = true) (k8 : PySem.W.keepIn K (.ref f8) = true)
    (a9 : PySem.W.nsIn K mainGlobals "ask_tables" = some (some (.ref f9))) (l9 : K.lookup f9 = some ⟨oc9, od9, .func (PySem.W.fnOf "ask_tables" "ask_tables" (defArgs (top 21)) (defBody (top 21)) (defScope (top 21)) .none kV9 dc9 pm9 an9 cd9 ct9), sl9⟩) (c9 : PySem.W.codeIn K cd9 "ask_tables" = true) (k9 : PySem.W.keepIn K (.ref f9) = true)
    (a10 : PySem.W.nsIn K mainGlobals "_law_next" = some (some (.ref f10))) (l10 : K.lookup f10 = some ⟨oc10, od10, .func (PySem.W.fnOf "_law_next" "_law_next" (defArgs (top 24)) (defBody (top 24)) (defScope (top 24)) .none kV10 dc10 pm10 an10 cd10 ct10), sl10⟩) (c10 : PySem.W.codeIn K cd10 "_law_next" = true) (k10 : PySem.W.keepIn K (.ref f10) = true)
    (a11 : PySem.W.nsIn K mainGlobals "_law_bits" = some (some (.ref f11))) (l11 : K.lookup f11 = some ⟨oc11, od11, .func (PySem.W.fnOf "_law_bits" "_law_bits" (defArgs (top 25)) (defBody (top 25)) (defScope (top 25)) .none kV11 dc11 pm11 an11 cd11 ct11), sl11⟩) (c11 : PySem.W.codeIn K cd11 "_law_bits" = true) (k11 : PySem.W.keepIn K (.ref f11) = true)
    (a12 : PySem.W.nsIn K mainGlobals "_law_same" = some (some (.ref f12))) (l12 : K.lookup f12 = some ⟨oc12, od12, .func (PySem.W.fnOf "_law_same" "_law_same" (defArgs (top 26)) (defBody (top 26)) (defScope (top 26)) .none kV12 dc12 pm12 an12 cd12 ct12), sl12⟩) (c12 : PySem.W.codeIn K cd12 "_law_same" = true) (k12 : PySem.W.keepIn K (.ref f12) = true)
    (a13 : PySem.W.nsIn K mainGlobals "_law_told" = some (some (.ref f13))) (l13 : K.lookup f13 = some ⟨oc13, od13, .func (PySem.W.fnOf "_law_told" "_law_told" (defArgs (top 27)) (defBody (top 27)) (defScope (top 27)) .none kV13 dc13 pm13 an13 cd13 ct13), sl13⟩) (c13 : PySem.W.codeIn K cd13 "_law_told" = true) (k13 : PySem.W.keepIn K (.ref f13) = true)
    (a14 : PySem.W.nsIn K mainGlobals "_law_values" = some (some (.ref f14))) (l14 : K.lookup f14 = some ⟨oc14, od14, .func (PySem.W.fnOf "_law_values" "_law_values" (defArgs (top 28)) (defBody (top 28)) (defScope (top 28)) .none kV14 dc14 pm14 an14 cd14 ct14), sl14⟩) (c14 : PySem.W.codeIn K cd14 "_law_values" = true) (k14 : PySem.W.keepIn K (.ref f14) = true)
    (a15 : PySem.W.nsIn K mainGlobals "_law_place_bit" = some (some (.ref f15))) (l15 : K.lookup f15 = some ⟨oc15, od15, .func (PySem.W.fnOf "_law_place_bit" "_law_place_bit" (defArgs (top 29)) (defBody (top 29)) (defScope (top 29)) .none kV15 dc15 pm15 an15 cd15 ct15), sl15⟩) (c15 : PySem.W.codeIn K cd15 "_law_place_bit" = true) (k15 : PySem.W.keepIn K (.ref f15) = true)
    (a16 : PySem.W.nsIn K mainGlobals "_law_table_bits" = some (some (.ref f16))) (l16 : K.lookup f16 = some ⟨oc16, od16, .func (PySem.W.fnOf "_law_table_bits" "_law_table_bits" (defArgs (top 30)) (defBody (top 30)) (defScope (top 30)) .none kV16 dc16 pm16 an16 cd16 ct16), sl16⟩) (c16 : PySem.W.codeIn K cd16 "_law_table_bits" = true) (k16 : PySem.W.keepIn K (.ref f16) = true)
    (a17 : PySem.W.nsIn K mainGlobals "_law_place" = some (some (.ref f17))) (l17 : K.lookup f17 = some ⟨oc17, od17, .func (PySem.W.fnOf "_law_place" "_law_place" (defArgs (top 31)) (defBody (top 31)) (defScope (top 31)) .none kV17 dc17 pm17 an17 cd17 ct17), sl17⟩) (c17 : PySem.W.codeIn K cd17 "_law_place" = true) (k17 : PySem.W.keepIn K (.ref f17) = true)
    (a18 : PySem.W.nsIn K mainGlobals "_law_tables" = some (some (.ref f18))) (l18 : K.lookup f18 = some ⟨oc18, od18, .func (PySem.W.fnOf "_law_tables" "_law_tables" (defArgs (top 32)) (defBody (top 32)) (defScope (top 32)) .none kV18 dc18 pm18 an18 cd18 ct18), sl18⟩) (c18 : PySem.W.codeIn K cd18 "_law_tables" = true) (k18 : PySem.W.keepIn K (.ref f18) = true)
    (a19 : PySem.W.nsIn K mainGlobals "_law_beat_same" = some (some (.ref f19))) (l19 : K.lookup f19 = some ⟨oc19, od19, .func (PySem.W.fnOf "_law_beat_same" "_law_beat_same" (defArgs (top 33)) (defBody (top 33)) (defScope (top 33)) .none kV19 dc19 pm19 an19 cd19 ct19), sl19⟩) (c19 : PySem.W.codeIn K cd19 "_law_beat_same" = true) (k19 : PySem.W.keepIn K (.ref f19) = true)
    (a20 : PySem.W.nsIn K mainGlobals "law" = some (some (.ref f20))) (l20 : K.lookup f20 = some ⟨oc20, od20, .func (PySem.W.fnOf "law" "law" (defArgs (top 34)) (defBody (top 34)) (defScope (top 34)) .none kV20 dc20 pm20 an20 cd20 ct20), sl20⟩) (c20 : PySem.W.codeIn K cd20 "law" = true) (k20 : PySem.W.keepIn K (.ref f20) = true)
    (a21 : PySem.W.findIn K (.ref CT) "__init__" = some (some (.ref f21))) (l21 : K.lookup f21 = some ⟨oc21, od21, .func (PySem.W.fnOf "__init__" "Tables.__init__" (defArgs (inClass (top 22) 0)) (defBody (inClass (top 22) 0)) (defScope (inClass (top 22) 0)) .none kV21 dc21 pm21 an21 cd21 ct21), sl21⟩) (c21 : PySem.W.codeIn K cd21 "Tables.__init__" = true) (k21 : PySem.W.keepIn K (.ref f21) = true) (i21 : PySem.W.isFn K (.ref f21) = true)
    (a22 : PySem.W.findIn K (.ref CN) "__init__" = some (some (.ref f22))) (l22 : K.lookup f22 = some ⟨oc22, od22, .func (PySem.W.fnOf "__init__" "Net.__init__" (defArgs (inClass (top 12) 0)) (defBody (inClass (top 12) 0)) (defScope (inClass (top 12) 0)) .none kV22 dc22 pm22 an22 cd22 ct22), sl22⟩) (c22 : PySem.W.codeIn K cd22 "Net.__init__" = true) (k22 : PySem.W.keepIn K (.ref f22) = true) (i22 : PySem.W.isFn K (.ref f22) = true)
    (a23 : PySem.W.findIn K (.ref CR) "__init__" = some (some (.ref f23))) (l23 : K.lookup f23 = some ⟨oc23, od23, .func (PySem.W.fnOf "__init__" "Rig.__init__" (defArgs (inClass (top 14) 0)) (defBody (inClass (top 14) 0)) (defScope (inClass (top 14) 0)) .none kV23 dc23 pm23 an23 cd23 ct23), sl23⟩) (c23 : PySem.W.codeIn K cd23 "Rig.__init__" = true) (k23 : PySem.W.keepIn K (.ref f23) = true) (i23 : PySem.W.isFn K (.ref f23) = true)
    (a24 : PySem.W.findIn K (.ref CR) "lay" = some (some (.ref f24))) (l24 : K.lookup f24 = some ⟨oc24, od24, .func (PySem.W.fnOf "lay" "Rig.lay" (defArgs (inClass (top 14) 1)) (defBody (inClass (top 14) 1)) (defScope (inClass (top 14) 1)) .none kV24 dc24 pm24 an24 cd24 ct24), sl24⟩) (c24 : PySem.W.codeIn K cd24 "Rig.lay" = true) (k24 : PySem.W.keepIn K (.ref f24) = true) (i24 : PySem.W.isFn K (.ref f24) = true)
    (a25 : PySem.W.findIn K (.ref CR) "constant" = some (some (.ref f25))) (l25 : K.lookup f25 = some ⟨oc25, od25, .func (PySem.W.fnOf "constant" "Rig.constant" (defArgs (inClass (top 14) 2)) (defBody (inClass (top 14) 2)) (defScope (inClass (top 14) 2)) .none kV25 dc25 pm25 an25 cd25 ct25), sl25⟩) (c25 : PySem.W.codeIn K cd25 "Rig.constant" = true) (k25 : PySem.W.keepIn K (.ref f25) = true) (i25 : PySem.W.isFn K (.ref f25) = true)
    (a26 : PySem.W.findIn K (.ref CR) "feed_keeper" = some (some (.ref f26))) (l26 : K.lookup f26 = some ⟨oc26, od26, .func (PySem.W.fnOf "feed_keeper" "Rig.feed_keeper" (defArgs (inClass (top 14) 3)) (defBody (inClass (top 14) 3)) (defScope (inClass (top 14) 3)) .none kV26 dc26 pm26 an26 cd26 ct26), sl26⟩) (c26 : PySem.W.codeIn K cd26 "Rig.feed_keeper" = true) (k26 : PySem.W.keepIn K (.ref f26) = true) (i26 : PySem.W.isFn K (.ref f26) = true)
    (pgT : PySem.W.plainGet K CT Str.empty = true) (hdT : PySem.W.hasDictIn K CT = true) (poT : PySem.W.plainOver K CT = true) (saT : PySem.W.findIn K (.ref CT) "__setattr__" = some (some (.builtin "object.__setattr__"))) (mkT : PySem.W.makesIn K CT = true) (kcT : PySem.W.keepIn K (.ref CT) = true)
    (pgN : PySem.W.plainGet K CN Str.empty = true) (hdN : PySem.W.hasDictIn K CN = true) (poN : PySem.W.plainOver K CN = true) (saN : PySem.W.findIn K (.ref CN) "__setattr__" = some (some (.builtin "object.__setattr__"))) (mkN : PySem.W.makesIn K CN = true) (kcN : PySem.W.keepIn K (.ref CN) = true)
    (pgR : PySem.W.plainGet K CR Str.empty = true) (hdR : PySem.W.hasDictIn K CR = true) (poR : PySem.W.plainOver K CR = true) (saR : PySem.W.findIn K (.ref CR) "__setattr__" = some (some (.builtin "object.__setattr__"))) (mkR : PySem.W.makesIn K CR = true) (kcR : PySem.W.keepIn K (.ref CR) = true)
    (nT_ins : PySem.W.findIn K (.ref CT) "ins" = some none)
    (nT_tables : PySem.W.findIn K (.ref CT) "tables" = some none)
    (nT_keeps : PySem.W.findIn K (.ref CT) "keeps" = some none)
    (nT_outs : PySem.W.findIn K (.ref CT) "outs" = some none)
    (nN_gates : PySem.W.findIn K (.ref CN) "gates" = some none)
    (nN_outs : PySem.W.findIn K (.ref CN) "outs" = some none)
    (nR_gates : PySem.W.findIn K (.ref CR) "gates" = some none)
    (nR_constants : PySem.W.findIn K (.ref CR) "constants" = some none)
    (z_len : PySem.W.nsIn K mainGlobals "len" = some none)
    (z_range : PySem.W.nsIn K mainGlobals "range" = some none)
    (z_int : PySem.W.nsIn K mainGlobals "int" = some none)
    (z_str : PySem.W.nsIn K mainGlobals "str" = some none)
    (z_isinstance : PySem.W.nsIn K mainGlobals "isinstance" = some none)
    (z_zip : PySem.W.nsIn K mainGlobals "zip" = some none)
    (z_list : PySem.W.nsIn K mainGlobals "list" = some none)
    (z_tuple : PySem.W.nsIn K mainGlobals "tuple" = some none)
    (z_dict : PySem.W.nsIn K mainGlobals "dict" = some none)
    (z_bool : PySem.W.nsIn K mainGlobals "bool" = some none)
    (z_all : PySem.W.nsIn K mainGlobals "all" = some none)
    (z_enumerate : PySem.W.nsIn K mainGlobals "enumerate" = some none)
    (xcl : PySem.W.findIn K (.ref CN) "__class__" = some (some (.builtin "object.__class__"))) (xsg : PySem.W.specialIn K (.builtin "object.__class__") "__get__" = some (some (.builtin "getset_descriptor.__get__"))) (xtk : PySem.W.takesIn K (.builtin "object.__class__") = some true) (xmo : PySem.W.mroIn K CN (.type "object") = some true) (wN : PySem.W.kitOne K (.ref CN) (.ref CN) = some true)
    (mf : PySem.W.nsIn K mainGlobals "FEED_COUNTS" = some (some (.ref ff))) (hKD : KD l.prog w K ff kvs) (hF : ∀ w n, (w, n) ∈ FC → valV kvs (Sum.inr w) = some (.int n)) :
    ∃ fd : FuncData, (∀ (s : Shared) (v : Value), BindsTo s fd ⟨[v], []⟩ [("_law_script", v)]) ∧ ∀ base : Heap, K.In base → base.Ns mainGlobals mg → FnOk l.prog w K mg base CX0 9 fa fd ["_law_script"] (spLaw K) := by
  have e := hfa.symm.trans (PySem.W.mg_of X G a20)
  cases e
  have F0 := fun_mk (st := top 5) l0 c0 k0
  have b0 := F0.binds (ps := ["thing"]) fun _ _ _ _ _ _ us hl => match us, hl with | [_], _ => rfl
  have m0 := PySem.W.mg_of X G a0
  have F1 := fun_mk (st := top 6) l1 c1 k1
  have b1 := F1.binds (ps := ["thing", "bound"]) fun _ _ _ _ _ _ us hl => match us, hl with | [_, _], _ => rfl
  have m1 := PySem.W.mg_of X G a1
  have F2 := fun_mk (st := top 7) l2 c2 k2
  have b2 := F2.binds (ps := ["thing"]) fun _ _ _ _ _ _ us hl => match us, hl with | [_], _ => rfl
  have m2 := PySem.W.mg_of X G a2
  have F3 := fun_mk (st := top 8) l3 c3 k3
  have b3 := F3.binds (ps := ["thing", "counts"]) fun _ _ _ _ _ _ us hl => match us, hl with | [_, _], _ => rfl
  have m3 := PySem.W.mg_of X G a3
  have F4 := fun_mk (st := top 11) l4 c4 k4
  have b4 := F4.binds (ps := ["thing", "ahead", "total"]) fun _ _ _ _ _ _ us hl => match us, hl with | [_, _, _], _ => rfl
  have m4 := PySem.W.mg_of X G a4
  have F5 := fun_mk (st := top 16) l5 c5 k5
  have b5 := F5.binds (ps := ["rig", "leaves", "bits", "known"]) fun _ _ _ _ _ _ us hl => match us, hl with | [_, _, _, _], _ => rfl
  have m5 := PySem.W.mg_of X G a5
  have F6 := fun_mk (st := top 17) l6 c6 k6
  have b6 := F6.binds (ps := ["tables"]) fun _ _ _ _ _ _ us hl => match us, hl with | [_], _ => rfl
  have m6 := PySem.W.mg_of X G a6
  have F7 := fun_mk (st := top 19) l7 c7 k7
  have b7 := F7.binds (ps := ["thing", "counts"]) fun _ _ _ _ _ _ us hl => match us, hl with | [_, _], _ => rfl
  have m7 := PySem.W.mg_of X G a7
  have F8 := fun_mk (st := top 20) l8 c8 k8
  have b8 := F8.binds (ps := ["thing", "counts"]) fun _ _ _ _ _ _ us hl => match us, hl with | [_, _], _ => rfl
  have m8 := PySem.W.mg_of X G a8
  have F9 := fun_mk (st := top 21) l9 c9 k9
  have b9 := F9.binds (ps := ["ins", "tables", "keeps", "outs"]) fun _ _ _ _ _ _ us hl => match us, hl with | [_, _, _, _], _ => rfl
  have m9 := PySem.W.mg_of X G a9
  have F10 := fun_mk (st := top 24) l10 c10 k10
  have b10 := F10.binds (ps := ["_law_script", "_law_at"]) fun _ _ _ _ _ _ us hl => match us, hl with | [_, _], _ => rfl
  have m10 := PySem.W.mg_of X G a10
  have F11 := fun_mk (st := top 25) l11 c11 k11
  have b11 := F11.binds (ps := ["_law_script", "_law_at", "_law_many"]) fun _ _ _ _ _ _ us hl => match us, hl with | [_, _, _], _ => rfl
  have m11 := PySem.W.mg_of X G a11
  have F12 := fun_mk (st := top 26) l12 c12 k12
  have b12 := F12.binds (ps := ["_law_found", "_law_due"]) fun _ _ _ _ _ _ us hl => match us, hl with | [_, _], _ => rfl
  have m12 := PySem.W.mg_of X G a12
  have F13 := fun_mk (st := top 27) l13 c13 k13
  have b13 := F13.binds (ps := ["_law_word", "_law_feeds"]) fun _ _ _ _ _ _ us hl => match us, hl with | [_, _], _ => rfl
  have m13 := PySem.W.mg_of X G a13
  have F14 := fun_mk (st := top 28) l14 c14 k14
  have b14 := F14.binds (ps := ["_law_gates", "_law_fed", "_law_held"]) fun _ _ _ _ _ _ us hl => match us, hl with | [_, _, _], _ => rfl
  have m14 := PySem.W.mg_of X G a14
  have F15 := fun_mk (st := top 29) l15 c15 k15
  have b15 := F15.binds (ps := ["_law_place_here", "_law_fed", "_law_kept", "_law_told_here"]) fun _ _ _ _ _ _ us hl => match us, hl with | [_, _, _, _], _ => rfl
  have m15 := PySem.W.mg_of X G a15
  have F16 := fun_mk (st := top 30) l16 c16 k16
  have b16 := F16.binds (ps := ["_law_tables_here", "_law_fed", "_law_kept"]) fun _ _ _ _ _ _ us hl => match us, hl with | [_, _, _], _ => rfl
  have m16 := PySem.W.mg_of X G a16
  have F17 := fun_mk (st := top 31) l17 c17 k17
  have b17 := F17.binds (ps := ["_law_script", "_law_at", "_law_ins", "_law_keeps", "_law_ahead"]) fun _ _ _ _ _ _ us hl => match us, hl with | [_, _, _, _, _], _ => rfl
  have m17 := PySem.W.mg_of X G a17
  have F18 := fun_mk (st := top 32) l18 c18 k18
  have b18 := F18.binds (ps := ["_law_script", "_law_at"]) fun _ _ _ _ _ _ us hl => match us, hl with | [_, _], _ => rfl
  have m18 := PySem.W.mg_of X G a18
  have F19 := fun_mk (st := top 33) l19 c19 k19
  have b19 := F19.binds (ps := ["_law_net", "_law_numbers", "_law_tables_here", "_law_fed", "_law_kept"]) fun _ _ _ _ _ _ us hl => match us, hl with | [_, _, _, _, _], _ => rfl
  have m19 := PySem.W.mg_of X G a19
  have F20 := fun_mk (st := top 34) l20 c20 k20
  have F21 := fun_mk (st := inClass (top 22) 0) l21 c21 k21
  have b21 := F21.binds (ps := ["self", "ins", "tables", "keeps", "outs"]) fun _ _ _ _ _ _ us hl => match us, hl with | [_, _, _, _, _], _ => rfl
  have F22 := fun_mk (st := inClass (top 12) 0) l22 c22 k22
  have b22 := F22.binds (ps := ["self", "gates", "outs"]) fun _ _ _ _ _ _ us hl => match us, hl with | [_, _, _], _ => rfl
  have F23 := fun_mk (st := inClass (top 14) 0) l23 c23 k23
  have b23 := F23.binds (ps := ["self"]) fun _ _ _ _ _ _ us hl => match us, hl with | [_], _ => rfl
  have F24 := fun_mk (st := inClass (top 14) 1) l24 c24 k24
  have b24 := F24.binds (ps := ["self", "gate"]) fun _ _ _ _ _ _ us hl => match us, hl with | [_, _], _ => rfl
  have F25 := fun_mk (st := inClass (top 14) 2) l25 c25 k25
  have b25 := F25.binds (ps := ["self", "bit"]) fun _ _ _ _ _ _ us hl => match us, hl with | [_, _], _ => rfl
  have F26 := fun_mk (st := inClass (top 14) 3) l26 c26 k26
  have b26 := F26.binds (ps := ["self", "numbers", "bits"]) fun _ _ _ _ _ _ us hl => match us, hl with | [_, _, _], _ => rfl
  have z_len := PySem.W.mg_none_of X G z_len
  have z_range := PySem.W.mg_none_of X G z_range
  have z_int := PySem.W.mg_none_of X G z_int
  have z_str := PySem.W.mg_none_of X G z_str
  have z_isinstance := PySem.W.mg_none_of X G z_isinstance
  have z_zip := PySem.W.mg_none_of X G z_zip
  have z_list := PySem.W.mg_none_of X G z_list
  have z_tuple := PySem.W.mg_none_of X G z_tuple
  have z_dict := PySem.W.mg_none_of X G z_dict
  have z_bool := PySem.W.mg_none_of X G z_bool
  have z_all := PySem.W.mg_none_of X G z_all
  have z_enumerate := PySem.W.mg_none_of X G z_enumerate
  have mff := PySem.W.mg_of X G mf
  have mT := PySem.W.mg_of X G aT
  have mN := PySem.W.mg_of X G aN
  have mR := PySem.W.mg_of X G aR
  have clT : Cls K CT := ⟨pgT, hdT, poT, saT⟩
  have clN : Cls K CN := ⟨pgN, hdN, poN, saN⟩
  have clR : Cls K CR := ⟨pgR, hdR, poR, saR⟩
  refine ⟨PySem.W.fnOf "law" "law" (defArgs (top 34)) (defBody (top 34)) (defScope (top 34)) .none kV20 dc20 pm20 an20 cd20 ct20, fun s v => .of_eq rfl, fun base _ _ => ?_⟩
  have DG_is_whole_1 : DefOk l.prog w K mg base CX0 1 "is_whole" ["thing"] spWholeG := ⟨f0, _, ok_wholeG (k := 0) F0 z_isinstance z_int z_bool, b0, k0, m0⟩
  have D_is_whole_1 : DefOk l.prog w K mg base CX0 1 "is_whole" ["thing"] spWhole := ⟨f0, _, (ok_wholeG (k := 0) F0 z_isinstance z_int z_bool).imp whole_imp, b0, k0, m0⟩
  have D_is_listed_1 : DefOk l.prog w K mg base CX0 1 "is_listed" ["thing"] spListed := ⟨f2, _, ok_listed (k := 0) F2 z_isinstance z_list z_tuple, b2, k2, m2⟩
  have D_is_below_2 : DefOk l.prog w K mg base CX0 2 "is_below" ["thing", "bound"] spBelow := ⟨f1, _, (ok_belowG (k := 1) F1 DG_is_whole_1).imp below_imp, b1, k1, m1⟩
  have D_is_place_3 : DefOk l.prog w K mg base CX0 3 "is_place" ["thing", "counts"] spPlace := ⟨f3, _, ok_place (k := 2) F3 D_is_below_2 z_isinstance z_tuple z_str z_len, b3, k3, m3⟩
  have D_is_table_4 : DefOk l.prog w K mg base CX0 4 "is_table" ["thing", "counts"] spTable := ⟨f7, _, ok_table (k := 3) F7 (D_is_below_2.mono (by omega)) (D_is_listed_1.mono (by omega)) D_is_place_3 z_isinstance z_tuple z_all z_len, b7, k7, m7⟩
  have D_is_keep_4 : DefOk l.prog w K mg base CX0 4 "is_keep" ["thing", "counts"] spKeep := ⟨f8, _, ok_keep (k := 3) F8 (D_is_below_2.mono (by omega)) D_is_place_3 z_isinstance z_tuple z_len, b8, k8, m8⟩
  have D_ask_tables_5 : DefOk l.prog w K mg base CX0 5 "ask_tables" ["ins", "tables", "keeps", "outs"] spAsk := ⟨f9, _, ok_ask (k := 4) F9 (D_is_whole_1.mono (by omega)) (D_is_listed_1.mono (by omega)) D_is_table_4 D_is_keep_4 (D_is_place_3.mono (by omega)) z_len z_all z_enumerate, b9, k9, m9⟩
  have D_is_gate_3 : DefOk l.prog w K mg base CX0 3 "is_gate" ["thing", "ahead", "total"] spGate := ⟨f4, _, ok_gate (k := 2) F4 D_is_below_2 mff hKD hF z_isinstance z_tuple z_str z_len z_all, b4, k4, m4⟩
  have MkT : MakeOk l.prog w K mg base CX0 6 CT "Tables" ["self", "ins", "tables", "keeps", "outs"] (spTabs CT) := ⟨⟨f21, _, ok_Tabs (k := 5) F21 clT nT_ins nT_tables nT_keeps nT_outs D_ask_tables_5 z_tuple, b21, ⟨mkT, a21, i21, kcT⟩, mT⟩⟩
  have MkN : MakeOk l.prog w K mg base CX0 4 CN "Net" ["self", "gates", "outs"] (spNet CN) := ⟨⟨f22, _, ok_Net (k := 3) F22 clN nN_gates nN_outs D_is_gate_3 (D_is_below_2.mono (by omega)) z_enumerate z_len z_tuple, b22, ⟨mkN, a22, i22, kcN⟩, mN⟩⟩
  have MkR : MakeOk l.prog w K mg base CX0 1 CR "Rig" ["self"] (spRig CR) := ⟨⟨f23, _, ok_Rig (k := 0) F23 clR nR_gates nR_constants, b23, ⟨mkR, a23, i23, kcR⟩, mR⟩⟩
  have ML : MethOk l.prog w K mg base CX0 1 CR "lay" ["self", "gate"] (spLay CR) := ⟨clR, f24, _, ok_lay (k := 0) F24 clR nR_gates z_len, b24, ⟨a24, i24, k24⟩⟩
  have MC : MethOk l.prog w K mg base CX0 2 CR "constant" ["self", "bit"] (spConst CR) := ⟨clR, f25, _, ok_const (k := 1) F25 clR nR_constants ML, b25, ⟨a25, i25, k25⟩⟩
  have MF : MethOk l.prog w K mg base CX0 1 CR "feed_keeper" ["self", "numbers", "bits"] (spFeed CR) := ⟨clR, f26, _, ok_feed (k := 0) F26 clR nR_gates z_zip, b26, ⟨a26, i26, k26⟩⟩
  have D_opened_gate_1 : DefOk l.prog w K mg base CX0 1 "opened_gate" ["rig", "leaves", "bits", "known"] spF := ⟨f5, _, ok_ogF (k := 0) F5, b5, k5, m5⟩
  have O0 := ok_og0 (P := l.prog) (w := w) (mg := mg) (base := base) (k := 2) F5 MC (ML.mono (by omega)) (D_opened_gate_1.mono (by omega)) z_len
  have O1 := ok_og (n := 0) (k := 3) F5 (MC.mono (by omega)) (ML.mono (by omega)) ⟨f5, _, O0, b5, k5, m5⟩ z_len
  have O2 := ok_og (n := 1) (k := 4) F5 (MC.mono (by omega)) (ML.mono (by omega)) ⟨f5, _, O1, b5, k5, m5⟩ z_len
  have O3 := ok_og (n := 2) (k := 5) F5 (MC.mono (by omega)) (ML.mono (by omega)) ⟨f5, _, O2, b5, k5, m5⟩ z_len
  have O4 := ok_og (n := 3) (k := 6) F5 (MC.mono (by omega)) (ML.mono (by omega)) ⟨f5, _, O3, b5, k5, m5⟩ z_len
  have DO : DefOk l.prog w K mg base CX0 7 "opened_gate" ["rig", "leaves", "bits", "known"] (fun vs H Q E => ∃ n, spOG CR n vs H Q E) := ⟨f5, _, og_all (fun i hi => match i, hi with | 0, _ => O0.mono (by omega) | 1, _ => O1.mono (by omega) | 2, _ => O2.mono (by omega) | 3, _ => O3.mono (by omega) | 4, _ => O4.mono (by omega) | j + 5, h => absurd h (by omega)), b5, k5, m5⟩
  have D_opened_net_8 : DefOk l.prog w K mg base CX0 8 "opened_net" ["tables"] (spON CT CN) := ⟨f6, _, ok_on (k := 6) F6 clT nT_ins nT_tables nT_keeps nT_outs clR nR_gates (MkR.mono (by omega)) (MkN.mono (by omega)) (ML.mono (by omega)) (MF.mono (by omega)) DO z_range z_len z_enumerate, b6, k6, m6⟩
  have D__law_next_1 : DefOk l.prog w K mg base CX0 1 "_law_next" ["_law_script", "_law_at"] (spNext K) := ⟨f10, _, ok_next (k := 0) F10 z_len z_range, b10, k10, m10⟩
  have D__law_bits_2 : DefOk l.prog w K mg base CX0 2 "_law_bits" ["_law_script", "_law_at", "_law_many"] (spLBits K) := ⟨f11, _, ok_lbits (k := 1) F11 D__law_next_1 z_range, b11, k11, m11⟩
  have D__law_same_1 : DefOk l.prog w K mg base CX0 1 "_law_same" ["_law_found", "_law_due"] spF := ⟨f12, _, ok_sameF (k := 0) F12, b12, k12, m12⟩
  have D__law_same_2 : DefOk l.prog w K mg base CX0 2 "_law_same" ["_law_found", "_law_due"] (spSame 0) := ⟨f12, _, ok_same0 (k := 1) F12 D__law_same_1 z_isinstance z_dict z_list z_tuple z_str z_int z_bool z_len z_all z_zip, b12, k12, m12⟩
  have D__law_same_3 : DefOk l.prog w K mg base CX0 3 "_law_same" ["_law_found", "_law_due"] (spSame 1) := ⟨f12, _, ok_same1 (k := 2) F12 D__law_same_2 z_isinstance z_dict z_list z_tuple z_str z_int z_bool z_len z_all z_zip, b12, k12, m12⟩
  have D__law_told_1 : DefOk l.prog w K mg base CX0 1 "_law_told" ["_law_word", "_law_feeds"] spTold := ⟨f13, _, ok_told (k := 0) F13 z_int, b13, k13, m13⟩
  have D__law_values_2 : DefOk l.prog w K mg base CX0 2 "_law_values" ["_law_gates", "_law_fed", "_law_held"] spVals := ⟨f14, _, ok_vals (k := 1) F14 D__law_told_1, b14, k14, m14⟩
  have D__law_place_bit_1 : DefOk l.prog w K mg base CX0 1 "_law_place_bit" ["_law_place_here", "_law_fed", "_law_kept", "_law_told_here"] spPB := ⟨f15, _, ok_pb (k := 0) F15, b15, k15, m15⟩
  have D__law_table_bits_2 : DefOk l.prog w K mg base CX0 2 "_law_table_bits" ["_law_tables_here", "_law_fed", "_law_kept"] spTBt := ⟨f16, _, ok_tbt (k := 1) F16 D__law_place_bit_1 z_enumerate, b16, k16, m16⟩
  have D__law_place_2 : DefOk l.prog w K mg base CX0 2 "_law_place" ["_law_script", "_law_at", "_law_ins", "_law_keeps", "_law_ahead"] (spPlc K) := ⟨f17, _, ok_plc (k := 1) F17 D__law_next_1, b17, k17, m17⟩
  have D__law_tables_3 : DefOk l.prog w K mg base CX0 3 "_law_tables" ["_law_script", "_law_at"] (spDT K) := ⟨f18, _, ok_dt (k := 2) F18 (D__law_next_1.mono (by omega)) D__law_place_2 z_range z_int, b18, k18, m18⟩
  have D__law_beat_same_3 : DefOk l.prog w K mg base CX0 3 "_law_beat_same" ["_law_net", "_law_numbers", "_law_tables_here", "_law_fed", "_law_kept"] (spBS CT CN) := ⟨f19, _, ok_bs (k := 2) F19 clT nT_tables nT_keeps nT_outs clN nN_gates nN_outs D__law_table_bits_2 D__law_values_2 (D__law_place_bit_1.mono (by omega)), b19, k19, m19⟩
  exact ok_law (k := 7) F20 clT nT_ins nT_tables nT_keeps nT_outs clN nN_gates xcl xsg xtk xmo wN mN (D__law_tables_3.mono (by omega)) (D__law_bits_2.mono (by omega)) (D__law_same_3.mono (by omega)) D_opened_net_8 (D__law_beat_same_3.mono (by omega)) (D__law_table_bits_2.mono (by omega)) (D__law_place_bit_1.mono (by omega)) (MkT.mono (by omega)) z_range z_list z_tuple z_len z_all z_isinstance
end

end B17
namespace B17
open PySem L2
def FXS : List (Str × Tok × Value) := [("in", 282, .int 0 283), ("zero", 284, .int 0 285), ("one", 286, .int 0 287), ("not", 288, .int 1 289), ("and", 290, .int 2 291), ("or", 292, .int 2 293), ("xor", 294, .int 2 295), ("pick", 296, .int 3 297)]
def FVS : List V := [.int 0, .int 0, .int 0, .int 1, .int 2, .int 2, .int 2, .int 3]
def FKVS : List (Key × V) := (FXS.map fun x => (Sum.inr x.1 : Key)).zip FVS
theorem xs_nd : (FXS.map (·.1)).Nodup := by decide +kernel
theorem xs_vals : Vals FVS (FXS.map (·.2.2)) := .cons ⟨_, rfl⟩ (.cons ⟨_, rfl⟩ (.cons ⟨_, rfl⟩ (.cons ⟨_, rfl⟩ (.cons ⟨_, rfl⟩ (.cons ⟨_, rfl⟩ (.cons ⟨_, rfl⟩ (.cons ⟨_, rfl⟩ (.nil))))))))
theorem forms_mk {P : Program} {w : World} {K : PySem.W.Frag} {ff : Addr} {od : Option Addr} {ep : Nat} {sl : Array (Option Value)} {es : Array DictEntry} (l : K.lookup ff = some ⟨.type "dict", od, .dict es ep, sl⟩) (he : es.toList = FXS.map (ent w))
    (hx : (⟨.type "dict", od, .dict es ep, sl⟩ : Obj).ExactDict) (ns : (ff == sysModules) = false) : KD P w K ff FKVS := kd_of FXS FVS l he hx ns xs_nd xs_vals
theorem forms_F : ∀ w n, (w, n) ∈ FC → valV FKVS (Sum.inr w) = some (.int n) := by
  intro w n h
  simp only [FC, List.mem_cons, List.not_mem_nil, or_false, Prod.mk.injEq] at h
  rcases h with ⟨rfl, rfl⟩ | ⟨rfl, rfl⟩ | ⟨rfl, rfl⟩ | ⟨rfl, rfl⟩ | ⟨rfl, rfl⟩ | ⟨rfl, rfl⟩ | ⟨rfl, rfl⟩ | ⟨rfl, rfl⟩ <;> decide +kernel
end B17
open PySem PySem.W PyProof.Rows
theorem PySem.W.Fast.tw6663962423532036118 : True := trivial
theorem PySem.W.Fast.tw10007302982600331792 : True := trivial
theorem PySem.W.Fast.tw16255378193382109619 : True := trivial
theorem PySem.W.Fast.tw860460432198137019 : True := trivial
theorem PySem.W.Fast.tw7357721155625747220 : True := trivial
theorem PySem.W.Fast.tw11042667047142375293 : True := trivial
theorem PySem.W.Fast.tw7855668798225511533 : True := trivial
theorem PySem.W.Fast.tw10318667308621562844 : True := trivial
theorem PySem.W.Fast.tw6407009551628001850 : True := trivial
theorem PySem.W.Fast.tw9750677914051029533 : True := trivial
theorem PySem.W.Fast.tw6720097764756605090 : True := trivial
theorem PySem.W.Fast.tw15340925710090912561 : True := trivial
theorem PySem.W.Fast.tw15116799253454756944 : True := trivial
theorem PySem.W.Fast.tw7075174430567339381 : True := trivial
theorem PySem.W.Fast.tw6031096423636947883 : True := trivial
theorem PySem.W.Fast.tw13932622686649077608 : True := trivial
theorem PySem.W.Fast.tw10860719527412084092 : True := trivial
theorem PySem.W.Fast.tw38061579949966452 : True := trivial
theorem PySem.W.Fast.tw3973630812444927545 : True := trivial
theorem PySem.W.Fast.tw9567204918899164048 : True := trivial
theorem PySem.W.Fast.tw515009591396487126 : True := trivial
theorem PySem.W.Fast.tw4296741150575189490 : True := trivial
theorem PySem.W.Fast.tw18047354569643667807 : True := trivial
theorem PySem.W.Fast.tw2719121108246778908 : True := trivial
theorem PySem.W.Fast.tw6061520956518616905 : True := trivial
theorem PySem.W.Fast.tw4402625273730940716 : True := trivial
theorem PySem.W.Fast.tw17730158902135137093 : True := trivial
theorem PySem.W.Fast.tw15988222110092289708 : True := trivial
theorem PySem.W.Fast.tw16286422777158542041 : True := trivial
theorem PySem.W.Fast.tw10321581190810402635 : True := trivial
theorem PySem.W.Fast.tw16166896463373569155 : True := trivial
theorem PySem.W.Fast.tw12061059642729440163 : True := trivial
theorem PySem.W.Fast.tw4657338876423904946 : True := trivial
theorem PySem.W.Fast.tw3966946450914095576 : True := trivial
theorem PySem.W.Fast.tw14611036968175922085 : True := trivial
theorem PySem.W.Fast.tw2820622977940408235 : True := trivial
theorem PySem.W.Fast.tw6111364784380932540 : True := trivial
theorem PySem.W.Fast.tw13963540099567396131 : True := trivial
theorem PySem.W.Fast.tw12870168728747466062 : True := trivial
theorem PySem.W.Fast.tw3485080233653603915 : True := trivial
theorem PySem.W.Fast.tw14754836420372196396 : True := trivial
theorem PySem.W.Fast.tw1155227948355797818 : True := trivial
theorem PySem.W.Fast.tw2091173570930669257 : True := trivial
theorem PySem.W.Fast.tw3557123261559971142 : True := trivial
theorem PySem.W.Fast.tw17143121390343539146 : True := trivial
theorem PySem.W.Fast.tw888784091778808234 : True := trivial
theorem PySem.W.Fast.tw12447817469463419298 : True := trivial
theorem PySem.W.Fast.tw6702163851848937048 : True := trivial
theorem PySem.W.Fast.tw10927761870792648829 : True := trivial
theorem PySem.W.Fast.tw15958516281048709640 : True := trivial
theorem PySem.W.Fast.tw304566386611086121 : True := trivial
theorem PySem.W.Fast.tw7588995891976575517 : True := trivial
theorem PySem.W.Fast.tw2153827574586674219 : True := trivial
theorem PySem.W.Fast.tw2403130567521194980 : True := trivial
theorem PySem.W.Fast.tw8641680672472897421 : True := trivial
theorem PySem.W.Fast.tw6481417954940805783 : True := trivial
theorem PySem.W.Fast.tw15179443295131366918 : True := trivial
theorem PySem.W.Fast.tw12474642375280828445 : True := trivial
theorem PySem.W.Fast.tw7787141688520278134 : True := trivial
theorem PySem.W.Fast.tw16010513924178573082 : True := trivial
theorem PySem.W.Fast.tw5265171866410978317 : True := trivial
theorem PySem.W.Fast.tw14757603681107177457 : True := trivial
theorem PySem.W.Fast.tw12163103113991312285 : True := trivial
theorem PySem.W.Fast.tw15237353059193297815 : True := trivial
theorem PySem.W.Fast.tw15021275218760993055 : True := trivial
theorem PySem.W.Fast.tw5204125931237891058 : True := trivial
theorem PySem.W.Fast.tw7451454540741938740 : True := trivial
theorem PySem.W.Fast.tw6007309109876248117 : True := trivial
theorem PySem.W.Fast.tw16262828374143067869 : True := trivial
theorem PySem.W.Fast.tw5233887459137384874 : True := trivial
theorem PySem.W.Fast.tw17349299542060994671 : True := trivial
theorem PySem.W.Fast.tw13814956436043169300 : True := trivial
theorem PySem.W.Fast.tw15338084020718038283 : True := trivial
theorem PySem.W.Fast.tw1697859287390808674 : True := trivial
set_option maxRecDepth 100000 in
set_option maxHeartbeats 0 in
theorem PySem.Challenge.cw_bitfloor_k75_opened_nets_holds : PySem.Challenge.rw_bitfloor_k75_opened_nets.Holds := by
  w_on; o_law; k_head; (case hw => w_witness2)
  k_fill
  refine L2.walk_ofK (l := PySem.Challenge.rw_bitfloor_k75_opened_nets) (n := 63) (k := 9) (x := "_law_script") (CX := L2.CX0) (sp := B17.spLaw) rfl (by decide) rfl ⟨rfl, by decide, by decide⟩ (fun w h Y => PySem.W.kIn_of Y) ?F ?S ?C
  case F =>
    intro w mg fa h KX G hmg
    refine' B17.all_mk KX G hmg ?aT ?aN ?aR ?a0 ?l0 ?c0 ?k0 ?a1 ?l1 ?c1 ?k1 ?a2 ?l2 ?c2 ?k2 ?a3 ?l3 ?c3 ?k3 ?a4 ?l4 ?c4 ?k4 ?a5 ?l5 ?c5 ?k5 ?a6 ?l6 ?c6 ?k6 ?a7 ?l7 ?c7 ?k7 ?a8 ?l8 ?c8 ?k8 ?a9 ?l9 ?c9 ?k9 ?a10 ?l10 ?c10 ?k10 ?a11 ?l11 ?c11 ?k11 ?a12 ?l12 ?c12 ?k12 ?a13 ?l13 ?c13 ?k13 ?a14 ?l14 ?c14 ?k14 ?a15 ?l15 ?c15 ?k15 ?a16 ?l16 ?c16 ?k16 ?a17 ?l17 ?c17 ?k17 ?a18 ?l18 ?c18 ?k18 ?a19 ?l19 ?c19 ?k19 ?a20 ?l20 ?c20 ?k20 ?a21 ?l21 ?c21 ?k21 ?i21 ?a22 ?l22 ?c22 ?k22 ?i22 ?a23 ?l23 ?c23 ?k23 ?i23 ?a24 ?l24 ?c24 ?k24 ?i24 ?a25 ?l25 ?c25 ?k25 ?i25 ?a26 ?l26 ?c26 ?k26 ?i26 ?pgT ?hdT ?poT ?saT ?mkT ?kcT ?pgN ?hdN ?poN ?saN ?mkN ?kcN ?pgR ?hdR ?poR ?saR ?mkR ?kcR ?nT_ins ?nT_tables ?nT_keeps ?nT_outs ?nN_gates ?nN_outs ?nR_gates ?nR_constants ?z_len ?z_range ?z_int ?z_str ?z_isinstance ?z_zip ?z_list ?z_tuple ?z_dict ?z_bool ?z_all ?z_enumerate ?xcl ?xsg ?xtk ?xmo ?wN ?mf (B17.forms_mk ?lf ?he ?hx ?ns) B17.forms_F
    (case aT => k_is)
    (case aN => k_is)
    (case aR => k_is)
    (case a0 => k_is)
    (case l0 => k_is)
    (case c0 => k_is)
    (case k0 => k_is)
    (case a1 => k_is)
    (case l1 => k_is)
    (case c1 => k_is)
    (case k1 => k_is)
    (case a2 => k_is)
    (case l2 => k_is)
    (case c2 => k_is)
    (case k2 => k_is)
    (case a3 => k_is)
    (case l3 => k_is)
    (case c3 => k_is)
    (case k3 => k_is)
    (case a4 => k_is)
    (case l4 => k_is)
    (case c4 => k_is)
    (case k4 => k_is)
    (case a5 => k_is)
    (case l5 => k_is)
    (case c5 => k_is)
    (case k5 => k_is)
    (case a6 => k_is)
    (case l6 => k_is)
    (case c6 => k_is)
    (case k6 => k_is)
    (case a7 => k_is)
    (case l7 => k_is)
    (case c7 => k_is)
    (case k7 => k_is)
    (case a8 => k_is)
    (case l8 => k_is)
    (case c8 => k_is)
    (case k8 => k_is)
    (case a9 => k_is)
    (case l9 => k_is)
    (case c9 => k_is)
    (case k9 => k_is)
    (case a10 => k_is)
    (case l10 => k_is)
    (case c10 => k_is)
    (case k10 => k_is)
    (case a11 => k_is)
    (case l11 => k_is)
    (case c11 => k_is)
    (case k11 => k_is)
    (case a12 => k_is)
    (case l12 => k_is)
    (case c12 => k_is)
    (case k12 => k_is)
    (case a13 => k_is)
    (case l13 => k_is)
    (case c13 => k_is)
    (case k13 => k_is)
    (case a14 => k_is)
    (case l14 => k_is)
    (case c14 => k_is)
    (case k14 => k_is)
    (case a15 => k_is)
    (case l15 => k_is)
    (case c15 => k_is)
    (case k15 => k_is)
    (case a16 => k_is)
    (case l16 => k_is)
    (case c16 => k_is)
    (case k16 => k_is)
    (case a17 => k_is)
    (case l17 => k_is)
    (case c17 => k_is)
    (case k17 => k_is)
    (case a18 => k_is)
    (case l18 => k_is)
    (case c18 => k_is)
    (case k18 => k_is)
    (case a19 => k_is)
    (case l19 => k_is)
    (case c19 => k_is)
    (case k19 => k_is)
    (case a20 => k_is)
    (case l20 => k_is)
    (case c20 => k_is)
    (case k20 => k_is)
    (case a21 => k_is)
    (case l21 => k_is)
    (case c21 => k_is)
    (case k21 => k_is)
    (case i21 => k_is)
    (case a22 => k_is)
    (case l22 => k_is)
    (case c22 => k_is)
    (case k22 => k_is)
    (case i22 => k_is)
    (case a23 => k_is)
    (case l23 => k_is)
    (case c23 => k_is)
    (case k23 => k_is)
    (case i23 => k_is)
    (case a24 => k_is)
    (case l24 => k_is)
    (case c24 => k_is)
    (case k24 => k_is)
    (case i24 => k_is)
    (case a25 => k_is)
    (case l25 => k_is)
    (case c25 => k_is)
    (case k25 => k_is)
    (case i25 => k_is)
    (case a26 => k_is)
    (case l26 => k_is)
    (case c26 => k_is)
    (case k26 => k_is)
    (case i26 => k_is)
    (case pgT => k_is)
    (case hdT => k_is)
    (case poT => k_is)
    (case saT => k_is)
    (case mkT => k_is)
    (case kcT => k_is)
    (case pgN => k_is)
    (case hdN => k_is)
    (case poN => k_is)
    (case saN => k_is)
    (case mkN => k_is)
    (case kcN => k_is)
    (case pgR => k_is)
    (case hdR => k_is)
    (case poR => k_is)
    (case saR => k_is)
    (case mkR => k_is)
    (case kcR => k_is)
    (case nT_ins => k_is)
    (case nT_tables => k_is)
    (case nT_keeps => k_is)
    (case nT_outs => k_is)
    (case nN_gates => k_is)
    (case nN_outs => k_is)
    (case nR_gates => k_is)
    (case nR_constants => k_is)
    (case z_len => k_is)
    (case z_range => k_is)
    (case z_int => k_is)
    (case z_str => k_is)
    (case z_isinstance => k_is)
    (case z_zip => k_is)
    (case z_list => k_is)
    (case z_tuple => k_is)
    (case z_dict => k_is)
    (case z_bool => k_is)
    (case z_all => k_is)
    (case z_enumerate => k_is)
    (case xcl => k_is)
    (case xsg => k_is)
    (case xtk => k_is)
    (case xmo => k_is)
    (case wN => kit_is)
    (case mf => k_is)
    (case lf => k_is)
    (case he => rfl)
    (case hx => exact ⟨rfl, rfl, rfl⟩)
    (case ns => rfl)
  case S => exact fun K H a ns hl hO hS => ⟨a, ns, rfl, L2.Scr.of hS hl hO, fun _ => rfl⟩
  case C => exact fun _ _ _ _ z => z
