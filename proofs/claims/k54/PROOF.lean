import PyProof.Rows.All
import Wide.All
import OpenK.AllK
import Wide.FinOn
import Lean
import PyProof.EqAt
import PyProof.EqKinds
import PyProof.TupleCall
import PyProof.AttrMiss
import PyProof.ConsumeWalk
import KE.KDictOf
import OpenK.KOwn
import PyProof.NsDelKeeps
import KE.KIsAll
import PyProof.Rows.SumAny
import PyProof.NeKinds
import PyProof.SeqI3
import KE.KRevIter
import KE.KSortTup
import PyProof.DictIter
import KE.KDictList
import PyProof.TupleOfGen
import PySem.Challenge.RW_bitfloor_k54_wires_of_a_way
import KE.RegKIsAll
set_option Elab.async false
set_option linter.all false
set_option maxRecDepth 100000
namespace L2
open PySem PySem.Spec PyProof.Rows
abbrev Key := Sum Int Str
def keyIs : Key → Value → Bool
  | .inl k, v => Value.isInt k v
  | .inr x, v => Value.isStrOf x v
def keyH (w : World) : Key → Int
  | .inl k => hashInt k
  | .inr x => hashStr w x
theorem keyIs_shape : ∀ {k : Key} {v : Value}, keyIs k v = true → (∃ i t, k = Sum.inl i ∧ v = Value.int i t) ∨ (∃ x t, k = Sum.inr x ∧ v = Value.str x t)
  | .inl i, v, h => by
    obtain ⟨t, e⟩ := Value.isInt_shape (k := i) (v := v) h
    exact .inl ⟨i, t, rfl, e⟩
  | .inr x, v, h => by
    obtain ⟨t, e⟩ := Value.isStrOf_shape (x := x) (v := v) h
    exact .inr ⟨x, t, rfl, e⟩
theorem keyIs_int (i : Int) (t : Tok) : keyIs (.inl i) (.int i t) = true := by simp [keyIs, Value.isInt]
theorem keyIs_str (x : Str) (t : Tok) : keyIs (.inr x) (.str x t) = true := by simp [keyIs, Value.isStrOf]
theorem key_ll (a b : Int) : decide ((Sum.inl a : Key) = Sum.inl b) = (a == b) := by
  by_cases e : a = b
  · subst e; simp
  · have h : ¬ (Sum.inl a : Key) = Sum.inl b := fun q => e (Sum.inl.inj q)
    rw [decide_eq_false h]
    exact (beq_eq_false_iff_ne.mpr e).symm
theorem key_rr (a b : Str) : decide ((Sum.inr a : Key) = Sum.inr b) = decide (a = b) := by
  by_cases e : a = b
  · subst e; simp
  · have h : ¬ (Sum.inr a : Key) = Sum.inr b := fun q => e (Sum.inr.inj q)
    rw [decide_eq_false h, decide_eq_false e]
theorem key_lr (a : Int) (b : Str) : decide ((Sum.inl a : Key) = Sum.inr b) = false := decide_eq_false (fun q => nomatch q)
theorem key_rl (a : Str) (b : Int) : decide ((Sum.inr a : Key) = Sum.inl b) = false := decide_eq_false (fun q => nomatch q)
def mixKind (prog : Program) (w : World) : PySem.KeyKind prog w Key where
  is := keyIs
  hash := keyH w
  inj := fun v a b ha hb => by
    rcases keyIs_shape ha with ⟨i, t, rfl, rfl⟩ | ⟨x, t, rfl, rfl⟩
    · rcases keyIs_shape hb with ⟨j, u, rfl, e⟩ | ⟨y, u, rfl, e⟩
      · injection e with e1 _; rw [e1]
      · exact nomatch e
    · rcases keyIs_shape hb with ⟨j, u, rfl, e⟩ | ⟨y, u, rfl, e⟩
      · exact nomatch e
      · injection e with e1 _; rw [e1]
  byValue := fun k v h => by
    rcases keyIs_shape h with ⟨i, t, rfl, rfl⟩ | ⟨x, t, rfl, rfl⟩ <;> rfl
  pyHash := fun hv h => by
    rcases keyIs_shape hv with ⟨i, t, rfl, rfl⟩ | ⟨x, t, rfl, rfl⟩
    · exact wpAny_pyHash_int h
    · exact wpAny_pyHash_str h
  eqBool := fun hu hv h => by
    rcases keyIs_shape hu with ⟨i, t, rfl, rfl⟩ | ⟨x, t, rfl, rfl⟩
    · rcases keyIs_shape hv with ⟨j, u, rfl, rfl⟩ | ⟨y, u, rfl, rfl⟩
      · rw [key_ll] at h; exact wpAny_eqBool_int h
      · rw [key_lr] at h; exact SeqAt.EqAt.int_str i t y u _ _ _ _ h
    · rcases keyIs_shape hv with ⟨j, u, rfl, rfl⟩ | ⟨y, u, rfl, rfl⟩
      · rw [key_rl] at h; exact SeqAt.EqAt.str_int x t j u _ _ _ _ h
      · rw [key_rr] at h; exact wpAny_eqBool_str h
  «strs» := fun k x t v h => by
    rcases keyIs_shape h with ⟨i, u, rfl, e⟩ | ⟨y, u, rfl, e⟩
    · exact nomatch e
    · injection e with e1 _
      subst e1
      cases v <;> rfl
theorem mixKind_int (prog : Program) (w : World) (i : Int) (t : Tok) : (mixKind prog w).is (.inl i) (.int i t) = true := keyIs_int i t
theorem mixKind_str (prog : Program) (w : World) (x : Str) (t : Tok) : (mixKind prog w).is (.inr x) (.str x t) = true := keyIs_str x t
end L2
namespace L2
open PySem PySem.Spec PyProof.Rows
inductive V where
  | non | bl (b : Bool) | int (i : Int) | str (x : Str) | byt (b : Array UInt8) | flt (b : UInt64) | ref (a : Addr) | ty (n : String)
  deriving DecidableEq
def RelV : V → Value → Prop
  | .non, u => u = Value.none
  | .bl b, u => u = Value.bool b
  | .int i, u => ∃ t, u = Value.int i t
  | .str x, u => ∃ t, u = Value.str x t
  | .byt b, u => ∃ t, u = Value.bytes b t
  | .flt b, u => ∃ t, u = Value.float b t
  | .ref a, u => u = Value.ref a
  | .ty n, u => u = Value.type n
abbrev Vals : List V → List Value → Prop := Paired RelV
theorem Vals.length {xs : List V} {us : List Value} (r : Vals xs us) : xs.length = us.length := Paired.length r
theorem Vals.get : ∀ {xs : List V} {us : List Value} {i : Nat} {x : V}, Vals xs us → xs[i]? = some x → ∃ u, us[i]? = some u ∧ RelV x u
  | _, _, _, _, .nil, e => by simp at e
  | _, _, 0, _, .cons r _, e => by simp at e; subst e; exact ⟨_, rfl, r⟩
  | _, _, i + 1, x, .cons _ t, e => by
    obtain ⟨u, h1, h2⟩ := Vals.get (i := i) (x := x) t (by simpa using e)
    exact ⟨u, by simpa using h1, h2⟩
theorem Vals.set {x : V} {u : Value} (r : RelV x u) : ∀ {xs : List V} {us : List Value} (i : Nat), Vals xs us → Vals (xs.set i x) (us.set i u)
  | _, _, _, .nil => .nil
  | _, _, 0, .cons _ t => .cons r t
  | _, _, i + 1, .cons q t => .cons q (Vals.set r i t)
theorem Vals.append : ∀ {xs ys : List V} {us ws : List Value}, Vals xs us → Vals ys ws → Vals (xs ++ ys) (us ++ ws)
  | _, _, _, _, .nil, s => s
  | _, _, _, _, .cons r t, s => .cons r (Vals.append t s)
def RelO : Option V → Option Value → Prop
  | some v, some u => RelV v u
  | none, none => True
  | _, _ => False
def KV {κ : Type} : List (κ × V) → List (κ × Value) → Prop := Paired fun (p : κ × V) (q : κ × Value) => p.1 = q.1 ∧ RelV p.2 q.2
def kV : Key → V
  | .inl i => .int i
  | .inr x => .str x
inductive HO where
  | lst (xs : List V)
  | tup (xs : List V)
  | dK (kvs : List (Key × V)) | dT (kvs : List (List Key × V))
  | set (S : Int → Bool) (n : Nat)
  | ins (C dx : Addr) (fs : List (Str × V))
  | own (x : Addr)
  | xd (fs : List (Str × V))
  | met (f x : Addr)
  | rng (lo hi : Int)
  | frz (o : Obj) (u : HO)
  | tbl (ps : Array Value)
  | ext (φ : Heap → Prop)
abbrev Hp := Addr → Option HO
def upd (H : Hp) (a : Addr) (o : HO) : Hp := fun b => if b = a then some o else H b
theorem upd_same {H : Hp} {a : Addr} {o : HO} : upd H a o a = some o := by unfold upd; rw [if_pos rfl]
theorem upd_ne {H : Hp} {a b : Addr} {o : HO} (h : b ≠ a) : upd H a o b = H b := by unfold upd; rw [if_neg h]
theorem ne_of {H : Hp} {a b : Addr} {o u : HO} (h : H a = some o) (h' : H b = some u) (d : o ≠ u) : a ≠ b := by
  intro e; subst e; rw [h] at h'; exact d (Option.some.inj h')
theorem ne_of_none {H : Hp} {a b : Addr} {o : HO} (h : H a = some o) (h' : H b = none) : a ≠ b := by
  intro e; subst e; rw [h] at h'; cases h'
section
variable (P : Program) (w : World)
def ObjOk (H : Hp) (h : Heap) (a : Addr) : HO → Prop
  | .lst xs => xs.length ≤ sizeLine ∧ ∃ (its : List Value) (n : Nat), Vals xs its ∧ h.get? a = some { cls := .type "list", data := .seq its.toArray n }
  | .tup xs => xs.length ≤ sizeLine ∧ ∃ its : List Value, Vals xs its ∧ IsTup h a its.toArray
  | .dK kvs => kvs.length ≤ sizeLine ∧ (a == sysModules) = false ∧ ∃ vs, KV kvs vs ∧ h.DictOf (mixKind P w) a vs
  | .dT kvs => kvs.length ≤ sizeLine ∧ (a == sysModules) = false ∧ ∃ xs : List (List Key × Addr × Value),
      Paired (fun (p : List Key × V) (q : List Key × Addr × Value) => p.1 = q.1 ∧ H q.2.1 = some (.tup (p.1.map kV)) ∧ RelV p.2 q.2.2) kvs xs ∧
      ∃ o es ep, h.get? a = some o ∧ o.ExactDict ∧ o.data = .dict es ep ∧ es.toList = xs.map (entryOfKey (tupleKind (mixKind P w))) ∧ (xs.map (·.1)).Nodup
  | .set S n => h.SetOf (intKind P w) a S n
  | .ins C dx fs => H dx = some (.own a) ∧ fs.length ≤ 1000 ∧ dx ≠ a ∧ h.get? a = some (PySem.W.instObj C dx) ∧
      ∃ mA, h.Ns1 dx mA ∧ (∀ f, RelO (fs.lookup f) (mA f)) ∧ PySem.Within mA (fs.map (·.1))
  | .own _ => ∃ o, h.get? a = some o
  | .xd fs => ∃ mA, h.Ns1 a mA ∧ ∀ f, RelO (fs.lookup f) (mA f)
  | .rng lo hi => ∃ t u v, h.get? a = some { cls := .type "range", data := .fields #[.int lo t, .int hi u, .int 1 v] }
  | .frz o u => h.get? a = some o ∧ ObjOk H h a u
  | .tbl ps => h.get? a = some { cls := .none, data := .fields ps }
  | .met f x => h.get? a = some (PySem.W.methodObj (.ref f) (.ref x))
  | .ext φ => φ h ∧ (∃ o, h.get? a = some o) ∧ ∀ h1 h2 : Heap, φ h1 → (∀ o, h1.get? a = some o → h2.get? a = some o) → φ h2
def HOk (H : Hp) (h : Heap) : Prop := ∀ a o, H a = some o → ObjOk P w H h a o
end
section
variable {P : Program} {w : World} {H H' : Hp} {h h' : Heap} {a : Addr} {o : HO}
theorem ObjOk.lt (x : ObjOk P w H h a o) : a < h.objs.size := by
  cases o with
  | lst xs => obtain ⟨_, _, _, _, e⟩ := x; exact Heap.lt_size e
  | tup xs => obtain ⟨_, _, _, p⟩ := x; exact p.lt
  | dK kvs => obtain ⟨_, _, _, _, o, _, _, e, _⟩ := x; exact Heap.lt_size e
  | dT kvs => obtain ⟨_, _, _, _, o, _, _, e, _⟩ := x; exact Heap.lt_size e
  | set S n => obtain ⟨o, _, _, _, e, _⟩ := x; exact Heap.lt_size e
  | ins C dx fs => obtain ⟨_, _, _, e, _⟩ := x; exact Heap.lt_size e
  | own y => obtain ⟨_, e⟩ := x; exact Heap.lt_size e
  | xd fs => obtain ⟨_, ⟨_, _, _, e, _⟩, _⟩ := x; exact Heap.lt_size e
  | rng lo hi => obtain ⟨_, _, _, e⟩ := x; exact Heap.lt_size e
  | frz ob u => obtain ⟨e, _⟩ := x; exact Heap.lt_size e
  | tbl ps => exact Heap.lt_size (show h.get? a = some _ from x)
  | met f y => exact Heap.lt_size (show h.get? a = some _ from x)
  | ext φ => obtain ⟨_, ⟨_, e⟩, _⟩ := x; exact Heap.lt_size e
theorem Paired.mapP {α β : Type} {F G : α → β → Prop} : ∀ {l₁ : List α} {l₂ : List β}, Paired F l₁ l₂ → (∀ a b, F a b → G a b) → Paired G l₁ l₂
  | _, _, .nil, _ => .nil
  | _, _, .cons r t, f => .cons (f _ _ r) (Paired.mapP t f)
theorem ObjOk.stay (x : ObjOk P w H h a o) (k : ∀ b u, (b = a ∨ H b = some (.own a)) → h.get? b = some u → h'.get? b = some u)
    (ho : ∀ b, H b = some (.own a) → H' b = some (.own a)) (ht : ∀ b xs, H b = some (.tup xs) → H' b = some (.tup xs)) : ObjOk P w H' h' a o := by
  induction o with
  | lst xs => obtain ⟨z, its, n, r, e⟩ := x; exact ⟨z, its, n, r, k _ _ (.inl rfl) e⟩
  | tup xs => obtain ⟨z, its, r, ob, e, c⟩ := x; exact ⟨z, its, r, ob, k _ _ (.inl rfl) e, c⟩
  | dK kvs => obtain ⟨z, y, vs, r, ob, es, ep, e, c⟩ := x; exact ⟨z, y, vs, r, ob, es, ep, k _ _ (.inl rfl) e, c⟩
  | dT kvs =>
    obtain ⟨z, y, xs, r, ob, es, ep, e, c⟩ := x
    exact ⟨z, y, xs, Paired.mapP r fun p q z => ⟨z.1, ht _ _ z.2.1, z.2.2⟩, ob, es, ep, k _ _ (.inl rfl) e, c⟩
  | set S n => obtain ⟨ob, es, ep, t, e, c⟩ := x; exact ⟨ob, es, ep, t, k _ _ (.inl rfl) e, c⟩
  | ins C dx fs =>
    obtain ⟨d, z, ne, e, mA, ⟨od, es, ep, e2, c⟩, r⟩ := x
    exact ⟨ho _ d, z, ne, k _ _ (.inl rfl) e, mA, ⟨od, es, ep, k _ _ (.inr d) e2, c⟩, r⟩
  | own y => obtain ⟨ob, e⟩ := x; exact ⟨ob, k _ _ (.inl rfl) e⟩
  | xd fs => obtain ⟨mA, ⟨od, es, ep, e, c⟩, r⟩ := x; exact ⟨mA, ⟨od, es, ep, k _ _ (.inl rfl) e, c⟩, r⟩
  | rng lo hi => obtain ⟨t, u, v, e⟩ := x; exact ⟨t, u, v, k _ _ (.inl rfl) e⟩
  | frz ob u ih => obtain ⟨e, q⟩ := x; exact ⟨k _ _ (.inl rfl) e, ih q⟩
  | tbl ps =>
    have e : h.get? a = some { cls := .none, data := .fields ps } := x
    show h'.get? a = some { cls := .none, data := .fields ps }
    exact k a _ (.inl rfl) e
  | met f y =>
    have e : h.get? a = some (PySem.W.methodObj (.ref f) (.ref y)) := x
    show h'.get? a = some (PySem.W.methodObj (.ref f) (.ref y))
    exact k a _ (.inl rfl) e
  | ext φ => obtain ⟨p, ⟨o, e⟩, st⟩ := x; exact ⟨st _ _ p fun o q => k _ _ (.inl rfl) q, ⟨o, k _ _ (.inl rfl) e⟩, st⟩
theorem HOk.lt (x : HOk P w H h) (e : H a = some o) : a < h.objs.size := (x a o e).lt
theorem HOk.fresh (x : HOk P w H h) (e : h.objs.size ≤ a) : H a = none := by
  cases q : H a with
  | none => rfl
  | some u => exact absurd (Nat.lt_of_lt_of_le (x.lt q) e) (Nat.lt_irrefl _)
theorem HOk.kept (x : HOk P w H h) (k : ∀ b u, h.get? b = some u → h'.get? b = some u) : HOk P w H h' := fun a o e =>
  (x a o e).stay (fun b u _ q => k b u q) (fun _ q => q) fun _ _ q => q
theorem HOk.laid (x : HOk P w H h) (k : ∀ b u, h.get? b = some u → h'.get? b = some u) (hp : h.objs.size ≤ a) (new : ObjOk P w (upd H a o) h' a o) : HOk P w (upd H a o) h' := fun b u e => by
  have hn := x.fresh hp
  by_cases hb : b = a
  · subst hb; rw [upd_same] at e; cases e; exact new
  · rw [upd_ne hb] at e
    exact (x b u e).stay (fun c v _ q => k c v q) (fun c q => by rw [upd_ne (ne_of_none q hn)]; exact q) fun c xs q => by rw [upd_ne (ne_of_none q hn)]; exact q
end
def Rd (H : Hp) (a : Addr) (u : HO) : Prop := H a = some u ∨ ∃ o, H a = some (.frz o u)
theorem Rd.ok {P : Program} {w : World} {H : Hp} {h : Heap} {a : Addr} {u : HO} (r : Rd H a u) (x : HOk P w H h) : ObjOk P w H h a u := by
  rcases r with r | ⟨o, r⟩
  · exact x a u r
  · obtain ⟨_, q⟩ := x a _ r
    exact q
def Mut : Option HO → Prop
  | some (.lst _) => True
  | some (.dK _) => True
  | some (.dT _) => True
  | some (.set _ _) => True
  | some (.ins _ _ _) => True
  | some (.ext _) => True
  | _ => False
section
variable {P : Program} {w : World} {H : Hp} {h h' : Heap} {x e : Addr} {o' : HO}
theorem HOk.write (ok : HOk P w H h) (mu : Mut (H x)) (he : e = x ∨ H e = some (.own x)) (k : ∀ b u, b ≠ e → h.get? b = some u → h'.get? b = some u) (heo : ∃ u, h'.get? e = some u)
    (new : ObjOk P w (upd H x o') h' x o') : HOk P w (upd H x o') h' := fun b u q => by
  have nown : ∀ c y, H c = some (.own y) → c ≠ x := fun c y r z => by subst z; rw [r] at mu; exact mu
  have ntup : ∀ c xs, H c = some (.tup xs) → c ≠ x := fun c xs r z => by subst z; rw [r] at mu; exact mu
  by_cases hb : b = x
  · subst hb; rw [upd_same] at q; cases q; exact new
  · rw [upd_ne hb] at q
    by_cases hbe : b = e
    · have q' : H b = some (.own x) := by
        rcases he with z | z
        · exact absurd (hbe.trans z) hb
        · rw [hbe]; exact z
      rw [q] at q'; cases q'
      obtain ⟨v, hv⟩ := heo
      exact ⟨v, by rw [hbe]; exact hv⟩
    · refine (ok b u q).stay (fun c v hc r => k c v ?_ r) (fun c r => by rw [upd_ne (nown c b r)]; exact r) fun c xs r => by rw [upd_ne (ntup c xs r)]; exact r
      rcases hc with rfl | hc
      · exact hbe
      · rintro rfl
        rcases he with z | z
        · exact nown c b hc z
        · rw [hc] at z; cases z; exact hb rfl
end
structure Un (fs ex : List Addr) (H H' : Hp) (h h' : Heap) : Prop where
  keep : ∀ b o, h.get? b = some o → H b = none → b ∉ fs → b ∉ ex → h'.get? b = some o
  slot : ∀ b o, h.get? b = some o → H b = none → b ∈ fs → b ∉ ex → ∃ sl, h'.get? b = some { o with slots := sl }
  free : ∀ b o, h.get? b = some o → H b = none → b ∉ ex → H' b = none
  there : ∀ b o, h.get? b = some o → b ∉ ex → ∃ o', h'.get? b = some o'
  tups : ∀ b xs, H b = some (.tup xs) → H' b = some (.tup xs)
  frzs : ∀ b o u, H b = some (.frz o u) → H' b = some (.frz o u)
  tbls : ∀ b ps, H b = some (.tbl ps) → ∃ more, H' b = some (.tbl (ps ++ more))
section
variable {fs fs' ex ex' : List Addr} {H H1 H2 : Hp} {h h1 h2 h' : Heap} {a x e : Addr} {o : HO}
theorem Un.any (u : Un fs ex H H1 h h1) {b : Addr} {ob : Obj} (q : h.get? b = some ob) (n : H b = none) (hx : b ∉ ex) : ∃ sl, h1.get? b = some { ob with slots := sl } := by
  by_cases hb : b ∈ fs
  · exact u.slot b ob q n hb hx
  · exact ⟨ob.slots, u.keep b ob q n hb hx⟩
theorem Un.kept (k : ∀ b u, h.get? b = some u → h'.get? b = some u) : Un fs ex H H h h' :=
  ⟨fun b ob q _ _ _ => k b ob q, fun b ob q _ _ _ => ⟨ob.slots, k b ob q⟩, fun _ _ _ n _ => n, fun b ob q _ => ⟨ob, k b ob q⟩, fun _ _ q => q, fun _ _ _ q => q, fun _ ps q => ⟨#[], by rw [q]; simp⟩⟩
theorem Un.refl : Un fs ex H H h h := Un.kept fun _ _ q => q
theorem Un.laid (k : ∀ b u, h.get? b = some u → h'.get? b = some u) (hp : h.objs.size ≤ a) (hn : H a = none) : Un fs ex H (upd H a o) h h' where
  keep := fun b u q _ _ _ => k b u q
  slot := fun b u q _ _ _ => ⟨u.slots, k b u q⟩
  free := fun b u q n _ => by rw [upd_ne (Nat.ne_of_lt (Nat.lt_of_lt_of_le (Heap.lt_size q) hp))]; exact n
  there := fun b u q _ => ⟨u, k b u q⟩
  tups := fun b xs q => by rw [upd_ne (ne_of_none q hn)]; exact q
  frzs := fun b u xs q => by rw [upd_ne (ne_of_none q hn)]; exact q
  tbls := fun b ps q => ⟨#[], by rw [upd_ne (ne_of_none q hn), q]; simp⟩
theorem Un.write (mu : Mut (H x)) (he : e = x ∨ H e = some (.own x)) (k : ∀ b u, b ≠ e → h.get? b = some u → h'.get? b = some u) (heo : ∃ u, h'.get? e = some u) : Un fs ex H (upd H x o) h h' := by
  have hx : ∀ b, H b = none → b ≠ x := fun b n z => by subst z; rw [n] at mu; exact mu
  have hb : ∀ b, H b = none → b ≠ e := fun b n z => by
    subst z
    rcases he with r | r
    · exact hx b n r
    · rw [n] at r; cases r
  have hm : ∀ b u, H b = some u → ¬ Mut (some u) → b ≠ x := fun b u q nm z => by subst z; rw [q] at mu; exact nm mu
  refine ⟨fun b u q n _ _ => k b u (hb b n) q, fun b u q n _ _ => ⟨u.slots, k b u (hb b n) q⟩, fun b u q n _ => by rw [upd_ne (hx b n)]; exact n, fun b u q _ => ?_,
    fun b xs q => by rw [upd_ne (hm b _ q fun z => z)]; exact q, fun b u xs q => by rw [upd_ne (hm b _ q fun z => z)]; exact q, fun b ps q => ⟨#[], by rw [upd_ne (hm b _ q fun z => z), q]; simp⟩⟩
  by_cases hbe : b = e
  · subst hbe; exact heo
  · exact ⟨u, k b u hbe q⟩
end
def trk (h : Heap) (H : Hp) : List Addr := (List.range h.objs.size).filter fun a => (H a).isSome
def hidT (h : Heap) (H : Hp) : Heap := PySem.W.hideAll h (trk h H)
theorem hidT_size (h : Heap) (H : Hp) : (hidT h H).objs.size = h.objs.size := PySem.W.hideAll_size _ _
theorem hidT_get {h : Heap} {H : Hp} {b : Addr} {o : Obj} (e : h.get? b = some o) (n : H b = none) : (hidT h H).get? b = some o :=
  PySem.W.hideAll_get _ e fun hm => by
    have q : (H b).isSome = true := (List.mem_filter.mp hm).2
    rw [n] at q; simp at q
theorem of_hidT {h : Heap} {H : Hp} {b : Addr} {o : Obj} (e : (hidT h H).get? b = some o) : h.get? b = some o ∧ H b = none := by
  have e' : h.get? b = some o := PySem.W.of_hideAll (trk h H) e
  refine ⟨e', ?_⟩
  cases q : H b with
  | none => rfl
  | some x =>
    have hm : b ∈ trk h H := List.mem_filter.mpr ⟨List.mem_range.mpr (Heap.lt_size e'), by simp [q]⟩
    have z : (hidT h H).get? b = none := PySem.W.hideAll_none (trk h H) hm
    rw [z] at e; cases e
def allNews (g h : Heap) (L : Addr) : List (Addr × Obj) := (List.range h.objs.size).filterMap fun a => if a = L ∨ (g.get? a).isSome = true then none else (h.get? a).map fun o => (a, o)
def rest (g h : Heap) (L d : Addr) : List (Addr × Obj) := (allNews g h L).filter fun p => decide (p.1 ≠ d)
end L2
namespace L2
open PySem PySem.Spec PyProof.Rows
structure Mod (K : PySem.W.Frag) (mg : Str → Option Value) (base : Heap) : Prop where
  kin : K.In base
  glob : base.Ns mainGlobals mg
  blt : ∃ mb, base.Ns builtinsNs mb ∧ ∀ x : Str, x ≠ "__name__" → mb x = bootBuiltins x
  nolimit : base.NoLimit
structure Cx where
  prog : Program
  w : World
  K : PySem.W.Frag
  mg : Str → Option Value
  base : Heap
  A : Around
  N : List Str
  s₀ : Shared
  H₀ : Hp
  env : Env
  outer : List Env
  stack : List Env
  ex : List Addr
  fn : Str → Bool
  calm : Bool
  pn : List (Addr × Obj)
  xe : Value → Shared → Prop
def frs (l : List Env) : List Addr := l.filterMap (·.frame)
abbrev Cx.fs (X : Cx) : List Addr := frs X.outer
def Vis (sc : Scope) (x : Str) : Prop := sc.names.lookup x = some .local ∨ sc.names.lookup x = some .cell ∨ sc.names.lookup x = some .free
def Loc (sc : Scope) (x : Str) : Prop := sc.names.lookup x = some .local ∨ sc.names.lookup x = some .cell
def Look (env : Env) (h : Heap) (m : Str → Option Value) (x : Str) (u : Value) : Prop :=
  (env.kindOf x = some .local ∧ m x = some u) ∨ ((env.kindOf x = some .cell ∨ env.kindOf x = some .free) ∧ ∃ c, env.cells.lookup x = some c ∧ h.IsCell c (some u))
structure Cx.Ok (X : Cx) : Prop where
  mod : Mod X.K X.mg X.base
  kind : X.env.scope.kind = .function
  glob : X.env.globals = mainGlobals
  blt : X.env.builtins = builtinsNs
  above : X.s₀.heap.objs.size ≤ X.env.locals
  inj : ∀ x y c, X.env.cells.lookup x = some c → X.env.cells.lookup y = some c → x = y
  has : ∀ x, (X.env.kindOf x = some .cell ∨ X.env.kindOf x = some .free) → ∃ c, X.env.cells.lookup x = some c
  cab : ∀ x c, X.fn x = true → X.env.cells.lookup x = some c → X.s₀.heap.objs.size ≤ c
  hd : X.calm = true → X.A.handled = none
  frames : X.A.frames = some X.stack
  stk : X.stack = X.outer ∨ (X.stack = X.env :: X.outer ∧ X.env.frame = some X.env.locals)
  exf : ∀ b ∈ X.ex, b ≠ X.env.locals ∧ ∀ x c, X.env.cells.lookup x = some c → c ≠ b
  bs : ∀ b o, X.base.get? b = some o → X.s₀.heap.get? b = some o ∧ X.H₀ b = none
  bsz : X.base.objs.size ≤ X.s₀.heap.objs.size
  noex : ∀ b o, X.base.get? b = some o → b ∉ X.ex
  exfs : ∀ b ∈ X.ex, b ∉ X.fs
  funs : X.s₀.heap.FunFrames X.base X.outer
  frf : ∀ b ∈ X.fs, X.H₀ b = none
structure Inv (X : Cx) (pins : List (Addr × Obj)) (σ : List (Option V)) (H : Hp) (s : Shared) : Prop where
  ok : X.Ok
  os : s.os = X.s₀.os
  bare : AllBare s.gens
  base : Un X.fs X.ex X.H₀ H X.s₀.heap s.heap
  loc : ∃ m, s.heap.Ns X.env.locals m ∧ ∀ (i : Nat) (x : Str) (v : V), X.N[i]? = some x → σ[i]? = some (some v) → Vis X.env.scope x → ∃ u, RelV v u ∧ Look X.env s.heap m x u
  cell : ∀ x c, X.env.cells.lookup x = some c → ∃ v, s.heap.IsCell c v
  free : H X.env.locals = none
  freeC : ∀ x c, X.env.cells.lookup x = some c → H c = none
  pin : ∀ p ∈ X.pn ++ pins, s.heap.get? p.1 = some p.2 ∧ H p.1 = none ∧ p.1 ≠ X.env.locals ∧ p.1 ∉ X.fs ∧ ∀ v, p.2.data ≠ .cell v
  hok : HOk X.prog X.w H s.heap
  len : σ.length = X.N.length
section
variable {X : Cx} {pins : List (Addr × Obj)} {σ : List (Option V)} {H H' : Hp} {s : Shared} {h' : Heap}
theorem Cx.Ok.nofr (ok : X.Ok) {b : Addr} {o : Obj} (e : X.base.get? b = some o) : b ∉ X.fs := fun hb => by
  have := (ok.funs.mem hb).1
  rw [e] at this; cases this
theorem Inv.bs (I : Inv X pins σ H s) : ∀ b o, X.base.get? b = some o → s.heap.get? b = some o ∧ H b = none := fun b o e =>
  ⟨I.base.keep b o (I.ok.bs b o e).1 (I.ok.bs b o e).2 (I.ok.nofr e) (I.ok.noex b o e), I.base.free b o (I.ok.bs b o e).1 (I.ok.bs b o e).2 (I.ok.noex b o e)⟩
theorem Inv.bk (I : Inv X pins σ H s) : ∀ b o, X.base.get? b = some o → s.heap.get? b = some o := fun b o e => (I.bs b o e).1
theorem Inv.mod (I : Inv X pins σ H s) : Mod X.K X.mg X.base := I.ok.mod
theorem Inv.kIn (I : Inv X pins σ H s) : X.K.In s.heap := I.ok.mod.kin.keeps I.bk
theorem Inv.lt (I : Inv X pins σ H s) : X.env.locals < s.heap.objs.size := let ⟨_, hn, _⟩ := I.loc; hn.lt
theorem Inv.sz (I : Inv X pins σ H s) : X.s₀.heap.objs.size ≤ s.heap.objs.size := Nat.le_trans I.ok.above (Nat.le_of_lt I.lt)
theorem Inv.nofs (I : Inv X pins σ H s) {a : Addr} (h : s.heap.objs.size ≤ a) : a ∉ X.fs := fun hb => by
  obtain ⟨_, o, ho, _⟩ := I.ok.funs.mem hb
  exact absurd (Nat.lt_of_lt_of_le (Heap.lt_size ho) (Nat.le_trans I.sz h)) (Nat.lt_irrefl _)
theorem Inv.cne (I : Inv X pins σ H s) : ∀ x c, X.env.cells.lookup x = some c → c ≠ X.env.locals := fun x c e z => by
  obtain ⟨v, o, ho, hd⟩ := I.cell x c e
  obtain ⟨m, ⟨o', es, ep, ho', hd', _⟩, _⟩ := I.loc
  rw [z, ho'] at ho; cases ho; rw [hd'] at hd; cases hd
theorem Inv.funs (I : Inv X pins σ H s) : s.heap.FunFrames X.base X.outer := by
  have all : ∀ (l : List Env), (∀ b ∈ frs l, b ∈ X.fs) → X.s₀.heap.FunFrames X.base l → s.heap.FunFrames X.base l := by
    intro l
    induction l with
    | nil => intro _ _; trivial
    | cons env r ih =>
      intro hs hl
      obtain ⟨hk, ⟨L, o, hf, hn, ho, hd⟩, hr⟩ := hl
      have hL : L ∈ X.fs := hs L (by unfold frs; rw [List.filterMap_cons, hf]; exact List.mem_cons_self)
      obtain ⟨sl, e⟩ := I.base.slot L o ho (I.ok.frf L hL) hL fun z => I.ok.exfs L z hL
      exact ⟨hk, ⟨L, _, hf, hn, e, hd⟩, ih (fun b hb => hs b (by unfold frs; rw [List.filterMap_cons, hf]; exact List.mem_cons_of_mem _ hb)) hr⟩
  exact all X.outer (fun _ hb => hb) I.ok.funs
theorem Inv.stack (I : Inv X pins σ H s) : s.heap.FunFrames X.base X.stack := by
  rcases I.ok.stk with e | ⟨e, hf⟩
  · rw [e]; exact I.funs
  · rw [e]
    obtain ⟨m, hn, _⟩ := I.loc
    refine .cons (by rw [I.ok.kind]; decide) hf hn ?_ I.funs
    exact Heap.get?_none_of_le (Nat.le_trans I.ok.bsz I.ok.above)
theorem Inv.stkSub (I : Inv X pins σ H s) : ∀ b ∈ frs X.stack, b ∈ X.env.locals :: X.fs := fun b hb => by
  rcases I.ok.stk with e | ⟨e, hf⟩
  · rw [e] at hb; exact List.mem_cons_of_mem _ hb
  · rw [e] at hb
    unfold frs at hb
    rw [List.filterMap_cons, hf] at hb
    exact hb
theorem Inv.stkFree (I : Inv X pins σ H s) : ∀ b ∈ frs X.stack, H b = none := fun b hb => by
  rcases List.mem_cons.mp (I.stkSub b hb) with e | hb
  · rw [e]; exact I.free
  · obtain ⟨_, o, ho, _⟩ := I.ok.funs.mem hb
    exact I.base.free b o ho (I.ok.frf b hb) fun z => I.ok.exfs b z hb
theorem Inv.step {g' : Array GenState} {t' : Nat} {d' : Drawn} {ch : List Addr} (I : Inv X pins σ H s)
    (hch : ∀ b ∈ ch, (b ∈ X.ex ∨ X.s₀.heap.objs.size ≤ b) ∧ b ≠ X.env.locals ∧ (∀ x c, X.env.cells.lookup x = some c → c ≠ b) ∧ ∀ p ∈ X.pn ++ pins, p.1 ≠ b)
    (keep : ∀ b o, b ≠ X.env.locals → b ∉ X.fs → b ∉ ch → s.heap.get? b = some o → H b = none → h'.get? b = some o)
    (slot : ∀ b o, b ≠ X.env.locals → b ∈ X.fs → b ∉ ch → s.heap.get? b = some o → H b = none → ∃ sl, h'.get? b = some { o with slots := sl }) (free : ∀ b o, b ∉ ch → s.heap.get? b = some o → H b = none → H' b = none)
    (there : ∀ b o, b ∉ ch → s.heap.get? b = some o → ∃ o', h'.get? b = some o')
    (tups : ∀ b xs, H b = some (.tup xs) → H' b = some (.tup xs)) (frzs : ∀ b o u, H b = some (.frz o u) → H' b = some (.frz o u)) (tbls : ∀ b ps, H b = some (.tbl ps) → ∃ more, H' b = some (.tbl (ps ++ more)))
    (ns : ∀ m, s.heap.Ns X.env.locals m → h'.Ns X.env.locals m) (hok : HOk X.prog X.w H' h') (hg : AllBare g') :
    Inv X pins σ H' { s with heap := h', gens := g', drawn := d', toks := t' } := by
  have neL : ∀ b o, X.s₀.heap.get? b = some o → b ≠ X.env.locals := fun b o e => Nat.ne_of_lt (Nat.lt_of_lt_of_le (Heap.lt_size e) I.ok.above)
  have neC : ∀ b o, X.s₀.heap.get? b = some o → b ∉ X.ex → b ∉ ch := fun b o e hx hb => by
    rcases (hch b hb).1 with z | z
    · exact hx z
    · exact absurd (Nat.lt_of_lt_of_le (Heap.lt_size e) z) (Nat.lt_irrefl _)
  have cellK : ∀ x c, X.env.cells.lookup x = some c → ∀ v, s.heap.IsCell c v → h'.IsCell c v := fun x c e v ⟨o, ho, hd⟩ => by
    have nch : c ∉ ch := fun z => (hch c z).2.2.1 x c e rfl
    by_cases hc : c ∈ X.fs
    · obtain ⟨sl, q⟩ := slot c o (I.cne x c e) hc nch ho (I.freeC x c e)
      exact ⟨_, q, hd⟩
    · exact ⟨o, keep c o (I.cne x c e) hc nch ho (I.freeC x c e), hd⟩
  refine ⟨I.ok, I.os, hg, ⟨fun b o e n hb hx => ?_, fun b o e n hb hx => ?_, fun b o e n hx => ?_, fun b o e hx => ?_, fun b xs e => tups b xs (I.base.tups b xs e), fun b o xs e => frzs b o xs (I.base.frzs b o xs e), fun b ps e => ?_⟩, ?_, fun x c e => ?_, ?_, fun x c e => ?_, fun p hp => ?_, hok, I.len⟩
  · exact keep b o (neL b o e) hb (neC b o e hx) (I.base.keep b o e n hb hx) (I.base.free b o e n hx)
  · obtain ⟨sl, e1⟩ := I.base.slot b o e n hb hx
    obtain ⟨sl', e2⟩ := slot b _ (neL b o e) hb (neC b o e hx) e1 (I.base.free b o e n hx)
    exact ⟨sl', e2⟩
  · obtain ⟨o', e1⟩ := I.base.there b o e hx
    exact free b o' (neC b o e hx) e1 (I.base.free b o e n hx)
  · obtain ⟨o', e1⟩ := I.base.there b o e hx
    exact there b o' (neC b o e hx) e1
  · obtain ⟨m1, e1⟩ := I.base.tbls b ps e
    obtain ⟨m2, e2⟩ := tbls b _ e1
    exact ⟨m1 ++ m2, by rw [e2, Array.append_assoc]⟩
  · obtain ⟨m, hn, hl⟩ := I.loc
    refine ⟨m, ns m hn, fun i x v e1 e2 e3 => ?_⟩
    obtain ⟨u, r, l⟩ := hl i x v e1 e2 e3
    refine ⟨u, r, ?_⟩
    rcases l with l | ⟨k, c, e, z⟩
    · exact .inl l
    · exact .inr ⟨k, c, e, cellK x c e _ z⟩
  · obtain ⟨v, z⟩ := I.cell x c e
    exact ⟨v, cellK x c e v z⟩
  · obtain ⟨m, ⟨o, _, _, ho, _⟩, _⟩ := I.loc
    exact free _ o (fun z => (hch _ z).2.1 rfl) ho I.free
  · obtain ⟨v, o, ho, hd⟩ := I.cell x c e
    exact free c o (fun z => (hch c z).2.2.1 x c e rfl) ho (I.freeC x c e)
  · obtain ⟨e, n, ne, nf, d⟩ := I.pin p hp
    have nch : p.1 ∉ ch := fun z => (hch p.1 z).2.2.2 p hp rfl
    exact ⟨keep p.1 p.2 ne nf nch e n, free p.1 p.2 nch e n, ne, nf, d⟩
theorem Inv.un {t' : Nat} (I : Inv X pins σ H s) (u : Un X.fs [] H H' s.heap h') (hok : HOk X.prog X.w H' h') : Inv X pins σ H' { s with heap := h', toks := t' } := by
  obtain ⟨m, ⟨o, es, ep, ho, r⟩, _⟩ := id I.loc
  obtain ⟨sl, hL⟩ := u.any ho I.free (by simp)
  exact I.step (g' := s.gens) (d' := s.drawn) (ch := []) (fun _ z => nomatch z) (fun b o _ hb _ e n => u.keep b o e n hb (by simp)) (fun b o _ hb _ e n => u.slot b o e n hb (by simp)) (fun b o _ e n => u.free b o e n (by simp)) (fun b o _ e => u.there b o e (by simp)) u.tups u.frzs u.tbls (fun m' hm => by
    obtain ⟨o', es', ep', ho', r'⟩ := hm
    rw [ho] at ho'; cases ho'
    exact ⟨_, es', ep', hL, r'⟩) hok I.bare
theorem Inv.call {g' : Array GenState} {t' : Nat} {d' : Drawn} {ch : List Addr} (I : Inv X pins σ H s) (u : Un (frs X.stack) ch H H' s.heap h') (hok : HOk X.prog X.w H' h') (hg : AllBare g')
    (hch : ∀ b ∈ ch, (b ∈ X.ex ∨ X.s₀.heap.objs.size ≤ b) ∧ b ≠ X.env.locals ∧ (∀ x c, X.env.cells.lookup x = some c → c ≠ b) ∧ ∀ p ∈ X.pn ++ pins, p.1 ≠ b) :
    Inv X pins σ H' { s with heap := h', gens := g', drawn := d', toks := t' } := by
  obtain ⟨m, ⟨o, es, ep, ho, r⟩, _⟩ := id I.loc
  obtain ⟨sl, hL⟩ := u.any ho I.free fun z => (hch _ z).2.1 rfl
  exact I.step (ch := ch) hch (fun b o hL hb hc e n => u.keep b o e n (fun z => (List.mem_cons.mp (I.stkSub b z)).elim hL hb) hc) (fun b o _ _ hc e n => u.any e n hc) (fun b o hc e n => u.free b o e n hc) (fun b o hc e => u.there b o e hc) u.tups u.frzs u.tbls (fun m' hm => by
    obtain ⟨o', es', ep', ho', r'⟩ := hm
    rw [ho] at ho'; cases ho'
    exact ⟨_, es', ep', hL, r'⟩) hok hg
theorem Inv.turned {t' : Nat} {it : Addr} (I : Inv X pins σ H s) (k : ∀ b o, b ≠ it → s.heap.get? b = some o → h'.get? b = some o) (hn : H it = none) (hL : it ≠ X.env.locals)
    (h1 : it ∈ X.ex ∨ X.s₀.heap.objs.size ≤ it) (h2 : ∀ x c, X.env.cells.lookup x = some c → c ≠ it) (h3 : ∀ p ∈ X.pn ++ pins, p.1 ≠ it) : Inv X pins σ H { s with heap := h', toks := t' } := by
  have nit : ∀ b u, H b = some u → b ≠ it := fun b u e z => by rw [z, hn] at e; cases e
  refine I.step (g' := s.gens) (d' := s.drawn) (ch := [it]) (fun b hb => ?_) (fun b o _ _ hc e _ => k b o (fun z => hc (by simp [z])) e) (fun b o _ _ hc e _ => ⟨o.slots, k b o (fun z => hc (by simp [z])) e⟩) (fun _ _ _ _ n => n)
    (fun b o hc e => ⟨o, k b o (fun z => hc (by simp [z])) e⟩) (fun _ _ e => e) (fun _ _ _ e => e) (fun b ps e => ⟨#[], by rw [e]; simp⟩) (fun m hm => ?_) (fun b u e => ?_) I.bare
  · have e : b = it := by simpa using hb
    subst e
    exact ⟨h1, hL, h2, h3⟩
  · obtain ⟨o, es, ep, ho, r⟩ := hm
    exact ⟨o, es, ep, k _ o (Ne.symm hL) ho, r⟩
  · refine (I.hok b u e).stay (fun c v hc q => k c v ?_ q) (fun _ q => q) fun _ _ q => q
    rcases hc with z | z
    · rw [z]; exact nit b u e
    · exact nit c _ z
theorem Inv.tok (I : Inv X pins σ H s) (t : Nat) : Inv X pins σ H { s with toks := t } := I.un (h' := s.heap) (t' := t) Un.refl I.hok
theorem Inv.kept {t' : Nat} (I : Inv X pins σ H s) (k : ∀ b u, s.heap.get? b = some u → h'.get? b = some u) : Inv X pins σ H { s with heap := h', toks := t' } := I.un (Un.kept k) (I.hok.kept k)
theorem Inv.laid {a : Addr} {o : HO} {t' : Nat} (I : Inv X pins σ H s) (k : ∀ b u, s.heap.get? b = some u → h'.get? b = some u) (hp : s.heap.objs.size ≤ a) (new : ObjOk X.prog X.w (upd H a o) h' a o) :
    Inv X pins σ (upd H a o) { s with heap := h', toks := t' } := I.un (Un.laid k hp (I.hok.fresh hp)) (I.hok.laid k hp new)
theorem Inv.write {x e : Addr} {o : HO} {t' : Nat} (I : Inv X pins σ H s) (mu : Mut (H x)) (he : e = x ∨ H e = some (.own x)) (k : ∀ b u, b ≠ e → s.heap.get? b = some u → h'.get? b = some u) (heo : ∃ u, h'.get? e = some u)
    (new : ObjOk X.prog X.w (upd H x o) h' x o) : Inv X pins σ (upd H x o) { s with heap := h', toks := t' } := I.un (Un.write mu he k heo) (I.hok.write mu he k heo new)
theorem Inv.pins_of {pins' : List (Addr × Obj)} (I : Inv X pins σ H s) (h : ∀ p ∈ pins', s.heap.get? p.1 = some p.2 ∧ H p.1 = none ∧ p.1 ≠ X.env.locals ∧ p.1 ∉ X.fs ∧ ∀ v, p.2.data ≠ .cell v) : Inv X pins' σ H s :=
  ⟨I.ok, I.os, I.bare, I.base, I.loc, I.cell, I.free, I.freeC, fun p hp => (List.mem_append.mp hp).elim (fun z => I.pin p (List.mem_append_left _ z)) (h p), I.hok, I.len⟩
theorem nodup_ix {N : List Str} (hN : N.Nodup) {i j : Nat} {x : Str} (a : N[i]? = some x) (b : N[j]? = some x) : i = j := by
  obtain ⟨h1, e1⟩ := List.getElem?_eq_some_iff.mp a
  obtain ⟨h2, e2⟩ := List.getElem?_eq_some_iff.mp b
  exact (List.getElem_inj hN).mp (e1.trans e2.symm)
theorem store_ok2 {M : Model} {A : Around} {E : Value → Shared → Prop} {i : Nat} {x : Str} {v : V} {u : Value} {Q : Unit → Shared → Prop} (I : Inv X pins σ H s) (hN : X.N.Nodup) (hi : X.N[i]? = some x) (hx : Loc X.env.scope x) (r : RelV v u)
    (h : ∀ s', Inv X pins (σ.set i (some v)) H s' → (∃ a, Heap.SameBut a s.heap s'.heap ∧ (a = X.env.locals ∨ X.env.cells.lookup x = some a)) → Q () s') (hf : X.fn x = true ∨ X.env.scope.names.lookup x = some .local := by first | exact .inl rfl | exact .inr rfl | assumption) : wpAny M A (storeName X.env x u) Q E s := by
  obtain ⟨m, hn, hl⟩ := id I.loc
  have hcls : (X.env.scope.kind == .class || (X.env.scope.kind == .module && X.env.locals != X.env.globals)) = false := by rw [I.ok.kind]; rfl
  have hiσ : i < σ.length := by rw [I.len]; exact (List.getElem?_eq_some_iff.mp hi).1
  have cne := I.cne
  have tracked : ∀ {a : Addr} {h' : Heap}, (∃ o, s.heap.get? a = some o ∧ H a = none) → Heap.SameBut a s.heap h' → HOk X.prog X.w H h' := fun {a h'} ha hs b ob e => by
    obtain ⟨_, _, hfree⟩ := ha
    refine (I.hok b ob e).stay (fun c w' hc q => (hs.2 c ?_).trans q) (fun _ q => q) fun _ _ q => q
    rintro rfl
    rcases hc with rfl | hc
    · rw [hfree] at e; cases e
    · rw [hfree] at hc; cases hc
  rcases hx with hk | hk
  · refine wpAny_storeName_local hk hn (fun h' hn' hs => ?_) hcls
    obtain ⟨oL, _, _, hoL, _⟩ := id hn
    refine h _ ⟨I.ok, I.os, I.bare, ⟨fun b o e n hb hx => ?_, fun b o e n hb hx => ?_, I.base.free, fun b o e hx => ?_, I.base.tups, I.base.frzs, I.base.tbls⟩, ⟨_, hn', fun j y v' e1 e2 e3 => ?_⟩, fun y c e => ?_, I.free, I.freeC, fun p hp => ?_, tracked ⟨oL, hoL, I.free⟩ hs, by simpa using I.len⟩ ⟨_, hs, .inl rfl⟩
    · exact (hs.2 b (Nat.ne_of_lt (Nat.lt_of_lt_of_le (Heap.lt_size e) I.ok.above))).trans (I.base.keep b o e n hb hx)
    · obtain ⟨sl, e1⟩ := I.base.slot b o e n hb hx
      exact ⟨sl, (hs.2 b (Nat.ne_of_lt (Nat.lt_of_lt_of_le (Heap.lt_size e) I.ok.above))).trans e1⟩
    · obtain ⟨o', e1⟩ := I.base.there b o e hx
      exact ⟨o', (hs.2 b (Nat.ne_of_lt (Nat.lt_of_lt_of_le (Heap.lt_size e) I.ok.above))).trans e1⟩
    · by_cases hj : j = i
      · subst hj
        rw [hi] at e1; cases e1
        rw [List.getElem?_set_self hiσ] at e2
        cases e2
        exact ⟨u, r, .inl ⟨hk, by simp⟩⟩
      · rw [List.getElem?_set_ne (Ne.symm hj)] at e2
        obtain ⟨u', r', q⟩ := hl j y v' e1 e2 e3
        refine ⟨u', r', ?_⟩
        rcases q with ⟨k, e⟩ | ⟨k, c, e, z⟩
        · refine .inl ⟨k, ?_⟩
          have : y ≠ x := fun e => hj (nodup_ix hN e1 (e ▸ hi))
          simp [this, e]
        · exact .inr ⟨k, c, e, z.sameBut hs (cne y c e)⟩
    · obtain ⟨w', z⟩ := I.cell y c e
      exact ⟨w', z.sameBut hs (cne y c e)⟩
    · obtain ⟨e, n, ne, nf, d⟩ := I.pin p hp
      exact ⟨(hs.2 p.1 ne).trans e, n, ne, nf, d⟩
  · have hfn : X.fn x = true := by
      rcases hf with z | z
      · exact z
      · rw [z] at hk; cases hk
    obtain ⟨c, hc⟩ := I.ok.has x (.inl hk)
    obtain ⟨w', z⟩ := I.cell x c hc
    refine wpAny_storeName_cell I.ok.kind hk hc z (fun h' hc' hs => ?_)
    obtain ⟨oc, hoc, hocd⟩ := id z
    refine h { s with heap := h' } ⟨I.ok, I.os, I.bare, ⟨fun b o e n hb hx => ?_, fun b o e n hb hx => ?_, I.base.free, fun b o e hx => ?_, I.base.tups, I.base.frzs, I.base.tbls⟩, ⟨m, hn.sameBut hs (Ne.symm (cne x c hc)), fun j y v' e1 e2 e3 => ?_⟩, fun y c' e => ?_, I.free, I.freeC, fun p hp => ?_, tracked ⟨oc, hoc, I.freeC x c hc⟩ hs, by simpa using I.len⟩ ⟨c, hs, .inr hc⟩
    · exact (hs.2 b (Nat.ne_of_lt (Nat.lt_of_lt_of_le (Heap.lt_size e) (I.ok.cab x c hfn hc)))).trans (I.base.keep b o e n hb hx)
    · obtain ⟨sl, e1⟩ := I.base.slot b o e n hb hx
      exact ⟨sl, (hs.2 b (Nat.ne_of_lt (Nat.lt_of_lt_of_le (Heap.lt_size e) (I.ok.cab x c hfn hc)))).trans e1⟩
    · obtain ⟨o', e1⟩ := I.base.there b o e hx
      exact ⟨o', (hs.2 b (Nat.ne_of_lt (Nat.lt_of_lt_of_le (Heap.lt_size e) (I.ok.cab x c hfn hc)))).trans e1⟩
    · by_cases hj : j = i
      · subst hj
        rw [hi] at e1; cases e1
        rw [List.getElem?_set_self hiσ] at e2
        cases e2
        exact ⟨u, r, .inr ⟨.inl hk, c, hc, hc'⟩⟩
      · rw [List.getElem?_set_ne (Ne.symm hj)] at e2
        obtain ⟨u', r', q⟩ := hl j y v' e1 e2 e3
        refine ⟨u', r', ?_⟩
        rcases q with q | ⟨k, c', e, z'⟩
        · exact .inl q
        · refine .inr ⟨k, c', e, z'.sameBut hs ?_⟩
          rintro rfl
          exact hj (nodup_ix hN e1 (I.ok.inj _ _ _ e hc ▸ hi))
    · by_cases hcc : c' = c
      · subst hcc; exact ⟨_, hc'⟩
      · obtain ⟨w2, z2⟩ := I.cell y c' e
        exact ⟨w2, z2.sameBut hs hcc⟩
    · obtain ⟨e, n, ne, nf, d⟩ := I.pin p hp
      refine ⟨(hs.2 p.1 ?_).trans e, n, ne, nf, d⟩
      intro q
      rw [q, hoc] at e
      have q' : oc = p.2 := Option.some.inj e
      exact d w' (by rw [← q']; exact hocd)
theorem store_ok {M : Model} {A : Around} {E : Value → Shared → Prop} {i : Nat} {x : Str} {v : V} {u : Value} {Q : Unit → Shared → Prop} (I : Inv X pins σ H s) (hN : X.N.Nodup) (hi : X.N[i]? = some x) (hx : Loc X.env.scope x) (r : RelV v u)
    (h : ∀ s', Inv X pins (σ.set i (some v)) H s' → Q () s') (hf : X.fn x = true ∨ X.env.scope.names.lookup x = some .local := by first | exact .inl rfl | exact .inr rfl | assumption) : wpAny M A (storeName X.env x u) Q E s :=
  store_ok2 I hN hi hx r (fun s' I' _ => h s' I') hf
theorem Inv.call' {s' : Shared} {ch : List Addr} (I : Inv X pins σ H s) (ho : s'.os = s.os) (u : Un (frs X.stack) ch H H' s.heap s'.heap) (hok : HOk X.prog X.w H' s'.heap) (hg : AllBare s'.gens)
    (hch : ∀ b ∈ ch, (b ∈ X.ex ∨ X.s₀.heap.objs.size ≤ b) ∧ b ≠ X.env.locals ∧ (∀ x c, X.env.cells.lookup x = some c → c ≠ b) ∧ ∀ p ∈ X.pn ++ pins, p.1 ≠ b) : Inv X pins σ H' s' := by
  obtain ⟨h', g', d', t', o'⟩ := s'
  have e : o' = s.os := ho
  subst e
  exact I.call (g' := g') (t' := t') (d' := d') u hok hg hch
end
abbrev XK := Value → Option Addr → Hp → Prop
abbrev St := List (Option V)
abbrev VK := V → Hp → Prop
abbrev TE := St → Hp → VK → Prop
abbrev TT := St → Hp → (Bool → Hp → Prop) → Prop
abbrev TA := St → Hp → (List V → Hp → Prop) → Prop
structure Ends where
  nx : St → Hp → Prop
  rt : VK
  bk : St → Hp → Prop := fun _ _ => False
  ct : St → Hp → Prop := fun _ _ => False
abbrev TS := Ends → St → Hp → Prop
def EP (X : Cx) (pins : List (Addr × Obj)) (σ : St) (Q : VK) (u : Value) (s' : Shared) : Prop := ∃ v H', Inv X pins σ H' s' ∧ RelV v u ∧ Q v H'
def TP (X : Cx) (pins : List (Addr × Obj)) (σ : St) (Q : Bool → Hp → Prop) (b : Bool) (s' : Shared) : Prop := ∃ H', Inv X pins σ H' s' ∧ Q b H'
def AP (X : Cx) (pins : List (Addr × Obj)) (σ : St) (Q : List V → Hp → Prop) (us : List Value) (s' : Shared) : Prop := ∃ vs H', Inv X pins σ H' s' ∧ Vals vs us ∧ Q vs H'
def SP (X : Cx) (pins : List (Addr × Obj)) (D : Ends) (f : Flow) (s' : Shared) : Prop :=
  match f with
  | .next => ∃ σ' H', Inv X pins σ' H' s' ∧ D.nx σ' H'
  | .brk => ∃ σ' H', Inv X pins σ' H' s' ∧ D.bk σ' H'
  | .cont => ∃ σ' H', Inv X pins σ' H' s' ∧ D.ct σ' H'
  | .ret u => ∃ v σ' H', Inv X pins σ' H' s' ∧ RelV v u ∧ D.rt v H'
def PE (X : Cx) (e : Expr) (t : TE) : Prop :=
  ∀ (pins : List (Addr × Obj)) (s : Shared) (σ : St) (H : Hp) (Q : VK), Inv X pins σ H s → t σ H Q → wpAny (model X.prog X.w) X.A (eval e X.env) (EP X pins σ Q) X.xe s
def PT (X : Cx) (e : Expr) (t : TT) : Prop :=
  ∀ (pins : List (Addr × Obj)) (s : Shared) (σ : St) (H : Hp) (Q : Bool → Hp → Prop), Inv X pins σ H s → t σ H Q → wpAny (model X.prog X.w) X.A (isTrue e X.env (eval e X.env)) (TP X pins σ Q) X.xe s
def PW (X : Cx) (e : Expr) (t : TT) : Prop :=
  ∀ (whole : Sem Value) (pins : List (Addr × Obj)) (s : Shared) (σ : St) (H : Hp) (Q : Bool → Hp → Prop), Inv X pins σ H s → t σ H Q → wpAny (model X.prog X.w) X.A (isTrue e X.env whole) (TP X pins σ Q) X.xe s
theorem PW.pt {X : Cx} {e : Expr} {t : TT} (h : PW X e t) : PT X e t := h _
def PA (X : Cx) (es : List Expr) (t : TA) : Prop :=
  ∀ (pos : Pos) (pins : List (Addr × Obj)) (s : Shared) (σ : St) (H : Hp) (Q : List V → Hp → Prop), Inv X pins σ H s → t σ H Q → wpAny (model X.prog X.w) X.A (spliced (backTo pos (starEach es X.env))) (AP X pins σ Q) X.xe s
def PS (X : Cx) (st : Stmt) (t : TS) : Prop :=
  ∀ (pins : List (Addr × Obj)) (s : Shared) (σ : St) (H : Hp) (D : Ends), Inv X pins σ H s → t D σ H → wpAny (model X.prog X.w) X.A (exec st X.env) (SP X pins D) X.xe s
def PSs (X : Cx) (st : List Stmt) (t : TS) : Prop :=
  ∀ (pins : List (Addr × Obj)) (s : Shared) (σ : St) (H : Hp) (D : Ends), Inv X pins σ H s → t D σ H → wpAny (model X.prog X.w) X.A (execs st X.env) (SP X pins D) X.xe s
theorem thn {α : Type} {t : Sem α} {Q Q' : α → Shared → Prop} {M : Model} {A : Around} {E : Value → Shared → Prop} {s : Shared} (h : wpAny M A t Q E s) (hQ : ∀ a s, Q a s → Q' a s) : wpAny M A t Q' E s := wpAny_mono h hQ fun _ _ x => x
end L2
namespace L2
open PySem PySem.Spec PyProof.Rows
section
variable {X : Cx}
def tVar (i : Nat) : TE := fun σ H Q => ∃ v, σ[i]? = some (some v) ∧ Q v H
def tC (v : V) : TE := fun _ H Q => Q v H
theorem pe_var {i : Nat} {x : Str} {pos : Pos} (hN : X.N[i]? = some x) (hv : Vis X.env.scope x) (hd : (x == ("__debug__" : Str)) = false := by decide) (hcd : (x == ("__classdict__" : Str)) = false := by decide) : PE X (.Name x pos) (tVar i) := by
  intro pins s σ H Q I h
  obtain ⟨v, e, h⟩ := h
  obtain ⟨m, hn, hl⟩ := I.loc
  obtain ⟨u, r, l⟩ := hl i x v hN e hv
  have fin : EP X pins σ Q u s := ⟨v, H, I, r, h⟩
  rcases l with ⟨hk, hm⟩ | ⟨hk, c, hc, hcell⟩
  · exact wpAny_Name (wpAny_loadName_local I.ok.kind hk hn hm fin) hd
  · rcases hk with hk | hk
    · exact wpAny_Name (wpAny_loadName_cell I.ok.kind hk hc hcell fin) hd
    · exact wpAny_Name (wpAny_loadName_free I.ok.kind hk hc hcell fin hcd) hd
theorem pe_int {i j pos} : PE X (.Constant (.int i) j pos) (tC (.int i)) := fun _ _ _ H _ I h => wpAny_Constant_int ⟨.int i, H, I.tok _, ⟨_, rfl⟩, h⟩
theorem pe_bl {b j pos} : PE X (.Constant (.bool b) j pos) (tC (.bl b)) := fun _ _ _ H _ I h => Constant_bool ⟨.bl b, H, I, rfl, h⟩
theorem pe_non {j pos} : PE X (.Constant .none j pos) (tC .non) := fun _ _ _ H _ I h => Constant_none ⟨.non, H, I, rfl, h⟩
theorem pe_str {x j pos} : PE X (.Constant (.str x) j pos) (tC (.str x)) := fun _ _ _ H _ I h => Calls.Constant_str ⟨.str x, H, I.tok _, ⟨_, rfl⟩, h⟩
def Gl (X : Cx) (x : Str) : Prop := X.env.kindOf x = some .globalImplicit
theorem ld_glob {E : Value → Shared → Prop} {pins : List (Addr × Obj)} {s : Shared} {σ : St} {H : Hp} {x : Str} {u : Value} {pos : Pos} {Q : Value → Shared → Prop} (I : Inv X pins σ H s) (hg : Gl X x) (hm : X.mg x = some u) (h : Q u s)
    (hd : (x == ("__debug__" : Str)) = false := by decide) : wpAny (model X.prog X.w) X.A (eval (.Name x pos) X.env) Q E s :=
  Calls.Name_function_global I.ok.kind hg (Calls.loadGlobal_global (by rw [I.ok.glob]; exact I.mod.glob.keeps I.bk) hm h) hd
theorem ld_blt {E : Value → Shared → Prop} {pins : List (Addr × Obj)} {s : Shared} {σ : St} {H : Hp} {x : Str} {u : Value} {pos : Pos} {Q : Value → Shared → Prop} (I : Inv X pins σ H s) (hg : Gl X x) (hm : X.mg x = none) (hv : bootBuiltins x = some u) (h : Q u s)
    (hn : x ≠ "__name__" := by decide) (hd : (x == ("__debug__" : Str)) = false := by decide) : wpAny (model X.prog X.w) X.A (eval (.Name x pos) X.env) Q E s := by
  obtain ⟨mb, h1, h2⟩ := I.mod.blt
  exact Calls.Name_function_global I.ok.kind hg (Calls.loadGlobal_builtin (by rw [I.ok.glob]; exact I.mod.glob.keeps I.bk) hm (by rw [I.ok.blt]; exact h1.keeps I.bk) ((h2 x hn).trans hv) h) hd
theorem pe_bltn {x : Str} {v : V} {u : Value} {pos : Pos} (hg : Gl X x) (hm : X.mg x = none) (hv : bootBuiltins x = some u) (r : RelV v u) (hn : x ≠ "__name__" := by decide) (hd : (x == ("__debug__" : Str)) = false := by decide) : PE X (.Name x pos) (tC v) :=
  fun _ _ _ H _ I h => ld_blt I hg hm hv ⟨v, H, I, r, h⟩ hn hd
def t2I (ta tb : TE) (k : Int → Int → Hp → Prop) : St → Hp → Prop := fun σ H => ta σ H fun x H1 => tb σ H1 fun y H2 => ∃ i j, x = .int i ∧ y = .int j ∧ k i j H2
def tAdd (ta tb : TE) : TE := fun σ H Q => t2I ta tb (fun i j H2 => Q (.int (i + j)) H2) σ H
def tSub (ta tb : TE) : TE := fun σ H Q => t2I ta tb (fun i j H2 => Q (.int (i - j)) H2) σ H
def tMul (ta tb : TE) : TE := fun σ H Q => t2I ta tb (fun i j H2 => (-(2 ^ 64) < i ∧ i < 2 ^ 64) ∧ Q (.int (i * j)) H2) σ H
variable {a b : Expr} {ta tb : TE} {pos : Pos}
def PC (X : Cx) (op : CmpOp) (a b : Expr) (t : TE) : Prop :=
  ∀ (pins : List (Addr × Obj)) (s : Shared) (σ : St) (H : Hp) (Q : VK), Inv X pins σ H s → t σ H Q →
    wpAny (model X.prog X.w) X.A (eval a X.env) (fun v s₁ => wpAny (model X.prog X.w) X.A (eval b X.env) (fun u s₂ => wpAny (model X.prog X.w) X.A (compareOp op v u) (EP X pins σ Q) X.xe s₂) X.xe s₁) X.xe s
def tCmp (p : Int → Int → Bool) (ta tb : TE) : TE := fun σ H Q => t2I ta tb (fun i j H2 => Q (.bl (p i j)) H2) σ H
abbrev tLt : TE → TE → TE := tCmp fun i j => decide (i < j)
abbrev tLe : TE → TE → TE := tCmp fun i j => decide (i ≤ j)
abbrev tGt : TE → TE → TE := tCmp fun i j => decide (j < i)
abbrev tGe : TE → TE → TE := tCmp fun i j => decide (j ≤ i)
abbrev tEqI : TE → TE → TE := tCmp fun i j => decide (i = j)
abbrev tNeI : TE → TE → TE := tCmp fun i j => !decide (i = j)
def tIsN (ta : TE) : TE := fun σ H Q => ta σ H fun x H1 => Q (.bl (decide (x = .non))) H1
def tNotN (ta : TE) : TE := fun σ H Q => ta σ H fun x H1 => Q (.bl (!decide (x = .non))) H1
def tB (t : TE) : TT := fun σ H Q => t σ H fun x H1 => ∃ c, x = .bl c ∧ Q c H1
theorem pt_cmp {op : CmpOp} {t : TE} (h : PC X op a b t) (h1 : behindInMarks op b = false := by first | exact nobehind _ (by decide) (by decide) | rfl) : PT X (.Compare a [op] [b] pos) (tB t) := by
  intro pins s σ H Q I hw
  refine wpAny_isTrue_Compare1 (thn (h pins s σ H _ I hw) fun v s1 h1 => thn h1 fun u s2 h2 => thn h2 fun c s3 ⟨x, H1, I1, r1, q1⟩ => ?_) h1
  obtain ⟨d, rfl, q⟩ := q1
  cases r1
  exact wpAny_truthy_bool ⟨H1, I1, q⟩
theorem pt_val {e : Expr} {t : TE} (h : PE X e t) (he : ∀ whole, isTrue e X.env whole = (do let v ← whole; standAt e.pos; holding [v] (truthy v)) := by intro _; rfl) : PT X e (tB t) := by
  intro pins s σ H Q I hw
  refine isTrue_plain (thn (h pins s σ H _ I hw) fun v s1 ⟨x, H1, I1, r1, q1⟩ => ?_) (he _)
  obtain ⟨d, rfl, q⟩ := q1
  cases r1
  exact wpAny_truthy_bool ⟨H1, I1, q⟩
variable {tA tB' : TT} {rest : List Expr}
def tAnd (t u : TT) : TT := fun σ H Q => t σ H fun c H1 => if c = true then u σ H1 Q else Q false H1
def tOr (t u : TT) : TT := fun σ H Q => t σ H fun c H1 => if c = true then Q true H1 else u σ H1 Q
def tNot (t : TT) : TT := fun σ H Q => t σ H fun c H1 => Q (!c) H1
theorem pw_and1 (ha : PT X a tA) : PW X (.BoolOp .And [a] pos) tA := by
  intro wh pins s σ H Q I h
  refine isTrue_and (thn (ha pins s σ H Q I h) fun c s1 e => ?_)
  cases c with
  | true => exact isTrue_and_nil e
  | false => exact e
theorem pw_or1 (ha : PT X a tA) : PW X (.BoolOp .Or [a] pos) tA := by
  intro wh pins s σ H Q I h
  refine isTrue_or (thn (ha pins s σ H Q I h) fun c s1 e => ?_)
  cases c with
  | false => exact isTrue_or_nil e
  | true => exact e
theorem pw_and (ha : PT X a tA) (hb : PW X (.BoolOp .And (b :: rest) pos) tB') : PW X (.BoolOp .And (a :: b :: rest) pos) (tAnd tA tB') := by
  intro wh pins s σ H Q I h
  refine isTrue_and (thn (ha pins s σ H _ I h) fun c s1 ⟨H1, I1, q1⟩ => ?_)
  cases c with
  | true => exact hb wh pins s1 σ H1 Q I1 q1
  | false => exact ⟨H1, I1, q1⟩
theorem pw_or (ha : PT X a tA) (hb : PW X (.BoolOp .Or (b :: rest) pos) tB') : PW X (.BoolOp .Or (a :: b :: rest) pos) (tOr tA tB') := by
  intro wh pins s σ H Q I h
  refine isTrue_or (thn (ha pins s σ H _ I h) fun c s1 ⟨H1, I1, q1⟩ => ?_)
  cases c with
  | true => exact ⟨H1, I1, q1⟩
  | false => exact hb wh pins s1 σ H1 Q I1 q1
theorem pt_not (ha : PT X a tA) : PT X (.UnaryOp .Not a pos) (tNot tA) := by
  intro pins s σ H Q I h
  exact isTrue_not (ha pins s σ H (fun c H1 => Q (!c) H1) I h)
def tAndV (ta tb : TE) : TE := fun σ H Q => ta σ H fun x H1 => ∃ c, x = .bl c ∧ if c = true then tb σ H1 Q else Q (.bl false) H1
def tOrV (ta tb : TE) : TE := fun σ H Q => ta σ H fun x H1 => ∃ c, x = .bl c ∧ if c = true then Q (.bl true) H1 else tb σ H1 Q
def tNotV (ta : TE) : TE := fun σ H Q => ta σ H fun x H1 => ∃ c, x = .bl c ∧ Q (.bl (!c)) H1
theorem pe_one {op} {t : TE} (h : PE X a t) : PE X (.BoolOp op [a] pos) t := fun pins s σ H Q I hw => BoolOp_one (h pins s σ H Q I hw)
theorem pe_and (ha : PE X a ta) (hb : PE X (.BoolOp .And (b :: rest) pos) tb) : PE X (.BoolOp .And (a :: b :: rest) pos) (tAndV ta tb) := by
  intro pins s σ H Q I h
  refine BoolOp_and (thn (ha pins s σ H _ I h) fun v s1 ⟨x, H1, I1, r1, q1⟩ => ?_)
  obtain ⟨c, rfl, q1⟩ := q1
  cases r1
  refine wpAny_truthy_bool ?_
  cases c with
  | true => exact hb pins s1 σ H1 Q I1 q1
  | false => exact ⟨.bl false, H1, I1, rfl, q1⟩
theorem pe_not (ha : PE X a ta) : PE X (.UnaryOp .Not a pos) (tNotV ta) := by
  intro pins s σ H Q I h
  refine UnaryOp_ (thn (ha pins s σ H _ I h) fun v s1 ⟨x, H1, I1, r1, q1⟩ => ?_)
  obtain ⟨c, rfl, q1⟩ := q1
  cases r1
  exact not_of (wpAny_truthy_bool ⟨.bl (!c), H1, I1, rfl, q1⟩)
def tIf (t : TT) (ta tb : TE) : TE := fun σ H Q => t σ H fun c H1 => if c = true then ta σ H1 Q else tb σ H1 Q
end
end L2
namespace L2
open PySem PySem.Spec PyProof.Rows
def SqL (K : PySem.W.Frag) (H : Hp) (a : Addr) (xs : List V) : Prop :=
  Rd H a (.lst xs) ∨
    ∃ (o : Obj) (its : Array Value) (n : Nat), K.lookup a = some o ∧ o.cls = .type "list" ∧ o.dict = none ∧ o.data = .seq its n ∧ its.size ≤ sizeLine ∧ Vals xs its.toList
def SqT (K : PySem.W.Frag) (H : Hp) (a : Addr) (xs : List V) : Prop :=
  Rd H a (.tup xs) ∨
    ∃ (o : Obj) (its : Array Value) (n : Nat), K.lookup a = some o ∧ o.cls = .type "tuple" ∧ o.data = .seq its n ∧ its.size ≤ sizeLine ∧ Vals xs its.toList
def absV : Value → Option V
  | .none => some .non
  | .bool b => some (.bl b)
  | .int i _ => some (.int i)
  | .str x _ => some (.str x)
  | .bytes b _ => some (.byt b)
  | .float b _ => some (.flt b)
  | .ref a => some (.ref a)
  | .type n => some (.ty n)
  | _ => none
theorem RelV.abs {x : V} {u : Value} (r : RelV x u) : absV u = some x := by
  cases x with
  | non => cases r; rfl
  | bl _ => cases r; rfl
  | int _ => obtain ⟨t, rfl⟩ := r; rfl
  | str _ => obtain ⟨t, rfl⟩ := r; rfl
  | byt _ => obtain ⟨t, rfl⟩ := r; rfl
  | flt _ => obtain ⟨t, rfl⟩ := r; rfl
  | ref _ => cases r; rfl
  | ty _ => cases r; rfl
theorem RelV.inj {x y : V} {u : Value} (r : RelV x u) (q : RelV y u) : x = y := Option.some.inj (r.abs.symm.trans q.abs)
theorem Vals.inj : ∀ {xs ys : List V} {us : List Value}, Vals xs us → Vals ys us → xs = ys
  | _, _, _, .nil, .nil => rfl
  | _, _, _, .cons r t, .cons r' t' => by rw [r.inj r', Vals.inj t t']
section
variable {X : Cx} {pins : List (Addr × Obj)} {σ : St} {H : Hp} {s : Shared} {a : Addr} {xs ys : List V}
theorem SqL.of {K : PySem.W.Frag} (h : H a = some (.lst xs)) : SqL K H a xs := .inl (.inl h)
theorem SqT.of {K : PySem.W.Frag} (h : H a = some (.tup xs)) : SqT K H a xs := .inl (.inl h)
theorem Inv.list (I : Inv X pins σ H s) (h : SqL X.K H a xs) : ∃ its : List Value, Vals xs its ∧ PlainL s.heap a its.toArray ∧ xs.length ≤ sizeLine := by
  rcases h with h | ⟨o, its, n, hk, hc, hd, hs, hz, r⟩
  · obtain ⟨z, its, n, r, e⟩ := h.ok I.hok
    exact ⟨its, r, ⟨_, n, e, rfl, rfl, rfl⟩, z⟩
  · refine ⟨its.toList, r, ⟨o, n, I.kIn a o hk, hc, hd, by simpa using hs⟩, ?_⟩
    have e := r.length
    simp only [Array.length_toList] at e
    omega
theorem Inv.tuple (I : Inv X pins σ H s) (h : SqT X.K H a xs) : ∃ its : List Value, Vals xs its ∧ IsTup s.heap a its.toArray ∧ xs.length ≤ sizeLine := by
  rcases h with h | ⟨o, its, n, hk, hc, hs, hz, r⟩
  · obtain ⟨z, its, r, p⟩ := h.ok I.hok
    exact ⟨its, r, p, z⟩
  · refine ⟨its.toList, r, ⟨o, I.kIn a o hk, hc, n, by simpa using hs⟩, ?_⟩
    have e := r.length
    simp only [Array.length_toList] at e
    omega
theorem Inv.list_inj (I : Inv X pins σ H s) (h : SqL X.K H a xs) (h' : SqL X.K H a ys) : xs = ys := by
  obtain ⟨its, r, ⟨o, n, e, _, _, d⟩, _⟩ := I.list h
  obtain ⟨its', r', ⟨o', n', e', _, _, d'⟩, _⟩ := I.list h'
  rw [e] at e'; cases e'
  rw [d] at d'
  injection d' with d1 _
  have : its = its' := by simpa using congrArg Array.toList d1
  subst this
  exact r.inj r'
theorem Inv.tuple_inj (I : Inv X pins σ H s) (h : SqT X.K H a xs) (h' : SqT X.K H a ys) : xs = ys := by
  obtain ⟨its, r, ⟨o, e, _, n, d⟩, _⟩ := I.tuple h
  obtain ⟨its', r', ⟨o', e', _, n', d'⟩, _⟩ := I.tuple h'
  rw [e] at e'; cases e'
  rw [d] at d'
  injection d' with d1 _
  have : its = its' := by simpa using congrArg Array.toList d1
  subst this
  exact r.inj r'
end
abbrev Cx.wish (X : Cx) (E : Value → Shared → Prop) : Cx := { X with xe := E }
abbrev Cx.nox (X : Cx) : Cx := X.wish fun _ _ => False
theorem Cx.Ok.wish {X : Cx} (ok : X.Ok) (E : Value → Shared → Prop) : (X.wish E).Ok :=
  ⟨ok.mod, ok.kind, ok.glob, ok.blt, ok.above, ok.inj, ok.has, ok.cab, ok.hd, ok.frames, ok.stk, ok.exf, ok.bs, ok.bsz, ok.noex, ok.exfs, ok.funs, ok.frf⟩
theorem Cx.Ok.unwish {X : Cx} {E : Value → Shared → Prop} (ok : (X.wish E).Ok) : X.Ok :=
  ⟨ok.mod, ok.kind, ok.glob, ok.blt, ok.above, ok.inj, ok.has, ok.cab, ok.hd, ok.frames, ok.stk, ok.exf, ok.bs, ok.bsz, ok.noex, ok.exfs, ok.funs, ok.frf⟩
section
variable {X : Cx} {pins : List (Addr × Obj)} {σ : St} {H : Hp} {s : Shared} {E : Value → Shared → Prop}
theorem Inv.wish (I : Inv X pins σ H s) (E : Value → Shared → Prop) : Inv (X.wish E) pins σ H s := ⟨I.ok.wish E, I.os, I.bare, I.base, I.loc, I.cell, I.free, I.freeC, I.pin, I.hok, I.len⟩
theorem Inv.unwish (I : Inv (X.wish E) pins σ H s) : Inv X pins σ H s := ⟨I.ok.unwish, I.os, I.bare, I.base, I.loc, I.cell, I.free, I.freeC, I.pin, I.hok, I.len⟩
theorem SP.unwish {D : Ends} {f : Flow} {s' : Shared} (h : SP (X.wish E) pins D f s') : SP X pins D f s' := by
  cases f with
  | next => obtain ⟨σ', H', I, q⟩ := h; exact ⟨σ', H', I.unwish, q⟩
  | brk => obtain ⟨σ', H', I, q⟩ := h; exact ⟨σ', H', I.unwish, q⟩
  | cont => obtain ⟨σ', H', I, q⟩ := h; exact ⟨σ', H', I.unwish, q⟩
  | ret u => obtain ⟨v, σ', H', I, r, q⟩ := h; exact ⟨v, σ', H', I.unwish, r, q⟩
theorem PSs.nox {st : List Stmt} {t : TS} (h : PSs X.nox st t) : PSs X st t := fun pins s σ H D I hw =>
  wpAny_mono (h pins s σ H D (I.wish _) hw) (fun _ _ q => q.unwish) fun _ _ z => False.elim z
end
section
variable {X : Cx} {st : Stmt} {rest : List Stmt} {t u : TS} {e : Expr} {te : TE} {pos : Pos}
def tNext : TS := fun D σ H => D.nx σ H
def tSeq (t u : TS) : TS := fun D σ H => t { D with nx := u D } σ H
theorem pss_nil : PSs X [] tNext := fun _ _ σ H _ I h => wpAny_execs_nil ⟨σ, H, I, h⟩
theorem pss_cons (h1 : PS X st t) (h2 : PSs X rest u) : PSs X (st :: rest) (tSeq t u) := by
  intro pins s σ H D I h
  refine wpAny_execs_cons (thn (h1 pins s σ H { D with nx := u D } I h) fun f s1 q => ?_)
  cases f with
  | next =>
    obtain ⟨σ', H', I', q⟩ := q
    exact h2 pins s1 σ' H' D I' q
  | ret v => exact q
  | brk => exact q
  | cont => exact q
theorem pss_one (h1 : PS X st t) : PSs X [st] t := by
  intro pins s σ H D I h
  refine wpAny_execs_cons (thn (h1 pins s σ H D I h) fun f s1 q => ?_)
  cases f with
  | next => exact wpAny_execs_nil q
  | ret v => exact q
  | brk => exact q
  | cont => exact q
def tBreak : TS := fun D σ H => D.bk σ H
def tCont : TS := fun D σ H => D.ct σ H
theorem Inv.quiet {pins : List (Addr × Obj)} {σ : St} {H : Hp} {s : Shared} (I : Inv X pins σ H s) : interactive X.env = false := by simp [interactive, I.ok.kind]
def tDrop (te : TE) : TS := fun D σ H => te σ H fun _ H1 => D.nx σ H1
theorem ps_expr (he : PE X e te) (hs : swapsWith e none pos.line X.env = pure false := by rfl) : PS X (.Expr e pos) (tDrop te) := by
  intro pins s σ H D I h
  exact wpAny_Expr_any (thn (he pins s σ H _ I h) fun v s1 ⟨x, H1, I1, r1, q1⟩ => ⟨σ, H1, I1, q1⟩) I.quiet hs
def tRet (te : TE) : TS := fun D σ H => te σ H D.rt
theorem ps_ret (he : PE X e te) : PS X (.Return (some e) pos) (tRet te) := by
  intro pins s σ H D I h
  exact wpAny_Return_some (thn (he pins s σ H _ I h) fun v s1 ⟨x, H1, I1, r1, q1⟩ => ⟨x, σ, H1, I1, r1, q1⟩)
def tRetN : TS := fun D _ H => D.rt .non H
def tIfS (c : TT) (t u : TS) : TS := fun D σ H => c σ H fun b H1 => if b = true then t D σ H1 else u D σ H1
theorem ps_if {c : Expr} {a b : List Stmt} {tc : TT} (hc : PT X c tc) (ha : PSs X a t) (hb : PSs X b u) : PS X (.If c a b pos) (tIfS tc t u) := by
  intro pins s σ H D I h
  refine wpAny_If (thn (hc pins s σ H _ I h) fun d s1 ⟨H1, I1, q1⟩ => ?_)
  cases d with
  | true => exact ha pins s1 σ H1 D I1 q1
  | false => exact hb pins s1 σ H1 D I1 q1
def tNever : TS := fun _ _ _ => False
theorem ps_never : PS X st tNever := fun _ _ _ _ _ _ h => h.elim
end
abbrev TG := V → St → Hp → (St → Hp → Prop) → Prop
abbrev TGs := List V → St → Hp → (St → Hp → Prop) → Prop
def PG (X : Cx) (target : Expr) (t : TG) : Prop :=
  ∀ (pins : List (Addr × Obj)) (s : Shared) (σ : St) (H : Hp) (v : V) (u : Value) (Q : St → Hp → Prop), Inv X pins σ H s → RelV v u → t v σ H Q →
    wpAny (model X.prog X.w) X.A (assign target X.env u) (fun _ s' => ∃ σ' H', Inv X pins σ' H' s' ∧ Q σ' H') X.xe s
def PGs (X : Cx) (ts : List Expr) (t : TGs) : Prop :=
  ∀ (pins : List (Addr × Obj)) (s : Shared) (σ : St) (H : Hp) (vs : List V) (us : List Value) (Q : St → Hp → Prop), Inv X pins σ H s → Vals vs us → t vs σ H Q →
    wpAny (model X.prog X.w) X.A (assignInOrder ((assignEach ts X.env).map (·.2)) us) (fun _ s' => ∃ σ' H', Inv X pins σ' H' s' ∧ Q σ' H') X.xe s
abbrev TSet := V → V → V → Hp → (Hp → Prop) → Prop
def PSet (X : Cx) (t : TSet) : Prop :=
  ∀ (pins : List (Addr × Obj)) (s : Shared) (σ : St) (H : Hp) (o i v : V) (ov iv u : Value) (Q : Hp → Prop), Inv X pins σ H s → RelV o ov → RelV i iv → RelV v u → t o i v H Q →
    wpAny (model X.prog X.w) X.A (setItem ov iv u) (fun _ s' => ∃ H', Inv X pins σ H' s' ∧ Q H') X.xe s
abbrev TIp := V → V → Hp → VK → Prop
def PIp (X : Cx) (op : Operator) (t : TIp) : Prop :=
  ∀ (pins : List (Addr × Obj)) (s : Shared) (σ : St) (H : Hp) (x y : V) (v u : Value) (Q : VK), Inv X pins σ H s → RelV x v → RelV y u → t x y H Q →
    wpAny (model X.prog X.w) X.A (inplaceOp op v u) (EP X pins σ Q) X.xe s
section
variable {X : Cx} {pos : Pos}
def gName (i : Nat) : TG := fun v σ H Q => Q (σ.set i (some v)) H
theorem pg_name {i : Nat} {x : Str} (hN : X.N.Nodup) (hi : X.N[i]? = some x) (hx : Loc X.env.scope x) (hf : X.fn x = true ∨ X.env.scope.names.lookup x = some .local := by first | exact .inl rfl | exact .inr rfl | assumption) : PG X (.Name x pos) (gName i) := by
  intro pins s σ H v u Q I r h
  exact wpAny_assign_Name (store_ok I hN hi hx r (fun s' I' => ⟨_, H, I', h⟩) hf)
def gNil : TGs := fun vs σ H Q => vs = [] ∧ Q σ H
def gCons (t : TG) (u : TGs) : TGs := fun vs σ H Q => ∃ v r, vs = v :: r ∧ t v σ H fun σ' H' => u r σ' H' Q
theorem pgs_nil : PGs X [] gNil := by
  intro pins s σ H vs us Q I r h
  obtain ⟨e, h⟩ := h
  subst e
  cases r
  exact assignInOrder_nil ⟨σ, H, I, h⟩
theorem pgs_cons {e : Expr} {es : List Expr} {t : TG} {u : TGs} (h1 : PG X e t) (h2 : PGs X es u)
    (hs : (assignEach (e :: es) X.env).map (·.2) = assign e X.env :: (assignEach es X.env).map (·.2) := by rfl) : PGs X (e :: es) (gCons t u) := by
  intro pins s σ H vs us Q I r h
  obtain ⟨v, vr, e1, h⟩ := h
  subst e1
  cases r with
  | cons r rr =>
    rw [hs]
    refine assignInOrder_cons (thn (h1 pins s σ H _ _ _ I r h) fun _ s1 ⟨σ1, H1, I1, q1⟩ => ?_)
    exact h2 pins s1 σ1 H1 _ _ Q I1 rr q1
def gTup (K : PySem.W.Frag) (n : Nat) (t : TGs) : TG := fun v σ H Q => ∃ a xs, v = .ref a ∧ SqT K H a xs ∧ xs.length = n ∧ t xs σ H Q
theorem pg_tup {es : List Expr} {k : Nat} {t : TGs} {n : Nat} (hc : X.calm = true) (h : PGs X es t)
    (hn : (assignEach es X.env).length = n := by rfl) (hst : (assignEach es X.env).findIdx? (·.1) = none := by rfl) : PG X (.Tuple es k pos) (gTup X.K n t) := by
  intro pins s σ H v u Q I r hw
  obtain ⟨a, xs, e1, hq, hl, hw⟩ := hw
  subst e1
  cases r
  obtain ⟨its, rv, ht, hz⟩ := I.tuple hq
  refine assign_Tuple_tuple (I.ok.hd hc) ht (by simp [hn, ← hl, rv.length]) hst fun h' hx => ?_
  have I1 : Inv X pins σ H { s with heap := h' } := I.kept (t' := s.toks) fun b o e => hx b o (Nat.ne_of_lt (Heap.lt_size e)) e
  exact h pins _ σ H xs _ Q I1 (by simpa using rv) hw
def gSub (to ti : TE) (t : TSet) : TG := fun v σ H Q => to σ H fun o H1 => ti σ H1 fun i H2 => t o i v H2 fun H3 => Q σ H3
theorem pg_sub {o i : Expr} {to ti : TE} {t : TSet} (ho : PE X o to) (hi : PE X i ti) (hs : PSet X t)
    (ha : ∀ v, assign (.Subscript o i pos) X.env v = (do
      let ov ← holding [v] (eval o X.env)
      let iv ← holding [v, ov] (eval i X.env)
      standAt pos
      holding [v, ov, iv] (setItem ov iv v)
      release [v, ov, iv] []) := by intro _; rfl) : PG X (.Subscript o i pos) (gSub to ti t) := by
  intro pins s σ H v u Q I r h
  rw [ha]
  refine wpAny_bind (wpAny_holding (thn (ho pins s σ H _ I h) fun ov s1 ⟨x, H1, I1, r1, q1⟩ => ?_))
  refine wpAny_bind (wpAny_holding (thn (hi pins s1 σ H1 _ I1 q1) fun iv s2 ⟨y, H2, I2, r2, q2⟩ => ?_))
  refine wpAny_bind (wpAny_standAt (wpAny_bind (wpAny_holding (thn (hs pins s2 σ H2 x y v ov iv u _ I2 r1 r2 r q2) fun _ s3 ⟨H3, I3, q3⟩ => ?_))))
  exact wpAny_release ⟨σ, H3, I3, q3⟩
def tAsg (te : TE) (g : TG) : TS := fun D σ H => te σ H fun x H1 => g x σ H1 D.nx
theorem ps_asg {tg e : Expr} {te : TE} {g : TG} (he : PE X e te) (hg : PG X tg g) (hs : swapsWithSole [tg] e pos.line X.env = pure false := by rfl) (hw : swappedStores [tg] e X.env = pure none := by rfl)
    (h1 : (assignEach [tg] X.env).map (·.2) = [assign tg X.env] := by rfl) : PS X (.Assign [tg] e pos) (tAsg te g) := by
  intro pins s σ H D I h
  refine wpAny_Assign_stores (thn (he pins s σ H _ I h) fun v s1 ⟨x, H1, I1, r1, q1⟩ => ?_) hs hw
  rw [h1]
  exact thn (hg pins s1 σ H1 x v _ I1 r1 q1) fun _ s2 q => q
theorem ps_set {i : Nat} {x : Str} {e : Expr} {te : TE} {pos' : Pos} (hN : X.N.Nodup) (hi : X.N[i]? = some x) (hx : Loc X.env.scope x) (he : PE X e te) (hs : swapsWith e (some (.Name x pos')) pos.line X.env = pure false := by rfl) (hf : X.fn x = true ∨ X.env.scope.names.lookup x = some .local := by first | exact .inl rfl | exact .inr rfl | assumption) :
    PS X (.Assign [.Name x pos'] e pos) (tAsg te (gName i)) := by
  intro pins s σ H D I h
  refine wpAny_Assign_Name (thn (he pins s σ H _ I h) fun v s1 ⟨y, H1, I1, r1, q1⟩ => ?_) hs
  exact store_ok I1 hN hi hx r1 (fun s2 I2 => ⟨_, H1, I2, q1⟩) hf
def tPar (i j : Nat) (ta : TA) : TS := fun D σ H => ta σ H fun vs H1 => ∃ v w, vs = [v, w] ∧ D.nx ((σ.set i (some v)).set j (some w)) H1
def tAug (i : Nat) (te : TE) (ti : TIp) : TS := fun D σ H => ∃ x, σ[i]? = some (some x) ∧ te σ H fun y H1 => ti x y H1 fun z H2 => D.nx (σ.set i (some z)) H2
theorem ps_aug {i : Nat} {x : Str} {e : Expr} {te : TE} {op : Operator} {ti : TIp} {pos' : Pos} (hN : X.N.Nodup) (hi : X.N[i]? = some x) (hx : Loc X.env.scope x) (he : PE X e te) (ho : PIp X op ti) (hf : X.fn x = true ∨ X.env.scope.names.lookup x = some .local := by first | exact .inl rfl | exact .inr rfl | assumption) :
    PS X (.AugAssign (.Name x pos') op e pos) (tAug i te ti) := by
  intro pins s σ H D I h
  obtain ⟨v, e1, h⟩ := h
  obtain ⟨m, hn, hl⟩ := I.loc
  have vis : Vis X.env.scope x := by rcases hx with k | k; exact .inl k; exact .inr (.inl k)
  obtain ⟨u, r, l⟩ := hl i x v hi e1 vis
  refine wpAny_AugAssign_Name ?_
  have go : wpAny (model X.prog X.w) X.A (eval e X.env) (fun w s₂ => wpAny (model X.prog X.w) X.A (inplaceOp op u w) (fun r s₃ => wpAny (model X.prog X.w) X.A (storeName X.env x r) (fun _ => SP X pins D .next) X.xe s₃) X.xe s₂) X.xe s := by
    refine thn (he pins s σ H _ I h) fun w s1 ⟨y, H1, I1, r1, q1⟩ => ?_
    refine thn (ho pins s1 σ H1 v y u w _ I1 r r1 q1) fun z s2 ⟨zv, H2, I2, r2, q2⟩ => ?_
    exact store_ok I2 hN hi hx r2 (fun s3 I3 => ⟨_, H2, I3, q2⟩) hf
  rcases l with ⟨hk, hm⟩ | ⟨hk, c, hc, hcell⟩
  · exact wpAny_loadName_local I.ok.kind hk hn hm go
  · rcases hk with hk | hk
    · exact wpAny_loadName_cell I.ok.kind hk hc hcell go
    · rcases hx with k | k
      · have : X.env.scope.names.lookup x = some .free := hk
        rw [k] at this; cases this
      · have : X.env.scope.names.lookup x = some .free := hk
        rw [k] at this; cases this
def tAugS (to ti te : TE) (tget : V → V → Hp → VK → Prop) (tip : TIp) (tset : TSet) : TS := fun D σ H => to σ H fun o H1 => ti σ H1 fun i H2 => tget o i H2 fun x H3 => te σ H3 fun y H4 => tip x y H4 fun z H5 => tset o i z H5 fun H6 => D.nx σ H6
def PGet (X : Cx) (t : V → V → Hp → VK → Prop) : Prop :=
  ∀ (pins : List (Addr × Obj)) (s : Shared) (σ : St) (H : Hp) (o i : V) (ov iv : Value) (Q : VK), Inv X pins σ H s → RelV o ov → RelV i iv → t o i H Q →
    wpAny (model X.prog X.w) X.A (getItem ov iv) (EP X pins σ Q) X.xe s
def ipI (f : Int → Int → Int) : TIp := fun x y H Q => ∃ i j, x = .int i ∧ y = .int j ∧ Q (.int (f i j)) H
theorem ip_add : PIp X .Add (ipI fun i j => i + j) := by
  intro pins s σ H x y v u Q I r1 r2 h
  obtain ⟨i, j, e1, e2, q⟩ := h
  subst e1; subst e2
  obtain ⟨t, rfl⟩ := r1
  obtain ⟨t', rfl⟩ := r2
  exact iadd_int ⟨.int _, H, I.tok _, ⟨_, rfl⟩, q⟩
end
section
variable {X : Cx} {pos : Pos}
def tWhile (c : TT) (tb : TS) : TS := fun D σ H => ∃ W : Nat → St → Hp → Prop, (∃ m, W m σ H) ∧ ∀ m σ H, W m σ H →
  c σ H fun b H1 => if b = true then ∃ N : St → Hp → Prop, (∀ σ' H', N σ' H' → ∃ m', m' < m ∧ W m' σ' H') ∧ tb { D with nx := N, ct := N, bk := D.nx } σ H1 else D.nx σ H1
theorem ps_while {c : Expr} {body : List Stmt} {tc : TT} {tb : TS} (hp : PassesOwn (model X.prog X.w) X.A X.env X.xe) (hc : PT X c tc) (hb : PSs X body tb) : PS X (.While c body [] pos) (tWhile tc tb) := by
  intro pins s σ H D I h
  obtain ⟨W, ⟨m0, w0⟩, turn⟩ := h
  refine wpAny_While (codeAny_whileLoop (fun n s' => ∃ σ' H', Inv X pins σ' H' s' ∧ W n σ' H') ?_ m0 ⟨σ, H, I, w0⟩)
  rintro n s1 ⟨σ1, H1, I1, w1⟩
  refine wpAny_passesOwn hp (thn (hc pins s1 σ1 H1 _ I1 (turn n σ1 H1 w1)) fun b s2 ⟨H2, I2, q2⟩ => ?_)
  cases b with
  | true =>
    obtain ⟨N, hN, q2⟩ := q2
    rw [if_pos rfl]
    refine wpAny_passesOwn hp (thn (hb pins s2 σ1 H2 _ I2 q2) fun f s3 q3 => ?_)
    cases f with
    | next =>
      obtain ⟨σ3, H3, I3, n3⟩ := q3
      obtain ⟨m', hm, w3⟩ := hN σ3 H3 n3
      exact ⟨m', hm, σ3, H3, I3, w3⟩
    | cont =>
      obtain ⟨σ3, H3, I3, n3⟩ := q3
      obtain ⟨m', hm, w3⟩ := hN σ3 H3 n3
      exact ⟨m', hm, σ3, H3, I3, w3⟩
    | brk => exact q3
    | ret v => exact q3
  | false =>
    rw [if_neg Bool.false_ne_true]
    exact wpAny_execs_nil ⟨σ1, H2, I2, q2⟩
end
structure It where
  go : Nat → Hp → Prop
  yld : Nat → Hp → V → Hp → Prop
  stop : Nat → Hp → Prop
def FpOk (X : Cx) (pins : List (Addr × Obj)) (H : Hp) (b : Addr) : Prop :=
  H b = none ∧ b ≠ X.env.locals ∧ b ∉ X.fs ∧ (b ∈ X.ex ∨ X.s₀.heap.objs.size ≤ b) ∧ (∀ x c, X.env.cells.lookup x = some c → c ≠ b) ∧ ∀ p ∈ X.pn ++ pins, p.1 ≠ b
theorem Inv.fpOk {X : Cx} {pins : List (Addr × Obj)} {σ : St} {H H' : Hp} {s : Shared} {b : Addr} (I : Inv X pins σ H s) (hb : s.heap.objs.size ≤ b) (hn : H' b = none) : FpOk X pins H' b := by
  refine ⟨hn, Nat.ne_of_gt (Nat.lt_of_lt_of_le I.lt hb), I.nofs hb, .inr (Nat.le_trans I.sz hb), fun x c e z => ?_, fun p hp z => ?_⟩
  · obtain ⟨v, q⟩ := I.cell x c e
    exact absurd (Nat.lt_of_lt_of_le q.lt (by rw [z]; exact hb)) (Nat.lt_irrefl _)
  · exact absurd (Nat.lt_of_lt_of_le (Heap.lt_size (I.pin p hp).1) (by rw [z]; exact hb)) (Nat.lt_irrefl _)
structure Turn (P : Program) (w : World) (K : PySem.W.Frag) (tg : Expr) (J : It) (fp : List Addr) (it : Addr) (tn : Nat → Heap → Prop) : Prop where
  mem : it ∈ fp
  obj : ∀ i h, tn i h → ∀ b ∈ fp, ∃ o, h.get? b = some o ∧ ∀ v, o.data ≠ .cell v
  keep : ∀ i h h', tn i h → (∀ b ∈ fp, ∀ o, h.get? b = some o → h'.get? b = some o) → tn i h'
  item : ∀ (X : Cx), X.prog = P → X.w = w → X.K = K → X.calm = true → ∀ (i : Nat) (pins : List (Addr × Obj)) (s : Shared) (σ : St) (H : Hp) (E : Value → Shared → Prop), Inv X pins σ H s → (∀ b ∈ fp, FpOk X pins H b) → tn i s.heap → J.go i H →
    wpAny (model P w) X.A (pyNext (.ref it)) (fun r s1 => ∃ u, r = some u ∧
      wpAny (model P w) X.A (letOwnedTupleGo tg (.ref it) u) (fun _ s2 => ∃ x H', Inv X pins σ H' s2 ∧ RelV x u ∧ J.yld i H x H' ∧ tn (i + 1) s2.heap ∧ ∀ b ∈ fp, H' b = none) E s1) E s
  done : ∀ (X : Cx), X.prog = P → X.w = w → X.K = K → X.calm = true → ∀ (i : Nat) (pins : List (Addr × Obj)) (s : Shared) (σ : St) (H : Hp) (E : Value → Shared → Prop), Inv X pins σ H s → (∀ b ∈ fp, FpOk X pins H b) → tn i s.heap → J.stop i H →
    wpAny (model P w) X.A (pyNext (.ref it)) (fun r s1 => r = none ∧ Inv X pins σ H s1) E s
  self : ∀ (A : Around) (i : Nat) (s : Shared) (Q : Value → Shared → Prop) (E : Value → Shared → Prop), tn i s.heap → Q (.ref it) s → wpAny (model P w) A (pyIter (.ref it)) Q E s
abbrev TI := St → Hp → (It → Hp → Prop) → Prop
def PIE (X : Cx) (pins : List (Addr × Obj)) (σ : St) (tg : Expr) (R : It → Hp → Prop) (itv : Value) (s2 : Shared) : Prop :=
  ∃ (it : Addr) (fp : List Addr) (tn : Nat → Heap → Prop) (J : It) (H' : Hp), itv = .ref it ∧ Inv X pins σ H' s2 ∧ Turn X.prog X.w X.K tg J fp it tn ∧ tn 0 s2.heap ∧ (∀ b ∈ fp, FpOk X pins H' b) ∧ R J H'
def PI (X : Cx) (tg iter : Expr) (wi : TI) : Prop :=
  ∀ (pins : List (Addr × Obj)) (s : Shared) (σ : St) (H : Hp) (R : It → Hp → Prop), Inv X pins σ H s → wi σ H R →
    wpAny (model X.prog X.w) X.A (eval iter X.env) (fun v s1 => wpAny (model X.prog X.w) X.A (pyIter v) (PIE X pins σ tg R) X.xe s1) X.xe s
theorem go_of {M : Model} {A : Around} {E : Value → Shared → Prop} {s : Shared} {tg : Expr} {it : Addr} {u : Value} {o : Obj} {n : String} {vs : Array Value} {Q : Unit → Shared → Prop} (ho : s.heap.get? it = some o) (hc : o.cls = .type n) (hd : o.data = .fields vs)
    (hn : ["enumerate", "zip", "dict_itemiterator", "dict_reverseitemiterator", "odict_iterator", "itertools.zip_longest", "itertools.pairwise"].contains n = false) (hQ : Q () s) : wpAny M A (letOwnedTupleGo tg (.ref it) u) Q E s := by
  unfold letOwnedTupleGo
  cases tg <;> first
    | exact wpAny_pure hQ
    | (cases u <;> first
        | exact wpAny_pure hQ
        | (refine wpAny_bind (wpAny_load ho ?_)
           rw [hc, hd]
           show wpAny M A (if (["enumerate", "zip", "dict_itemiterator", "dict_reverseitemiterator", "odict_iterator", "itertools.zip_longest", "itertools.pairwise"].contains n && vs[0]? == some (rawInt _)) = true then _ else _) Q E s
           rw [if_neg (by intro h; rw [hn, Bool.false_and] at h; cases h)]
           exact wpAny_pure hQ))
def Itl (K : PySem.W.Frag) (a : Addr) : It :=
  ⟨fun i H => ∃ xs x, SqL K H a xs ∧ xs[i]? = some x, fun i H x H' => H' = H ∧ ∀ xs, SqL K H a xs → xs[i]? = some x, fun i H => ∃ xs, SqL K H a xs ∧ xs.length ≤ i⟩
def Itt (K : PySem.W.Frag) (a : Addr) : It :=
  ⟨fun i H => ∃ xs x, SqT K H a xs ∧ xs[i]? = some x, fun i H x H' => H' = H ∧ ∀ xs, SqT K H a xs → xs[i]? = some x, fun i H => ∃ xs, SqT K H a xs ∧ xs.length ≤ i⟩
def Itr (lo : Int) (n : Nat) : It := ⟨fun i _ => i < n, fun i H x H' => H' = H ∧ x = .int (lo + i), fun i _ => n ≤ i⟩
theorem turn_list {P : Program} {w : World} {K : PySem.W.Frag} {tg : Expr} (a it : Addr) : Turn P w K tg (Itl K a) [it] it (fun i h => h.IsListIter it a i) where
  mem := by simp
  obj := fun i h st b hb => by
    have e : b = it := by simpa using hb
    subst e
    obtain ⟨o, e, c, d⟩ := st
    exact ⟨o, e, fun v z => by rw [d] at z; cases z⟩
  keep := fun i h h' st k => st.at fun o e => k it (by simp) o e
  item := by
    intro X hP hw hK hc i pins s σ H E I hf st hg
    subst hP hw hK
    obtain ⟨xs, x, hq, hx⟩ := hg
    obtain ⟨its, rv, p, hz⟩ := I.list hq
    obtain ⟨u, hu, ru⟩ := rv.get hx
    obtain ⟨f0, f1, f2, f3, f4, f5⟩ := hf it (by simp)
    refine wpAny_pyNext_list_item st p.isList (x := u) (by simpa using hu) fun h' st' sb => ?_
    have I1 : Inv X pins σ H { s with heap := h' } := I.turned (t' := s.toks) (fun b o hb e => (sb.2 b hb).trans e) f0 f1 f3 f4 f5
    obtain ⟨o, e, c, d⟩ := id st'
    exact ⟨u, rfl, go_of (s := { s with heap := h' }) e c d (by decide) ⟨x, H, I1, ru, ⟨rfl, fun ys hy => by rw [I.list_inj hy hq]; exact hx⟩, st', fun b hb => (hf b hb).1⟩⟩
  done := by
    intro X hP hw hK hc i pins s σ H E I hf st hg
    subst hP hw hK
    obtain ⟨xs, hq, hx⟩ := hg
    obtain ⟨its, rv, p, hz⟩ := I.list hq
    obtain ⟨f0, f1, f2, f3, f4, f5⟩ := hf it (by simp)
    have hl := rv.length
    exact wpAny_pyNext_list_end (I.ok.hd hc) st p.isList (by simp; omega) fun h' eb => ⟨rfl, I.turned (t' := s.toks) (fun b o hb e => eb b o hb e) f0 f1 f3 f4 f5⟩
  self := fun _ _ _ _ _ st h => wpAny_pyIter_listiter st h
theorem turn_tuple {P : Program} {w : World} {K : PySem.W.Frag} {tg : Expr} (a it : Addr) : Turn P w K tg (Itt K a) [it] it (fun i h => h.IsTupleIter it a i) where
  mem := by simp
  obj := fun i h st b hb => by
    have e : b = it := by simpa using hb
    subst e
    obtain ⟨o, e, c, d⟩ := st
    exact ⟨o, e, fun v z => by rw [d] at z; cases z⟩
  keep := fun i h h' st k => st.at fun o e => k it (by simp) o e
  item := by
    intro X hP hw hK hc i pins s σ H E I hf st hg
    subst hP hw hK
    obtain ⟨xs, x, hq, hx⟩ := hg
    obtain ⟨its, rv, p, hz⟩ := I.tuple hq
    obtain ⟨u, hu, ru⟩ := rv.get hx
    obtain ⟨f0, f1, f2, f3, f4, f5⟩ := hf it (by simp)
    refine wpAny_pyNext_tuple_item st (show s.heap.IsTuple a its.toArray from p) (x := u) (by simpa using hu) fun h' st' sb => ?_
    have I1 : Inv X pins σ H { s with heap := h' } := I.turned (t' := s.toks) (fun b o hb e => (sb.2 b hb).trans e) f0 f1 f3 f4 f5
    obtain ⟨o, e, c, d⟩ := id st'
    exact ⟨u, rfl, go_of (s := { s with heap := h' }) e c d (by decide) ⟨x, H, I1, ru, ⟨rfl, fun ys hy => by rw [I.tuple_inj hy hq]; exact hx⟩, st', fun b hb => (hf b hb).1⟩⟩
  done := by
    intro X hP hw hK hc i pins s σ H E I hf st hg
    subst hP hw hK
    obtain ⟨xs, hq, hx⟩ := hg
    obtain ⟨its, rv, p, hz⟩ := I.tuple hq
    obtain ⟨f0, f1, f2, f3, f4, f5⟩ := hf it (by simp)
    have hl := rv.length
    exact wpAny_pyNext_tuple_end (I.ok.hd hc) st (show s.heap.IsTuple a its.toArray from p) (by simp; omega) fun h' eb => ⟨rfl, I.turned (t' := s.toks) (fun b o hb e => eb b o hb e) f0 f1 f3 f4 f5⟩
  self := fun _ _ _ _ _ st h => wpAny_pyIter_tupleiter st h
theorem turn_range {P : Program} {w : World} {K : PySem.W.Frag} {tg : Expr} (it : Addr) (lo : Int) (n : Nat) : Turn P w K tg (Itr lo n) [it] it (fun i h => IsRangeIter h it (lo + (i : Nat) * 1) ((n : Int) - (i : Nat)) 1) where
  mem := by simp
  obj := fun i h st b hb => by
    have e : b = it := by simpa using hb
    subst e
    exact ⟨_, st, fun v z => by
      have z' : Data.fields _ = Data.cell v := z
      cases z'⟩
  keep := fun i h h' st k => k it (by simp) _ st
  item := by
    intro X hP hw hK hc i pins s σ H E I hf st hg
    subst hP hw hK
    obtain ⟨f0, f1, f2, f3, f4, f5⟩ := hf it (by simp)
    have W := Walks.range (prog := X.prog) (w := X.w) (I.ok.hd hc) it lo 1 n
    refine W.item i s _ _ hg st fun v h' tk hv st' kk => ?_
    obtain ⟨t, rfl⟩ := hv
    have I1 : Inv X pins σ H { s with heap := h', toks := tk } := I.turned (fun b o hb e => kk b o (by simpa using hb) e) f0 f1 f3 f4 f5
    refine ⟨_, rfl, go_of (s := { s with heap := h', toks := tk }) (n := "range_iterator") st' rfl rfl (by decide) ⟨.int (lo + i), H, I1, ⟨t, ?_⟩, ⟨rfl, rfl⟩, st', fun b hb => (hf b hb).1⟩⟩
    rw [Int.mul_one]
  done := by
    intro X hP hw hK hc i pins s σ H E I hf st hg
    subst hP hw hK
    obtain ⟨f0, f1, f2, f3, f4, f5⟩ := hf it (by simp)
    exact wpAny_pyNext_range_end (I.ok.hd hc) st (by have : n ≤ i := hg; omega) fun h' eb => ⟨rfl, I.turned (t' := s.toks) (fun b o hb e => eb b o hb e) f0 f1 f3 f4 f5⟩
  self := fun _ _ _ _ _ st h => wpAny_pyIter_rangeiter st h
end L2
namespace L2
open PySem PySem.Spec PyProof.Rows
section
variable {X : Cx} {tg : Expr}
def iList (K : PySem.W.Frag) (tl : TE) : TI := fun σ H R => tl σ H fun x H1 => ∃ a, x = .ref a ∧ (∃ xs, SqL K H1 a xs) ∧ R (Itl K a) H1
def iTup (K : PySem.W.Frag) (tl : TE) : TI := fun σ H R => tl σ H fun x H1 => ∃ a, x = .ref a ∧ (∃ xs, SqT K H1 a xs) ∧ R (Itt K a) H1
theorem pi_list {l : Expr} {tl : TE} (hl : PE X l tl) : PI X tg l (iList X.K tl) := by
  intro pins s σ H R I h
  refine thn (hl pins s σ H _ I h) fun v s1 ⟨x, H1, I1, r1, q1⟩ => ?_
  obtain ⟨a, e, ⟨xs, hq⟩, q⟩ := q1
  subst e
  cases r1
  obtain ⟨its, rv, p, hz⟩ := I1.list hq
  refine wpAny_pyIter_list p.isList ?_
  refine ⟨s1.heap.objs.size, [s1.heap.objs.size], _, _, H1, rfl, I1.kept (t' := s1.toks) fun b o e => Heap.get?_push_of_some _ e, turn_list a _, ⟨_, Heap.get?_push_size _ rfl, rfl, rfl⟩, fun b hb => ?_, q⟩
  have e : b = s1.heap.objs.size := by simpa using hb
  subst e
  exact I1.fpOk (Nat.le_refl _) (I1.hok.fresh (Nat.le_refl _))
theorem pi_tup {l : Expr} {tl : TE} (hl : PE X l tl) : PI X tg l (iTup X.K tl) := by
  intro pins s σ H R I h
  refine thn (hl pins s σ H _ I h) fun v s1 ⟨x, H1, I1, r1, q1⟩ => ?_
  obtain ⟨a, e, ⟨xs, hq⟩, q⟩ := q1
  subst e
  cases r1
  obtain ⟨its, rv, p, hz⟩ := I1.tuple hq
  refine wpAny_pyIter_tuple (show s1.heap.IsTuple a its.toArray from p) ?_
  refine ⟨s1.heap.objs.size, [s1.heap.objs.size], _, _, H1, rfl, I1.kept (t' := s1.toks) fun b o e => Heap.get?_push_of_some _ e, turn_tuple a _, ⟨_, Heap.get?_push_size _ rfl, rfl, rfl⟩, fun b hb => ?_, q⟩
  have e : b = s1.heap.objs.size := by simpa using hb
  subst e
  exact I1.fpOk (Nat.le_refl _) (I1.hok.fresh (Nat.le_refl _))
theorem range_it {pins : List (Addr × Obj)} {σ : St} {H : Hp} {s : Shared} {R : It → Hp → Prop} {E : Value → Shared → Prop} {lo hi : Int} {t u v : Tok} {tk : Nat} (I : Inv X pins σ H s) (h1 : -(2 ^ 62) ≤ lo) (h2 : lo < 2 ^ 62) (h3 : -(2 ^ 62) ≤ hi) (h4 : hi < 2 ^ 62)
    (q : R (Itr lo (hi - lo).toNat) H) : wpAny (model X.prog X.w) X.A (pyIter (.ref s.heap.objs.size)) (PIE X pins σ tg R) E { s with heap := s.heap.push { cls := .type "range", data := .fields #[.int lo t, .int hi u, .int 1 v] }, toks := tk } := by
  refine wpAny_pyIter_range (IsRange.new ..) (small_one h1 h2 h3 h4) ?_
  have I1 : Inv X pins σ H { s with heap := s.heap.push { cls := .type "range", data := .fields #[.int lo t, .int hi u, .int 1 v] }, toks := tk } := I.kept fun b o e => Heap.get?_push_of_some _ e
  refine ⟨(s.heap.push { cls := .type "range", data := .fields #[.int lo t, .int hi u, .int 1 v] }).objs.size, [(s.heap.push { cls := .type "range", data := .fields #[.int lo t, .int hi u, .int 1 v] }).objs.size], _, _, H, rfl,
    I1.kept (t' := tk) fun b o e => Heap.get?_push_of_some _ e, turn_range _ lo (hi - lo).toNat, ?_, fun b hb => ?_, q⟩
  · have e1 : lo + ((0 : Nat) : Int) * 1 = lo := by simp
    have e2 : (((hi - lo).toNat : Nat) : Int) - ((0 : Nat) : Int) = Builtin.Range.rangeSize lo hi 1 := by rw [rangeSize_one]; split <;> omega
    show IsRangeIter _ _ (lo + ((0 : Nat) : Int) * 1) ((((hi - lo).toNat : Nat) : Int) - ((0 : Nat) : Int)) 1
    rw [e1, e2]
    exact Heap.get?_push_size _ rfl
  · have e : b = (s.heap.push { cls := .type "range", data := .fields #[.int lo t, .int hi u, .int 1 v] }).objs.size := by simpa using hb
    subst e
    exact I1.fpOk (Nat.le_refl _) (I1.hok.fresh (Nat.le_refl _))
def iRng1 (ta : TA) : TI := fun σ H R => ta σ H fun vs H1 => ∃ j : Int, vs = [.int j] ∧ -(2 ^ 62) ≤ j ∧ j < 2 ^ 62 ∧ R (Itr 0 j.toNat) H1
def iRng2 (ta : TA) : TI := fun σ H R => ta σ H fun vs H1 => ∃ i j : Int, vs = [.int i, .int j] ∧ (-(2 ^ 62) ≤ i ∧ i < 2 ^ 62 ∧ -(2 ^ 62) ≤ j ∧ j < 2 ^ 62) ∧ R (Itr i (j - i).toNat) H1
theorem pi_range1 {a : Expr} {ta : TA} {p pos : Pos} (hg : Gl X "range") (hm : X.mg "range" = none) (ha : PA X [a] ta) (hs : starEach [a] X.env = [(false, eval a X.env)] := by rfl) : PI X tg (.Call (.Name "range" p) [a] [] pos) (iRng1 ta) := by
  intro pins s σ H R I h
  refine Call_ (ld_blt I hg hm boot_range (PyProof.Rows.callWith_type1 (thn (ha pos pins s σ H _ I h) fun us s1 ⟨vs, H1, I1, r1, q1⟩ => ?_) hs rfl))
  obtain ⟨j, e, q1, q2, q⟩ := q1
  subst e
  cases r1 with
  | cons r rr =>
    cases rr
    obtain ⟨t, rfl⟩ := r
    exact call_range_1 (range_it I1 (by omega) (by omega) q1 q2 (by simpa using q))
def tFor (wi : TI) (g : TG) (tb : TS) : TS := fun D σ H => wi σ H fun J H1 => ∃ W : Nat → Nat → St → Hp → Prop, (∃ m, W 0 m σ H1) ∧ ∀ i m σ H, W i m σ H →
  (J.stop i H ∧ D.nx σ H) ∨ (J.go i H ∧ ∃ N : St → Hp → Prop, (∀ σ' H', N σ' H' → ∃ m', m' < m ∧ W (i + 1) m' σ' H') ∧ ∀ x H', J.yld i H x H' → g x σ H' fun σ2 H2 => tb { D with nx := N, ct := N, bk := D.nx } σ2 H2)
def pinsAt (fp : List Addr) (h : Heap) : List (Addr × Obj) := fp.filterMap fun b => (h.get? b).map fun o => (b, o)
theorem mem_pinsAt {fp : List Addr} {h : Heap} {b : Addr} {o : Obj} (hb : b ∈ fp) (e : h.get? b = some o) : (b, o) ∈ pinsAt fp h := List.mem_filterMap.mpr ⟨b, hb, by rw [e]; rfl⟩
theorem of_pinsAt {fp : List Addr} {h : Heap} {p : Addr × Obj} (hp : p ∈ pinsAt fp h) : p.1 ∈ fp ∧ h.get? p.1 = some p.2 := by
  obtain ⟨b, hb, e⟩ := List.mem_filterMap.mp hp
  cases q : h.get? b with
  | none => rw [q] at e; cases e
  | some o =>
    rw [q] at e
    have e' : (b, o) = p := Option.some.inj e
    subst e'
    exact ⟨hb, q⟩
theorem Inv.pinned {pins : List (Addr × Obj)} {σ : St} {H : Hp} {s : Shared} {fp : List Addr} (I : Inv X pins σ H s) (hf : ∀ b ∈ fp, FpOk X pins H b) (ho : ∀ b ∈ fp, ∃ o, s.heap.get? b = some o ∧ ∀ v, o.data ≠ .cell v) : Inv X (pins ++ pinsAt fp s.heap) σ H s :=
  I.pins_of fun p hp => (List.mem_append.mp hp).elim (fun z => I.pin p (List.mem_append_right _ z)) fun z => by
    obtain ⟨hb, e⟩ := of_pinsAt z
    obtain ⟨f0, f1, f2, _⟩ := hf p.1 hb
    obtain ⟨o, e', d⟩ := ho p.1 hb
    rw [e] at e'; cases e'
    exact ⟨e, f0, f1, f2, d⟩
theorem Inv.unpinned {pins pl : List (Addr × Obj)} {σ : St} {H : Hp} {s : Shared} (I : Inv X (pins ++ pl) σ H s) : Inv X pins σ H s := I.pins_of fun p hp => I.pin p (List.mem_append_right _ (List.mem_append_left _ hp))
theorem ps_for {iter : Expr} {body : List Stmt} {wi : TI} {g : TG} {tb : TS} {pos : Pos} (hp : PassesOwn (model X.prog X.w) X.A X.env X.xe) (hc : X.calm = true) (hi : PI X tg iter wi) (hg : PG X tg g) (hb : PSs X body tb)
    (hs : ∀ x, foldedSetIterable iter X.env x = pure x := by intro _; rfl) : PS X (.For tg iter body [] pos) (tFor wi g tb) := by
  intro pins s σ H D I h
  refine wpAny_For (thn (hi pins s σ H _ I h) fun v s1 h1 => thn h1 fun itv s2 h2 => ?_) hs
  obtain ⟨it, fp, tn, J, H2, e, I2, T, st2, f2, W, ⟨m0, w0⟩, turn⟩ := h2
  subst e
  have stat : ∀ {H' : Hp}, (∀ b ∈ fp, H' b = none) → ∀ b ∈ fp, FpOk X pins H' b := fun hn b hb => ⟨hn b hb, (f2 b hb).2⟩
  refine codeAny_forLoop_any (fun n s' => ∃ i σ' H', Inv X pins σ' H' s' ∧ tn i s'.heap ∧ (∀ b ∈ fp, H' b = none) ∧ W i n σ' H') ?_ m0 ⟨0, σ, H2, I2, st2, fun b hb => (f2 b hb).1, w0⟩
  rintro n s3 ⟨i, σ3, H3, I3, st3, fr3, w3⟩
  rcases turn i n σ3 H3 w3 with ⟨stop, qn⟩ | ⟨go, N, hN, step⟩
  · refine wpAny_passesOwn hp (thn (T.done X rfl rfl rfl hc i pins s3 σ3 H3 X.xe I3 (stat fr3) st3 stop) fun r s4 ⟨hr, I4⟩ => ?_)
    subst hr
    exact wpAny_execs_nil ⟨σ3, H3, I4, qn⟩
  · refine wpAny_passesOwn hp (thn (T.item X rfl rfl rfl hc i pins s3 σ3 H3 X.xe I3 (stat fr3) st3 go) fun r s4 ⟨u, hr, h4⟩ => ?_)
    subst hr
    refine wpAny_passesOwn hp (thn h4 fun _ s5 ⟨x, H5, I5, r5, y5, st5, fr5⟩ => ?_)
    have I5' := I5.pinned (stat fr5) (T.obj _ _ st5)
    refine wpAny_passesOwn hp (thn (hg _ s5 σ3 H5 x u _ I5' r5 (step x H5 y5)) fun _ s6 ⟨σ6, H6, I6, q6⟩ => ?_)
    refine wpAny_passesOwn hp (thn (hb _ s6 σ6 H6 _ I6 q6) fun f s7 q7 => ?_)
    have again : ∀ {σ7 : St} {H7 : Hp}, Inv X (pins ++ pinsAt fp s5.heap) σ7 H7 s7 → N σ7 H7 → ∃ m, m < n ∧ ∃ i σ' H', Inv X pins σ' H' s7 ∧ tn i s7.heap ∧ (∀ b ∈ fp, H' b = none) ∧ W i m σ' H' := fun {σ7 H7} I7 n7 => by
      obtain ⟨m', hm, w7⟩ := hN σ7 H7 n7
      refine ⟨m', hm, i + 1, σ7, H7, I7.unpinned, T.keep _ _ _ st5 fun b hb o e => (I7.pin (b, o) (List.mem_append_right _ (List.mem_append_right _ (mem_pinsAt hb e)))).1, fun b hb => ?_, w7⟩
      obtain ⟨o, e, d⟩ := T.obj _ _ st5 b hb
      exact (I7.pin (b, o) (List.mem_append_right _ (List.mem_append_right _ (mem_pinsAt hb e)))).2.1
    cases f with
    | next => obtain ⟨σ7, H7, I7, n7⟩ := q7; exact again I7 n7
    | cont => obtain ⟨σ7, H7, I7, n7⟩ := q7; exact again I7 n7
    | brk => obtain ⟨σ7, H7, I7, q7⟩ := q7; exact ⟨σ7, H7, I7.unpinned, q7⟩
    | ret v => obtain ⟨x7, σ7, H7, I7, r7, q7⟩ := q7; exact ⟨x7, σ7, H7, I7.unpinned, r7, q7⟩
end
theorem for_list {K : PySem.W.Frag} {a : Addr} {xs : List V} {g : TG} {tb : TS} {D : Ends} {σ : St} {H : Hp} (Pv : Nat → St → Hp → Prop) (h0 : Pv 0 σ H) (hl : ∀ i σ H, i ≤ xs.length → Pv i σ H → SqL K H a xs)
    (hs : ∀ i x σ H, xs[i]? = some x → Pv i σ H → g x σ H fun σ2 H2 => tb { D with nx := Pv (i + 1), ct := Pv (i + 1), bk := D.nx } σ2 H2) (hd : ∀ σ H, Pv xs.length σ H → D.nx σ H) :
    ∃ W : Nat → Nat → St → Hp → Prop, (∃ m, W 0 m σ H) ∧ ∀ i m σ H, W i m σ H →
      ((Itl K a).stop i H ∧ D.nx σ H) ∨ ((Itl K a).go i H ∧ ∃ N : St → Hp → Prop, (∀ σ' H', N σ' H' → ∃ m', m' < m ∧ W (i + 1) m' σ' H') ∧ ∀ x H', (Itl K a).yld i H x H' → g x σ H' fun σ2 H2 => tb { D with nx := N, ct := N, bk := D.nx } σ2 H2) := by
  refine ⟨fun i m σ H => m = xs.length - i ∧ i ≤ xs.length ∧ Pv i σ H, ⟨xs.length, by simp, Nat.zero_le _, h0⟩, ?_⟩
  rintro i m σ H ⟨rfl, hi, p⟩
  have q := hl i σ H hi p
  by_cases hlt : i < xs.length
  · refine .inr ⟨⟨xs, xs[i], q, by simp [hlt]⟩, Pv (i + 1), fun σ' H' p' => ⟨xs.length - (i + 1), by omega, rfl, hlt, p'⟩, fun x H' y => ?_⟩
    obtain ⟨e, y⟩ := y
    subst e
    exact hs i x σ _ (y xs q) p
  · have e : i = xs.length := by omega
    subst e
    exact .inl ⟨⟨xs, q, Nat.le_refl _⟩, hd σ H p⟩
theorem for_tup {K : PySem.W.Frag} {a : Addr} {xs : List V} {g : TG} {tb : TS} {D : Ends} {σ : St} {H : Hp} (Pv : Nat → St → Hp → Prop) (h0 : Pv 0 σ H) (hl : ∀ i σ H, i ≤ xs.length → Pv i σ H → SqT K H a xs)
    (hs : ∀ i x σ H, xs[i]? = some x → Pv i σ H → g x σ H fun σ2 H2 => tb { D with nx := Pv (i + 1), ct := Pv (i + 1), bk := D.nx } σ2 H2) (hd : ∀ σ H, Pv xs.length σ H → D.nx σ H) :
    ∃ W : Nat → Nat → St → Hp → Prop, (∃ m, W 0 m σ H) ∧ ∀ i m σ H, W i m σ H →
      ((Itt K a).stop i H ∧ D.nx σ H) ∨ ((Itt K a).go i H ∧ ∃ N : St → Hp → Prop, (∀ σ' H', N σ' H' → ∃ m', m' < m ∧ W (i + 1) m' σ' H') ∧ ∀ x H', (Itt K a).yld i H x H' → g x σ H' fun σ2 H2 => tb { D with nx := N, ct := N, bk := D.nx } σ2 H2) := by
  refine ⟨fun i m σ H => m = xs.length - i ∧ i ≤ xs.length ∧ Pv i σ H, ⟨xs.length, by simp, Nat.zero_le _, h0⟩, ?_⟩
  rintro i m σ H ⟨rfl, hi, p⟩
  have q := hl i σ H hi p
  by_cases hlt : i < xs.length
  · refine .inr ⟨⟨xs, xs[i], q, by simp [hlt]⟩, Pv (i + 1), fun σ' H' p' => ⟨xs.length - (i + 1), by omega, rfl, hlt, p'⟩, fun x H' y => ?_⟩
    obtain ⟨e, y⟩ := y
    subst e
    exact hs i x σ _ (y xs q) p
  · have e : i = xs.length := by omega
    subst e
    exact .inl ⟨⟨xs, q, Nat.le_refl _⟩, hd σ H p⟩
theorem for_range {lo : Int} {n : Nat} {g : TG} {tb : TS} {D : Ends} {σ : St} {H : Hp} (Pv : Nat → St → Hp → Prop) (h0 : Pv 0 σ H)
    (hs : ∀ i σ H, i < n → Pv i σ H → g (.int (lo + i)) σ H fun σ2 H2 => tb { D with nx := Pv (i + 1), ct := Pv (i + 1), bk := D.nx } σ2 H2) (hd : ∀ σ H, Pv n σ H → D.nx σ H) :
    ∃ W : Nat → Nat → St → Hp → Prop, (∃ m, W 0 m σ H) ∧ ∀ i m σ H, W i m σ H →
      ((Itr lo n).stop i H ∧ D.nx σ H) ∨ ((Itr lo n).go i H ∧ ∃ N : St → Hp → Prop, (∀ σ' H', N σ' H' → ∃ m', m' < m ∧ W (i + 1) m' σ' H') ∧ ∀ x H', (Itr lo n).yld i H x H' → g x σ H' fun σ2 H2 => tb { D with nx := N, ct := N, bk := D.nx } σ2 H2) := by
  refine ⟨fun i m σ H => m = n - i ∧ i ≤ n ∧ Pv i σ H, ⟨n, by simp, Nat.zero_le _, h0⟩, ?_⟩
  rintro i m σ H ⟨rfl, hi, p⟩
  by_cases hlt : i < n
  · refine .inr ⟨hlt, Pv (i + 1), fun σ' H' p' => ⟨n - (i + 1), by omega, rfl, hlt, p'⟩, fun x H' y => ?_⟩
    obtain ⟨e, y⟩ := y
    subst e y
    exact hs i σ _ hlt p
  · have e : i = n := by omega
    subst e
    exact .inl ⟨Nat.le_refl _, hd σ H p⟩
end L2
namespace L2
open PySem PySem.Spec PyProof.Rows
abbrev R2 := V → V → Hp → VK → Prop
def OpR (X : Cx) (f : Value → Value → Sem Value) (r : R2) : Prop :=
  ∀ (pins : List (Addr × Obj)) (s : Shared) (σ : St) (H : Hp) (x y : V) (v u : Value) (Q : VK), Inv X pins σ H s → RelV x v → RelV y u → r x y H Q →
    wpAny (model X.prog X.w) X.A (f v u) (EP X pins σ Q) X.xe s
def UnR (X : Cx) (f : Value → Sem Value) (r : V → Hp → VK → Prop) : Prop :=
  ∀ (pins : List (Addr × Obj)) (s : Shared) (σ : St) (H : Hp) (x : V) (v : Value) (Q : VK), Inv X pins σ H s → RelV x v → r x H Q →
    wpAny (model X.prog X.w) X.A (f v) (EP X pins σ Q) X.xe s
def CallR (X : Cx) (f : Value) (r : List V → Hp → VK → Prop) : Prop :=
  ∀ (pins : List (Addr × Obj)) (s : Shared) (σ : St) (H : Hp) (xs : List V) (us : List Value) (Q : VK), Inv X pins σ H s → Vals xs us → r xs H Q →
    wpAny (model X.prog X.w) X.A (call f us) (EP X pins σ Q) X.xe s
def TruR (X : Cx) (r : V → Hp → (Bool → Hp → Prop) → Prop) : Prop :=
  ∀ (pins : List (Addr × Obj)) (s : Shared) (σ : St) (H : Hp) (x : V) (v : Value) (Q : Bool → Hp → Prop), Inv X pins σ H s → RelV x v → r x H Q →
    wpAny (model X.prog X.w) X.A (truthy v) (TP X pins σ Q) X.xe s
def tOp (r : R2) (ta tb : TE) : TE := fun σ H Q => ta σ H fun x H1 => tb σ H1 fun y H2 => r x y H2 Q
def tUn (r : V → Hp → VK → Prop) (ta : TE) : TE := fun σ H Q => ta σ H fun x H1 => r x H1 Q
def rI (C : Int → Int → Prop) (g : Int → Int → V) : R2 := fun x y H Q => ∃ i j, x = .int i ∧ y = .int j ∧ C i j ∧ Q (g i j) H
def rI0 (g : Int → Int → V) : R2 := fun x y H Q => ∃ i j, x = .int i ∧ y = .int j ∧ Q (g i j) H
def rU (g : Int → V) : V → Hp → VK → Prop := fun x H Q => ∃ i, x = .int i ∧ Q (g i) H
section
variable {X : Cx} {a b c : Expr} {ta tb tc : TE} {pos : Pos}
theorem binT (ha : PE X a ta) (hb : PE X b tb) {pins : List (Addr × Obj)} {s : Shared} {σ : St} {H : Hp} {R : V → V → Hp → Prop} (I : Inv X pins σ H s)
    (h : ta σ H fun x H1 => tb σ H1 fun y H2 => R x y H2) {Q : Value → Shared → Prop} {f : Value → Value → Sem Value}
    (hf : ∀ v u s2 x y H2, Inv X pins σ H2 s2 → RelV x v → RelV y u → R x y H2 → wpAny (model X.prog X.w) X.A (f v u) Q X.xe s2) :
    wpAny (model X.prog X.w) X.A (eval a X.env) (fun v s₁ => wpAny (model X.prog X.w) X.A (eval b X.env) (fun u s₂ => wpAny (model X.prog X.w) X.A (f v u) Q X.xe s₂) X.xe s₁) X.xe s := by
  refine thn (ha pins s σ H _ I h) fun v s1 ⟨x, H1, I1, r1, q1⟩ => ?_
  refine thn (hb pins s1 σ H1 _ I1 q1) fun u s2 ⟨y, H2, I2, r2, q2⟩ => ?_
  exact hf v u s2 x y H2 I2 r1 r2 q2
theorem pe_op {op : Operator} {r : R2} (ho : OpR X (binaryOp op) r) (ha : PE X a ta) (hb : PE X b tb) : PE X (.BinOp a op b pos) (tOp r ta tb) := by
  intro pins s σ H Q I h
  exact wpAny_BinOp (binT ha hb I h fun v u s2 x y H2 I2 rx ry q => ho pins s2 σ H2 x y v u Q I2 rx ry q)
theorem pe_un {op : UnaryOp} {r : V → Hp → VK → Prop} (ho : UnR X (unaryOp op) r) (ha : PE X a ta) : PE X (.UnaryOp op a pos) (tUn r ta) := by
  intro pins s σ H Q I h
  exact UnaryOp_ (thn (ha pins s σ H _ I h) fun v s1 ⟨x, H1, I1, r1, q1⟩ => ho pins s1 σ H1 x v Q I1 r1 q1)
theorem opI {f : Value → Value → Sem Value} {C : Int → Int → Prop} {g : Int → Int → Int}
    (rule : ∀ (i j : Int) (t u : Tok) (s : Shared) (Q : Value → Shared → Prop) (E : Value → Shared → Prop), C i j → Q (.int (g i j) s.toks) { s with toks := s.toks + 1 } → wpAny (model X.prog X.w) X.A (f (.int i t) (.int j u)) Q E s) :
    OpR X f (rI C fun i j => .int (g i j)) := by
  intro pins s σ H x y v u Q I rx ry h
  obtain ⟨i, j, rfl, rfl, hc, q⟩ := h
  obtain ⟨t, rfl⟩ := rx
  obtain ⟨t', rfl⟩ := ry
  exact rule i j t t' s _ _ hc ⟨.int (g i j), H, I.tok _, ⟨_, rfl⟩, q⟩
theorem opI0 {f : Value → Value → Sem Value} {g : Int → Int → Int}
    (rule : ∀ (i j : Int) (t u : Tok) (s : Shared) (Q : Value → Shared → Prop) (E : Value → Shared → Prop), Q (.int (g i j) s.toks) { s with toks := s.toks + 1 } → wpAny (model X.prog X.w) X.A (f (.int i t) (.int j u)) Q E s) :
    OpR X f (rI0 fun i j => .int (g i j)) := by
  intro pins s σ H x y v u Q I rx ry h
  obtain ⟨i, j, rfl, rfl, q⟩ := h
  obtain ⟨t, rfl⟩ := rx
  obtain ⟨t', rfl⟩ := ry
  exact rule i j t t' s _ _ ⟨.int (g i j), H, I.tok _, ⟨_, rfl⟩, q⟩
theorem opB0 {f : Value → Value → Sem Value} {g : Int → Int → Bool}
    (rule : ∀ (i j : Int) (t u : Tok) (s : Shared) (Q : Value → Shared → Prop) (E : Value → Shared → Prop), Q (.bool (g i j)) s → wpAny (model X.prog X.w) X.A (f (.int i t) (.int j u)) Q E s) :
    OpR X f (rI0 fun i j => .bl (g i j)) := by
  intro pins s σ H x y v u Q I rx ry h
  obtain ⟨i, j, rfl, rfl, q⟩ := h
  obtain ⟨t, rfl⟩ := rx
  obtain ⟨t', rfl⟩ := ry
  exact rule i j t t' s _ _ ⟨.bl (g i j), H, I, rfl, q⟩
def CDiv (i j : Int) : Prop := 0 < j ∧ j < 1073741824
def CDivN (i j : Int) : Prop := j ≠ 0 ∧ j.natAbs < 1073741824
def CPow (i j : Int) : Prop := 0 ≤ j ∧ j ≤ 1000000 ∧ i.natAbs < 2 ^ 64
def CMul (i j : Int) : Prop := (-(2 ^ 64) < i ∧ i < 2 ^ 64) ∨ (-(2 ^ 64) < j ∧ j < 2 ^ 64)
theorem CMul.ok {i j : Int} (h : CMul i j) : IntMulOk i j := by
  rcases h with ⟨h1, h2⟩ | ⟨h1, h2⟩
  · exact .of_left (intBits_le_64 h1 h2)
  · exact .of_right (intBits_le_64 h1 h2)
theorem op_add : OpR X (binaryOp .Add) (rI0 fun i j => .int (i + j)) := opI0 fun _ _ _ _ _ _ _ q => add_int q
theorem op_sub : OpR X (binaryOp .Sub) (rI0 fun i j => .int (i - j)) := opI0 fun _ _ _ _ _ _ _ q => sub_int q
theorem op_mul : OpR X (binaryOp .Mult) (rI CMul fun i j => .int (i * j)) := opI fun _ _ _ _ _ _ _ hc q => mul_int q hc.ok
theorem op_mod : OpR X (binaryOp .Mod) (rI (fun _ j => 0 < j) fun i j => .int (i % j)) := opI fun i j _ _ _ _ _ hc q => by
  have h1 : (0 : Int) < j := hc
  exact mod_int' (by omega) (by rw [Int.fmod_eq_emod_of_nonneg i (by omega)]; exact q)
theorem unI {f : Value → Sem Value} {g : Int → Int}
    (rule : ∀ (i : Int) (t : Tok) (s : Shared) (Q : Value → Shared → Prop) (E : Value → Shared → Prop), Q (.int (g i) s.toks) { s with toks := s.toks + 1 } → wpAny (model X.prog X.w) X.A (f (.int i t)) Q E s) :
    UnR X f (rU fun i => .int (g i)) := by
  intro pins s σ H x v Q I rx h
  obtain ⟨i, rfl, q⟩ := h
  obtain ⟨t, rfl⟩ := rx
  exact rule i t s _ _ ⟨.int (g i), H, I.tok _, ⟨_, rfl⟩, q⟩
theorem un_neg : UnR X (unaryOp .USub) (rU fun i => .int (-i)) := unI fun _ _ _ _ _ q => neg_int q
end
def scal : V → V → Bool
  | .non, .non => true | .non, .int _ => true | .int _, .non => true | .non, .bl _ => true | .bl _, .non => true | .non, .str _ => true | .str _, .non => true
  | .int _, .int _ => true | .bl _, .bl _ => true | .str _, .str _ => true | .byt _, .byt _ => true
  | .int _, .str _ => true | .str _, .int _ => true | .bl _, .str _ => true | .str _, .bl _ => true
  | _, _ => false
def rEq : R2 := fun x y H Q => scal x y = true ∧ Q (.bl (decide (x = y))) H
def rNe : R2 := fun x y H Q => scal x y = true ∧ Q (.bl (!decide (x = y))) H
theorem dec_int {i j : Int} : decide (V.int i = V.int j) = (i == j) := by
  rw [Bool.eq_iff_iff]
  simp
theorem dec_bl {i j : Bool} : decide (V.bl i = V.bl j) = (i == j) := by
  rw [Bool.eq_iff_iff]
  simp
theorem dec_str {i j : Str} : decide (V.str i = V.str j) = (i == j) := by
  rw [Bool.eq_iff_iff]
  simp
theorem dec_byt {i j : Array UInt8} : decide (V.byt i = V.byt j) = (i.toList == j.toList) := by
  rw [Bool.eq_iff_iff]
  cases i
  cases j
  simp
section
variable {X : Cx} {a b c : Expr} {ta tb tc : TE} {pos : Pos}
theorem fin_bl {pins : List (Addr × Obj)} {σ : St} {H : Hp} {s : Shared} {Q : VK} {k k' : Bool} (I : Inv X pins σ H s) (q : Q (.bl k) H) (e : k = k') : EP X pins σ Q (.bool k') s := by
  subst e
  exact ⟨.bl k, H, I, rfl, q⟩
theorem op_eq : OpR X (compareOp .Eq) rEq := by
  intro pins s σ H x y v u Q I rx ry h
  obtain ⟨hs, q⟩ := h
  cases x with
  | non =>
    cases rx
    cases y with
    | non => cases ry; exact PySem.EqNone.eq_none_none (fin_bl I q (by simp))
    | bl j => cases ry; exact PySem.EqNone.eq_none_bool (fin_bl I q (by simp))
    | int j => obtain ⟨t', rfl⟩ := ry; exact PySem.EqNone.eq_none_int (fin_bl I q (by simp))
    | str j => obtain ⟨t', rfl⟩ := ry; exact PySem.EqNone.eq_none_str (fin_bl I q (by simp))
    | _ => exact absurd (show false = true from hs) Bool.false_ne_true
  | bl i =>
    cases rx
    cases y with
    | non => cases ry; exact PySem.EqNone.eq_bool_none (fin_bl I q (by simp))
    | bl j => cases ry; exact eq_bool (fin_bl I q dec_bl)
    | str j => obtain ⟨t', rfl⟩ := ry; exact PySem.EqMixed.eq_bool_str (fin_bl I q (by simp))
    | _ => exact absurd (show false = true from hs) Bool.false_ne_true
  | int i =>
    obtain ⟨t, rfl⟩ := rx
    cases y with
    | non => cases ry; exact PySem.EqNone.eq_int_none (fin_bl I q (by simp))
    | int j => obtain ⟨t', rfl⟩ := ry; exact eq_int (fin_bl I q dec_int)
    | str j => obtain ⟨t', rfl⟩ := ry; exact PySem.EqMixed.eq_int_str (fin_bl I q (by simp))
    | _ => exact absurd (show false = true from hs) Bool.false_ne_true
  | str i =>
    obtain ⟨t, rfl⟩ := rx
    cases y with
    | non => cases ry; exact PySem.EqNone.eq_str_none (fin_bl I q (by simp))
    | bl j => cases ry; exact PySem.EqMixed.eq_str_bool (fin_bl I q (by simp))
    | int j => obtain ⟨t', rfl⟩ := ry; exact PySem.EqMixed.eq_str_int (fin_bl I q (by simp))
    | str j => obtain ⟨t', rfl⟩ := ry; exact eq_str (fin_bl I q dec_str)
    | _ => exact absurd (show false = true from hs) Bool.false_ne_true
  | byt i =>
    obtain ⟨t, rfl⟩ := rx
    cases y with
    | byt j => obtain ⟨t', rfl⟩ := ry; exact PySem.W.eq_bytes (fin_bl I q dec_byt)
    | _ => exact absurd (show false = true from hs) Bool.false_ne_true
  | _ => cases y <;> exact absurd (show false = true from hs) Bool.false_ne_true
theorem op_ne : OpR X (compareOp .NotEq) rNe := by
  intro pins s σ H x y v u Q I rx ry h
  obtain ⟨hs, q⟩ := h
  cases x with
  | non =>
    cases rx
    cases y with
    | non => cases ry; exact PySem.EqNone.ne_none_none (fin_bl I q (by simp))
    | bl j => cases ry; exact PySem.EqNone.ne_none_bool (fin_bl I q (by simp))
    | int j => obtain ⟨t', rfl⟩ := ry; exact PySem.EqNone.ne_none_int (fin_bl I q (by simp))
    | str j => obtain ⟨t', rfl⟩ := ry; exact PySem.EqNone.ne_none_str (fin_bl I q (by simp))
    | _ => exact absurd (show false = true from hs) Bool.false_ne_true
  | bl i =>
    cases rx
    cases y with
    | non => cases ry; exact PySem.EqNone.ne_bool_none (fin_bl I q (by simp))
    | bl j => cases ry; exact ne_bool (fin_bl I q (congrArg not dec_bl))
    | str j => obtain ⟨t', rfl⟩ := ry; exact PySem.EqMixed.ne_bool_str (fin_bl I q (by simp))
    | _ => exact absurd (show false = true from hs) Bool.false_ne_true
  | int i =>
    obtain ⟨t, rfl⟩ := rx
    cases y with
    | non => cases ry; exact PySem.EqNone.ne_int_none (fin_bl I q (by simp))
    | int j => obtain ⟨t', rfl⟩ := ry; exact ne_int (fin_bl I q (congrArg not dec_int))
    | str j => obtain ⟨t', rfl⟩ := ry; exact PySem.EqMixed.ne_int_str (fin_bl I q (by simp))
    | _ => exact absurd (show false = true from hs) Bool.false_ne_true
  | str i =>
    obtain ⟨t, rfl⟩ := rx
    cases y with
    | non => cases ry; exact PySem.EqNone.ne_str_none (fin_bl I q (by simp))
    | bl j => cases ry; exact PySem.EqMixed.ne_str_bool (fin_bl I q (by simp))
    | int j => obtain ⟨t', rfl⟩ := ry; exact PySem.EqMixed.ne_str_int (fin_bl I q (by simp))
    | str j => obtain ⟨t', rfl⟩ := ry; exact ne_str (fin_bl I q (congrArg not dec_str))
    | _ => exact absurd (show false = true from hs) Bool.false_ne_true
  | byt i =>
    obtain ⟨t, rfl⟩ := rx
    cases y with
    | byt j => obtain ⟨t', rfl⟩ := ry; exact PySem.W.ne_bytes (fin_bl I q (congrArg not dec_byt))
    | _ => exact absurd (show false = true from hs) Bool.false_ne_true
  | _ => cases y <;> exact absurd (show false = true from hs) Bool.false_ne_true
theorem op_lt : OpR X (compareOp .Lt) (rI0 fun i j => .bl (decide (i < j))) := opB0 fun _ _ _ _ _ _ _ q => lt_int q
theorem op_le : OpR X (compareOp .LtE) (rI0 fun i j => .bl (decide (i ≤ j))) := opB0 fun _ _ _ _ _ _ _ q => le_int q
theorem op_gt : OpR X (compareOp .Gt) (rI0 fun i j => .bl (decide (j < i))) := opB0 fun _ _ _ _ _ _ _ q => gt_int q
theorem op_isN : OpR X (compareOp .Is) (fun x y H Q => y = .non ∧ Q (.bl (decide (x = .non))) H) := by
  intro pins s σ H x y v u Q I rx ry h
  obtain ⟨rfl, q⟩ := h
  cases ry
  refine is_none_gen (fin_bl I q ?_)
  cases x <;> first
    | (cases rx; rfl)
    | (obtain ⟨t, rfl⟩ := rx; rfl)
def isObj : HO → Bool
  | .lst _ => true
  | .ins _ _ _ => true
  | _ => false
theorem nomark (b : Expr) {op : CmpOp} (h : op ≠ .In := by decide) (h2 : op ≠ .NotIn := by decide) : behindInMarks op b = false := by
  have e1 : (op == CmpOp.In) = false := by cases op <;> first | rfl | exact absurd rfl h
  have e2 : (op == CmpOp.NotIn) = false := by cases op <;> first | rfl | exact absurd rfl h2
  cases b <;> simp [behindInMarks, e1, e2]
theorem pe_cmpR {op : CmpOp} {r : R2} (ho : OpR X (compareOp op) r) (ha : PE X a ta) (hb : PE X b tb) (hm : behindInMarks op b = false) : PE X (.Compare a [op] [b] pos) (tOp r ta tb) := by
  intro pins s σ H Q I h
  exact wpAny_Compare1 (binT ha hb I h fun v u s2 x y H2 I2 rx ry q => ho pins s2 σ H2 x y v u Q I2 rx ry q) hm
def tTest (t : TE) : TT := fun σ H Q => t σ H fun x H' => ∃ k, x = .bl k ∧ Q k H'
theorem pt_cmpR {op : CmpOp} {r : R2} (ho : OpR X (compareOp op) r) (ha : PE X a ta) (hb : PE X b tb) (hm : behindInMarks op b = false) : PT X (.Compare a [op] [b] pos) (tTest (tOp r ta tb)) := by
  intro pins s σ H Q I h
  refine wpAny_isTrue_Compare1 (thn (ha pins s σ H _ I h) fun v s1 ⟨x, H1, I1, r1, q1⟩ => thn (hb pins s1 σ H1 _ I1 q1) fun u s2 ⟨y, H2, I2, r2, q2⟩ =>
    thn (ho pins s2 σ H2 x y v u _ I2 r1 r2 q2) fun c s3 ⟨z, H3, I3, r3, k, e, q3⟩ => ?_) hm
  subst e
  cases r3
  exact wpAny_truthy_bool ⟨H3, I3, q3⟩
def tChain (r r' : R2) (ta tb tc : TE) : TE := fun σ H Q => ta σ H fun x H1 => tb σ H1 fun y H2 => r x y H2 fun z H3 => ∃ k, z = .bl k ∧
  (if k = true then tc σ H3 fun w' H4 => r' y w' H4 Q else Q (.bl false) H3)
theorem pe_chain {op op' : CmpOp} {r r' : R2} (ho : OpR X (compareOp op) r) (ho' : OpR X (compareOp op') r') (ha : PE X a ta) (hb : PE X b tb) (hc : PE X c tc)
    (hm : lastMarks [op, op'] [b, c] = false := by with_unfolding_all rfl) : PE X (.Compare a [op, op'] [b, c] pos) (tChain r r' ta tb tc) := by
  intro pins s σ H Q I h
  refine Compare_chain (thn (ha pins s σ H _ I h) fun v s1 ⟨x, H1, I1, r1, q1⟩ => chain_link (thn (hb pins s1 σ H1 _ I1 q1) fun u s2 ⟨y, H2, I2, r2, q2⟩ =>
    thn (ho pins s2 σ H2 x y v u _ I2 r1 r2 q2) fun d s3 ⟨z, H3, I3, r3, k, e, q3⟩ => ?_)) hm
  subst e
  cases r3
  refine wpAny_truthy_bool ?_
  cases k with
  | false => exact ite_ff ⟨.bl false, H3, I3, rfl, q3⟩
  | true => exact ite_tt (chain_last (thn (hc pins s3 σ H3 _ I3 q3) fun w' s4 ⟨z', H4, I4, r4, q4⟩ => ho' pins s4 σ H4 y z' u w' Q I4 r2 r4 q4))
theorem pt_chain {op op' : CmpOp} {r r' : R2} (ho : OpR X (compareOp op) r) (ho' : OpR X (compareOp op') r') (ha : PE X a ta) (hb : PE X b tb) (hc : PE X c tc)
    (hm : lastMarks [op, op'] [b, c] = false := by with_unfolding_all rfl) : PT X (.Compare a [op, op'] [b, c] pos) (tTest (tChain r r' ta tb tc)) := by
  intro pins s σ H Q I h
  refine isTrue_chain (thn (ha pins s σ H _ I h) fun v s1 ⟨x, H1, I1, r1, q1⟩ => test_link (thn (hb pins s1 σ H1 _ I1 q1) fun u s2 ⟨y, H2, I2, r2, q2⟩ =>
    thn (ho pins s2 σ H2 x y v u _ I2 r1 r2 q2) fun d s3 ⟨z, H3, I3, r3, k, e, q3⟩ => ?_)) hm
  subst e
  cases r3
  refine wpAny_truthy_bool ?_
  cases k with
  | false =>
    obtain ⟨k', e', q'⟩ := q3
    cases e'
    exact ite_ff ⟨H3, I3, q'⟩
  | true =>
    refine ite_tt (test_last (thn (hc pins s3 σ H3 _ I3 q3) fun w' s4 ⟨z', H4, I4, r4, q4⟩ => thn (ho' pins s4 σ H4 y z' u w' _ I4 r2 r4 q4) fun d' s5 ⟨z2, H5, I5, r5, k2, e2, q5⟩ => ?_))
    subst e2
    cases r5
    exact wpAny_truthy_bool ⟨H5, I5, q5⟩
def TruV (K : PySem.W.Frag) (x : V) (H : Hp) (k : Bool) : Prop :=
  match x with
  | .non => k = false
  | .bl b => k = b
  | .int i => k = (i != 0)
  | .str y => y.length ≤ sizeLine ∧ k = ((y.length : Int) != 0)
  | .byt y => y.size ≤ sizeLine ∧ k = ((y.size : Int) != 0)
  | .ref p => (∃ xs, SqL K H p xs ∧ k = !xs.isEmpty) ∨ (∃ xs, SqT K H p xs ∧ k = !xs.isEmpty) ∨ ∃ kvs, H p = some (.dK kvs) ∧ k = !kvs.isEmpty
  | _ => False
theorem line63 : (sizeLine : Nat) < 2 ^ 63 := by rw [sizeLine_eq]; decide
def PlainIxT (b : Expr) : Prop := ∀ o i, subscripted b false o i = operate [o, i] (getItem o i)
theorem vals1 {x : V} {us : List Value} (r : Vals [x] us) : ∃ u, us = [u] ∧ RelV x u := by
  cases r with
  | cons r1 r2 => cases r2; exact ⟨_, rfl, r1⟩
theorem vals2 {x y : V} {us : List Value} (r : Vals [x, y] us) : ∃ u w', us = [u, w'] ∧ RelV x u ∧ RelV y w' := by
  cases r with
  | cons r1 r2 =>
    cases r2 with
    | cons r3 r4 => cases r4; exact ⟨_, _, rfl, r1, r3⟩
theorem call_min2 (hc : X.calm = true) : CallR X (.builtin "min") (fun xs H Q => ∃ i j, xs = [.int i, .int j] ∧ Q (.int (if j < i then j else i)) H) := by
  intro pins s σ H xs us Q I r h
  obtain ⟨i, j, rfl, q⟩ := h
  obtain ⟨u, w', rfl, ⟨t, rfl⟩, ⟨t', rfl⟩⟩ := vals2 r
  refine min_two_ints (I.ok.hd hc) fun h' tk k => ⟨_, H, I.kept k, ?_, q⟩
  by_cases hj : j < i
  · rw [if_pos hj, if_pos hj]; exact ⟨_, rfl⟩
  · rw [if_neg hj, if_neg hj]; exact ⟨_, rfl⟩
def LenV (K : PySem.W.Frag) (x : V) (H : Hp) (n : Nat) : Prop :=
  match x with
  | .str y => y.length ≤ sizeLine ∧ n = y.length
  | .byt y => y.size ≤ sizeLine ∧ n = y.size
  | .ref p => (∃ xs, SqL K H p xs ∧ n = xs.length) ∨ ∃ xs, SqT K H p xs ∧ n = xs.length
  | _ => False
end
end L2
namespace L2
open PySem PySem.Spec PyProof.Rows
structure ObjM (h : Heap) (x dx C : Addr) (mA : Str → Option Value) : Prop where
  obj : h.get? x = some (PySem.W.instObj C dx)
  ns : h.Ns1 dx mA
  ne : dx ≠ x
theorem lookIn_ns {h : Heap} {dx : Addr} {mA : Str → Option Value} (n : h.Ns1 dx mA) : ∃ od, h.get? dx = some od ∧ ∀ name, PySem.W.lookIn name od = some (mA name) := by
  obtain ⟨o, es, ep, ho, hd, hk, _, hm⟩ := n
  refine ⟨o, ho, fun name => ?_⟩
  have e := hm name
  unfold nsFind findBy at e
  rw [← Array.find?_toList] at e
  unfold PySem.W.lookIn
  rw [hd]
  dsimp only
  split
  · rename_i y q
    rw [q] at e
    exact congrArg some e
  · rename_i q
    rw [q] at e
    have a : es.toList.any (·.refKey) = false := by
      rw [List.any_eq_false]
      intro y hy
      obtain ⟨z, t, hkey⟩ := hk y (Array.mem_toList_iff.mp hy)
      simp [DictEntry.refKey, hkey]
    have a' : ¬ es.toList.any (·.refKey) = true := by rw [a]; exact Bool.false_ne_true
    rw [if_neg a']
    exact congrArg some e
theorem ObjM.look {h : Heap} {x dx C : Addr} {mA : Str → Option Value} (I : ObjM h x dx C mA) : ∃ od, PySem.W.InstAt h x (PySem.W.instObj C dx) C (some od) ∧ ∀ name, PySem.W.lookIn name od = some (mA name) :=
  let ⟨od, ho, hl⟩ := lookIn_ns I.ns
  ⟨od, ⟨I.obj, rfl, rfl, ho⟩, hl⟩
section
variable {prog : Program} {w : World} {A : Around} {E : Value → Shared → Prop} {s : Shared} {K : PySem.W.Frag} {x dx C f : Addr} {mA : Str → Option Value} {name : Str} {v : Value}
theorem get_map {expr : Bool} {Q : Value → Shared → Prop} (X : K.In s.heap) (I : ObjM s.heap x dx C mA) (hg : PySem.W.plainGet K C name = true) (hh : PySem.W.hasDictIn K C = true)
    (ha : PySem.W.findIn K (.ref C) name = some none) (hv : mA name = some v) (hv' : PySem.W.handedIn v = true) (h : Q v { s with toks := s.toks + 1 }) :
    wpAny (model prog w) A (getAttr (.ref x) name expr) Q E s := by
  obtain ⟨od, J, hl⟩ := I.look
  exact PySem.W.get_value X J (PySem.W.plainGet_of hg).1 (PySem.W.findObj_own hh ha rfl (by rw [hl, hv])) hv' h
theorem set_map {ns : List Str} {Q : Unit → Shared → Prop} (X : K.In s.heap) (I : ObjM s.heap x dx C mA)
    (hs : PySem.W.findIn K (.ref C) "__setattr__" = some (some (.builtin "object.__setattr__"))) (hp : PySem.W.plainOver K C = true) (ht : PySem.W.takerIn K C name = some none) (hh : PySem.W.hasDictIn K C = true)
    (hw : PySem.Within mA ns) (hsz : ns.length ≤ sizeLine)
    (h : ∀ h', ObjM h' x dx C (fun y => if y = name then some v else mA y) → Heap.SameBut dx s.heap h' → Q () { s with heap := h', toks := s.toks + 2 }) :
    wpAny (model prog w) A (setAttr (.ref x) name v) Q E s := by
  obtain ⟨od, J, hl⟩ := I.look
  refine PySem.W.set_plain X J hs (PySem.W.osa_open (s := { s with toks := s.toks + 1 }) (r := none) X J hp ht fun b => ?_)
  obtain ⟨cd, hc, hd'⟩ := PySem.W.any_some hh
  have hx : s.heap.get? x = some ⟨.ref C, some dx, .plain, #[]⟩ := I.obj
  refine wpAny_bind (wpAny_pure (wpAny_bind (wpAny_bind (wpAny_loadPart hx (wpAny_bind (PySem.W.Looks.here (s := { s with toks := s.toks + 1 }) (PySem.W.looks_clsIn X hc) ?_))))))
  rw [hd']
  refine wpAny_pure (a := some dx) (wpAny_bind (wpAny_pure (wpAny_bind ?_)))
  refine wpAny_nsSet1 (s := { s with toks := s.toks + 1 }) I.ns fun h' hn2 hs2 => ?_
  obtain ⟨oD, esD, epD, hoD, hdD, hcD⟩ := hn2.count (PySem.Within.cons name v hw)
  refine wpAny_bind (wpAny_lookBehind hoD (by rw [hdD]; exact pastItsLine_dict (Nat.le_trans hcD (by rw [List.length_cons]; omega))) ?_)
  exact wpAny_pure (h _ ⟨(hs2.2 _ (Ne.symm I.ne)).trans I.obj, hn2, I.ne⟩ hs2)
theorem make_map {R : Result → Shared → Prop} {vs : List Value} {kw : List (Str × Value)} (X : K.In s.heap) (hm : PySem.W.makesIn K C = true)
    (hi : PySem.W.findIn K (.ref C) "__init__" = some (some (.ref f))) (hf : PySem.W.typeIn K (.ref f) = some (.type "function"))
    (h : codeAny (model prog w) (A.under (.builtin "type.__call__" ⟨.ref C :: vs, kw⟩)) (.call (.ref f) ⟨.ref (s.heap.objs.size + 1) :: vs, kw⟩) (PySem.W.InitBack (s.heap.objs.size + 1) R)
      { s with heap := (s.heap.push PySem.W.emptyDict).push (PySem.W.instObj C s.heap.objs.size) }) :
    codeAny (model prog w) A (.call (.ref C) ⟨vs, kw⟩) R s := by
  obtain ⟨hh, g, d, t, os⟩ := s
  exact PySem.W.make_core (PySem.W.makes_of X hm) (PySem.W.looks_findIn X hi) (fun self => PySem.W.bind_fn X self hf) (.inl rfl) h
end
def putF (f : Str) (v : V) : List (Str × V) → List (Str × V)
  | [] => [(f, v)]
  | (g, x) :: r => if g = f then (g, v) :: r else (g, x) :: putF f v r
theorem lookup_putF (f g : Str) (v : V) : ∀ fs : List (Str × V), (putF f v fs).lookup g = if g = f then some v else fs.lookup g
  | [] => by
    show List.lookup g [(f, v)] = _
    by_cases h : g = f
    · have hb : (g == f) = true := beq_iff_eq.mpr h
      simp only [List.lookup, hb, if_pos h]
    · have hb : (g == f) = false := beq_eq_false_iff_ne.mpr h
      simp only [List.lookup, hb, if_neg h]
  | (k, x) :: r => by
    have ih := lookup_putF f g v r
    rw [show putF f v ((k, x) :: r) = (if k = f then (k, v) :: r else (k, x) :: putF f v r) from rfl]
    by_cases hk : k = f
    · rw [if_pos hk]
      by_cases h : g = k
      · have hb : (g == k) = true := beq_iff_eq.mpr h
        simp only [List.lookup, hb, if_pos (h.trans hk)]
      · have hb : (g == k) = false := beq_eq_false_iff_ne.mpr h
        simp only [List.lookup, hb, if_neg (fun e : g = f => h (e.trans hk.symm))]
    · rw [if_neg hk]
      by_cases h : g = k
      · have hb : (g == k) = true := beq_iff_eq.mpr h
        simp only [List.lookup, hb, if_neg (fun e : g = f => hk (h.symm.trans e))]
      · have hb : (g == k) = false := beq_eq_false_iff_ne.mpr h
        simp only [List.lookup, hb]
        exact ih
theorem keys_putF (f : Str) (v : V) : ∀ fs : List (Str × V), f ∈ (putF f v fs).map (·.1) ∧ ∀ g, g ∈ fs.map (·.1) → g ∈ (putF f v fs).map (·.1)
  | [] => ⟨by simp [putF], fun g h => by simp at h⟩
  | (k, x) :: r => by
    obtain ⟨i1, i2⟩ := keys_putF f v r
    rw [show putF f v ((k, x) :: r) = (if k = f then (k, v) :: r else (k, x) :: putF f v r) from rfl]
    by_cases hk : k = f
    · rw [if_pos hk]
      subst hk
      exact ⟨by simp, fun g h => by simpa using h⟩
    · rw [if_neg hk]
      refine ⟨?_, fun g h => ?_⟩
      · rw [List.map_cons]
        exact List.mem_cons_of_mem _ i1
      · rw [List.map_cons] at h ⊢
        rcases List.mem_cons.mp h with e | e
        · exact List.mem_cons.mpr (.inl e)
        · exact List.mem_cons_of_mem _ (i2 g e)
theorem length_putF (f : Str) (v : V) : ∀ fs : List (Str × V), (putF f v fs).length ≤ fs.length + 1
  | [] => by simp [putF]
  | (k, x) :: r => by
    have ih := length_putF f v r
    rw [show putF f v ((k, x) :: r) = (if k = f then (k, v) :: r else (k, x) :: putF f v r) from rfl]
    by_cases hk : k = f
    · rw [if_pos hk, List.length_cons, List.length_cons]; omega
    · rw [if_neg hk, List.length_cons, List.length_cons]; omega
theorem RelO.some_of {v : V} {o : Option Value} (r : RelO (some v) o) : ∃ u, o = some u ∧ RelV v u := by
  cases o with
  | none => exact (show False from r).elim
  | some u => exact ⟨u, rfl, r⟩
theorem handed_of {v : V} {u : Value} (r : RelV v u) : PySem.W.handedIn u = true := by
  cases v with
  | non => cases (show u = Value.none from r); rfl
  | bl b => cases (show u = Value.bool b from r); rfl
  | int i => obtain ⟨t, e⟩ := (show ∃ t, u = Value.int i t from r); cases e; rfl
  | str x => obtain ⟨t, e⟩ := (show ∃ t, u = Value.str x t from r); cases e; rfl
  | byt b => obtain ⟨t, e⟩ := (show ∃ t, u = Value.bytes b t from r); cases e; rfl
  | flt b => obtain ⟨t, e⟩ := (show ∃ t, u = Value.float b t from r); cases e; rfl
  | ref a => cases (show u = Value.ref a from r); rfl
  | ty n => cases (show u = Value.type n from r); rfl
section
variable {P : Program} {w : World} {H H' : Hp} {h h' : Heap} {a C dx : Addr} {fs fs' : List (Str × V)}
theorem ins_get (hok : HOk P w H h) (e : H a = some (.ins C dx fs)) : ∃ mA, ObjM h a dx C mA ∧ (∀ f, RelO (fs.lookup f) (mA f)) ∧ PySem.Within mA (fs.map (·.1)) ∧ fs.length ≤ 1000 ∧ H dx = some (.own a) := by
  obtain ⟨d, z, ne, ob, mA, n, r, q⟩ := (show ObjOk P w H h a (.ins C dx fs) from hok a _ e)
  exact ⟨mA, ⟨ob, n, ne⟩, r, q, z, d⟩
end
structure Cls (K : PySem.W.Frag) (C : Addr) : Prop where
  pg : PySem.W.plainGet K C Str.empty = true
  hd : PySem.W.hasDictIn K C = true
  po : PySem.W.plainOver K C = true
  sa : PySem.W.findIn K (.ref C) "__setattr__" = some (some (.builtin "object.__setattr__"))
theorem Cls.get {K : PySem.W.Frag} {C : Addr} (c : Cls K C) (f : Str) : PySem.W.plainGet K C f = true := c.pg
def NoAttr (K : PySem.W.Frag) (C : Addr) (f : Str) : Prop := PySem.W.findIn K (.ref C) f = some none
theorem NoAttr.taker {K : PySem.W.Frag} {C : Addr} {f : Str} (n : NoAttr K C f) : PySem.W.takerIn K C f = some none := by
  unfold PySem.W.takerIn
  rw [show PySem.W.findIn K (.ref C) f = some none from n]
  rfl
structure Con (K : PySem.W.Frag) (C : Addr) (f : Str) (v : V) (u : Value) : Prop where
  at_ : PySem.W.findIn K (.ref C) f = some (some u)
  rel : RelV v u
  get : PySem.W.specialIn K u "__get__" = some none
  cp : PySem.W.copiedNames.contains f = false
structure Meth (K : PySem.W.Frag) (C : Addr) (m : Str) (f : Addr) : Prop where
  at_ : PySem.W.findIn K (.ref C) m = some (some (.ref f))
  fn : PySem.W.isFn K (.ref f) = true
  kp : PySem.W.keepIn K (.ref f) = true
section
variable {X : Cx} {pins : List (Addr × Obj)} {σ : St} {H : Hp} {s : Shared} {a C dx : Addr} {fs : List (Str × V)} {f : Str} {v : V} {A : Around} {E : Value → Shared → Prop}
theorem getattr_ok {b : Bool} {Q : Value → Shared → Prop} (I : Inv X pins σ H s) (e : H a = some (.ins C dx fs)) (c : Cls X.K C) (n : NoAttr X.K C f) (l : fs.lookup f = some v)
    (h : ∀ u s', Inv X pins σ H s' → RelV v u → Q u s') : wpAny (model X.prog X.w) A (getAttr (.ref a) f b) Q E s := by
  obtain ⟨mA, O, r, _, _, _⟩ := ins_get I.hok e
  obtain ⟨u, hu, ru⟩ := RelO.some_of (v := v) (o := mA f) (by rw [← l]; exact r f)
  exact get_map I.kIn O (c.get f) c.hd n hu (handed_of ru) (h u _ (I.tok _) ru)
theorem setattr_ok {y : V} {u : Value} {Q : Unit → Shared → Prop} (I : Inv X pins σ H s) (e : H a = some (.ins C dx fs)) (c : Cls X.K C) (n : NoAttr X.K C f) (hl : fs.length < 1000) (ry : RelV y u)
    (h : ∀ s', Inv X pins σ (upd H a (.ins C dx (putF f y fs))) s' → Q () s') : wpAny (model X.prog X.w) A (setAttr (.ref a) f u) Q E s := by
  obtain ⟨mA, O, r, wi, _, ho⟩ := ins_get I.hok e
  have hz : (fs.map (·.1)).length ≤ sizeLine := by rw [List.length_map, sizeLine_eq]; omega
  refine set_map I.kIn O c.sa c.po n.taker c.hd wi hz fun h' O' sb => h _ ?_
  have hd : ∃ o, h'.get? dx = some o := let ⟨o, _, _, e', _⟩ := O'.ns; ⟨o, e'⟩
  refine I.write (x := a) (e := dx) (by rw [e]; exact True.intro) (.inr ho) (fun b q hb z => (sb.2 b hb).trans z) hd ?_
  refine ⟨by rw [upd_ne O.ne]; exact ho, ?_, O.ne, O'.obj, _, O'.ns, fun g => ?_, fun g hg => ?_⟩
  · have := length_putF f y fs; omega
  · show RelO ((putF f y fs).lookup g) (if g = f then some u else mA g)
    rw [lookup_putF]
    by_cases q : g = f
    · rw [if_pos q, if_pos q]; exact ry
    · rw [if_neg q, if_neg q]; exact r g
  · by_cases q : g = f
    · rw [q]; exact (keys_putF f y fs).1
    · refine (keys_putF f y fs).2 g (wi g fun z => hg ?_)
      show (if g = f then some u else mA g) = none
      rw [if_neg q]; exact z
theorem Inv.made (I : Inv X pins σ H s) : Inv X pins σ (upd (upd H s.heap.objs.size (.own (s.heap.objs.size + 1))) (s.heap.objs.size + 1) (.ins C s.heap.objs.size []))
    { s with heap := (s.heap.push PySem.W.emptyDict).push (PySem.W.instObj C s.heap.objs.size) } := by
  have e1 : (s.heap.push PySem.W.emptyDict).get? s.heap.objs.size = some PySem.W.emptyDict := Heap.get?_push_size s.heap rfl
  have e2 : ((s.heap.push PySem.W.emptyDict).push (PySem.W.instObj C s.heap.objs.size)).get? (s.heap.objs.size + 1) = some (PySem.W.instObj C s.heap.objs.size) := by
    have := Heap.get?_push_size (s.heap.push PySem.W.emptyDict) (o := PySem.W.instObj C s.heap.objs.size) rfl
    rwa [Heap.size_push] at this
  have e3 : (s.heap.push PySem.W.emptyDict).Ns s.heap.objs.size (fun _ => none) := ⟨PySem.W.emptyDict, #[], _, e1, rfl, (fun e he => absurd he (by simp)), fun _ => rfl⟩
  have I1 := I.laid (a := s.heap.objs.size) (o := .own (s.heap.objs.size + 1)) (h' := s.heap.push PySem.W.emptyDict) (t' := s.toks) (fun b u q => Heap.get?_push_of_some _ q) (Nat.le_refl _) ⟨_, e1⟩
  refine I1.laid (a := s.heap.objs.size + 1) (o := .ins C s.heap.objs.size []) (t' := s.toks) (fun b u q => Heap.get?_push_of_some _ q) (Nat.le_of_eq (Heap.size_push _ _)) ?_
  have ne : s.heap.objs.size ≠ s.heap.objs.size + 1 := Nat.ne_of_lt (Nat.lt_succ_self _)
  refine ⟨by rw [upd_ne ne, upd_same], Nat.zero_le _, ne, e2, fun _ => none, (Heap.Ns1.of_empty e3).at fun o q => Heap.get?_push_of_some _ q, fun _ => True.intro, fun y hy => absurd rfl hy⟩
theorem attr_of {prog : Program} {w : World} {env : Env} {e : Expr} {f : Str} {pos : Pos} {s : Shared} {Q : Value → Shared → Prop} (hb : attributeBase e f env (eval e env) = eval e env)
    (h : wpAny (model prog w) A (eval e env) (fun o s₁ => wpAny (model prog w) A (getAttr o f true) Q E s₁) E s) : wpAny (model prog w) A (eval (.Attribute e f pos) env) Q E s :=
  Attribute_any_ h (by rw [arm_eval_Attribute, hb])
end
def tFld (K : PySem.W.Frag) (ta : TE) (f : Str) : TE := fun σ H Q => ta σ H fun x H1 => ∃ a C dx fs v, x = .ref a ∧ H1 a = some (.ins C dx fs) ∧ Cls K C ∧ NoAttr K C f ∧ fs.lookup f = some v ∧ Q v H1
def tCon (K : PySem.W.Frag) (ta : TE) (f : Str) : TE := fun σ H Q => ta σ H fun x H1 => ∃ a C dx fs v u, x = .ref a ∧ H1 a = some (.ins C dx fs) ∧ Cls K C ∧ Con K C f v u ∧ fs.lookup f = none ∧ Q v H1
def sFld (K : PySem.W.Frag) (ta tv : TE) (f : Str) : TS := fun D σ H => tv σ H fun y H1 => ta σ H1 fun x H2 => ∃ a C dx fs, x = .ref a ∧ H2 a = some (.ins C dx fs) ∧ Cls K C ∧ NoAttr K C f ∧ fs.length < 1000 ∧
  D.nx σ (upd H2 a (.ins C dx (putF f y fs)))
def InOp (X : Cx) (op : Operator) (rd : V → V → Hp → VK → Prop) : Prop :=
  ∀ (pins : List (Addr × Obj)) (s : Shared) (σ : St) (H : Hp) (x y : V) (u v : Value) (Q : VK), Inv X pins σ H s → RelV x u → RelV y v → rd x y H Q → wpAny (model X.prog X.w) X.A (inplaceOp op u v) (EP X pins σ Q) X.xe s
def sFldAug (K : PySem.W.Frag) (ta tv : TE) (rd : V → V → Hp → VK → Prop) (f : Str) : TS := fun D σ H => ta σ H fun x H1 => ∃ a C dx fs v, x = .ref a ∧ H1 a = some (.ins C dx fs) ∧ Cls K C ∧ NoAttr K C f ∧ fs.lookup f = some v ∧
  tv σ H1 fun y H2 => rd v y H2 fun z H3 => ∃ dx' fs', H3 a = some (.ins C dx' fs') ∧ fs'.length < 1000 ∧ D.nx σ (upd H3 a (.ins C dx' (putF f z fs')))
section
variable {X : Cx} {o e value : Expr} {f : Str} {pos pos' tpos : Pos} {ta tv : TE}
theorem pe_fld (he : PE X e ta) (hb : attributeBase e f X.env (eval e X.env) = eval e X.env) : PE X (.Attribute e f pos) (tFld X.K ta f) := by
  intro pins s σ H Q I h
  refine attr_of hb (thn (he pins s σ H _ I h) fun u s1 ⟨x, H1, I1, rx, a, C, dx, fs, v, ex, ea, c, n, l, q⟩ => ?_)
  subst ex
  obtain rfl : u = Value.ref a := rx
  exact getattr_ok I1 ea c n l fun u' s2 I2 ru => ⟨v, H1, I2, ru, q⟩
theorem ps_fld (ha : PE X o ta) (hv : PE X value tv) (hs : swapsWith value (some (.Attribute o f pos')) pos.line X.env = pure false) : PS X (.Assign [.Attribute o f pos'] value pos) (sFld X.K ta tv f) := by
  intro pins s σ H D I h
  refine plainObj_wpAny_Assign_Attribute (thn (hv pins s σ H _ I h) fun u s1 ⟨y, H1, I1, ry, q⟩ => thn (ha pins s1 σ H1 _ I1 q) fun ov s2 ⟨x, H2, I2, rx, a, C, dx, fs, ex, ea, c, n, l, q2⟩ => ?_) hs
  subst ex
  obtain rfl : ov = Value.ref a := rx
  exact setattr_ok I2 ea c n l ry fun s3 I3 => ⟨σ, _, I3, q2⟩
def rAdd : V → V → Hp → VK → Prop := fun x y H Q => ∃ i j, x = .int i ∧ y = .int j ∧ Q (.int (i + j)) H
def rSub : V → V → Hp → VK → Prop := fun x y H Q => ∃ i j, x = .int i ∧ y = .int j ∧ Q (.int (i - j)) H
end
section
variable {X : Cx} {pins : List (Addr × Obj)} {σ : St} {H : Hp} {s : Shared} {A : Around} {E : Value → Shared → Prop} {Q : Value → Shared → Prop} {c : Value} {b : Bool}
inductive TyOf (K : PySem.W.Frag) (H : Hp) : V → Value → Prop where
  | non : TyOf K H .non (.type "NoneType")
  | bl (x : Bool) : TyOf K H (.bl x) (.type "bool")
  | int (i : Int) : TyOf K H (.int i) (.type "int")
  | str (x : Str) : TyOf K H (.str x) (.type "str")
  | flt (x : UInt64) : TyOf K H (.flt x) (.type "float")
  | lst {a : Addr} {xs : List V} (e : H a = some (.lst xs)) : TyOf K H (.ref a) (.type "list")
  | frz {a : Addr} {o : Obj} {xs : List V} (e : H a = some (.frz o (.lst xs))) : TyOf K H (.ref a) (.type "list")
  | tup {a : Addr} {xs : List V} (e : H a = some (.tup xs)) : TyOf K H (.ref a) (.type "tuple")
  | dK {a : Addr} {kvs : List (Key × V)} (e : H a = some (.dK kvs)) : TyOf K H (.ref a) (.type "dict")
  | dT {a : Addr} {kvs : List (List Key × V)} (e : H a = some (.dT kvs)) : TyOf K H (.ref a) (.type "dict")
  | ins {a C dx : Addr} {fs : List (Str × V)} (e : H a = some (.ins C dx fs)) (cl : Cls K C) (ha : PySem.W.findIn K (.ref C) "__class__" = some (some (.builtin "object.__class__")))
      (hn : PySem.W.specialIn K (.builtin "object.__class__") "__get__" = some (some (.builtin "getset_descriptor.__get__"))) (htk : PySem.W.takesIn K (.builtin "object.__class__") = some true)
      (hm : PySem.W.mroIn K C (.type "object") = some true) : TyOf K H (.ref a) (.ref C)
theorem isinst_ok {x : V} {u t : Value} (I : Inv X pins σ H s) (rx : RelV x u) (ty : TyOf X.K H x t) (e : PySem.W.kitOne X.K t c = some b) (h : ∀ tk, Q (.bool b) { s with toks := tk }) :
    wpAny (model X.prog X.w) A (call (.builtin "isinstance") [u, c]) Q E s := by
  cases ty with
  | non => cases (show u = Value.none from rx); exact PySem.W.kia_one PySem.W.kitx_none I.kIn True.intro e (fun z => nomatch z) h
  | bl y => cases (show u = Value.bool y from rx); exact PySem.W.kia_one PySem.W.kitx_bool I.kIn True.intro e (fun z => nomatch z) h
  | int i => obtain ⟨t, q⟩ := (show ∃ t, u = Value.int i t from rx); cases q; exact PySem.W.kia_one PySem.W.kitx_int I.kIn True.intro e (fun z => nomatch z) h
  | str y => obtain ⟨t, q⟩ := (show ∃ t, u = Value.str y t from rx); cases q; exact PySem.W.kia_one PySem.W.kitx_str I.kIn True.intro e (fun z => nomatch z) h
  | flt y => obtain ⟨t, q⟩ := (show ∃ t, u = Value.float y t from rx); cases q; exact PySem.W.kia_one PySem.W.kitx_float I.kIn True.intro e (fun z => nomatch z) h
  | @lst a xs ea =>
    cases (show u = Value.ref a from rx)
    obtain ⟨_, _, n, _, h1⟩ := (show ObjOk X.prog X.w H s.heap a (.lst xs) from I.hok a _ ea)
    exact PySem.W.kia_one PySem.W.kitx_list I.kIn ⟨_, h1, rfl⟩ e (fun z => nomatch z) h
  | @frz a ob xs ea =>
    cases (show u = Value.ref a from rx)
    obtain ⟨_, _, _, n, _, h1⟩ := (show ObjOk X.prog X.w H s.heap a (.frz ob (.lst xs)) from I.hok a _ ea)
    exact PySem.W.kia_one PySem.W.kitx_list I.kIn ⟨_, h1, rfl⟩ e (fun z => nomatch z) h
  | @tup a xs ea =>
    cases (show u = Value.ref a from rx)
    obtain ⟨_, _, _, p⟩ := (show ObjOk X.prog X.w H s.heap a (.tup xs) from I.hok a _ ea)
    obtain ⟨o, h1, h2, _⟩ := p
    exact PySem.W.kia_one PySem.W.kitx_tuple I.kIn ⟨o, h1, h2⟩ e (fun z => nomatch z) h
  | @dK a kvs ea =>
    cases (show u = Value.ref a from rx)
    obtain ⟨_, _, vs, _, p⟩ := (show ObjOk X.prog X.w H s.heap a (.dK kvs) from I.hok a _ ea)
    obtain ⟨o, es, ep, h1, h2, _⟩ := p
    exact PySem.W.kia_one PySem.W.kitx_dict I.kIn ⟨o, h1, h2.1⟩ e (fun z => nomatch z) h
  | @dT a kvs ea =>
    cases (show u = Value.ref a from rx)
    obtain ⟨_, _, xs, _, o, es, ep, h1, h2, _⟩ := (show ObjOk X.prog X.w H s.heap a (.dT kvs) from I.hok a _ ea)
    exact PySem.W.kia_one PySem.W.kitx_dict I.kIn ⟨o, h1, h2.1⟩ e (fun z => nomatch z) h
  | @ins a C dx fs ea cl ha hn htk hm =>
    cases (show u = Value.ref a from rx)
    obtain ⟨mA, O, _⟩ := ins_get I.hok ea
    obtain ⟨od, J, _⟩ := O.look
    exact PySem.W.kia_one (PySem.W.kitx_own (cl.get _) cl.hd ha hn htk hm) I.kIn J e (fun z => nomatch z) h
end
end L2
namespace L2
open PySem PySem.Spec PyProof.Rows
structure Room (k : Nat) (A : Around) : Prop where
  hd : A.handled = none
  dp : A.depth + 3 * k + 5 < recursionLimit
  un : A.units + 16 * k + 200 < cLine
theorem Room.mono {j k : Nat} {A : Around} (r : Room k A) (h : j ≤ k) : Room j A := ⟨r.hd, by have := r.dp; omega, by have := r.un; omega⟩
theorem Room.deeper {k : Nat} {A : Around} (r : Room (k + 1) A) (env : Env) : Room k (A.deeper env) :=
  ⟨r.hd, by have := r.dp; show A.depth + 1 + 3 * k + 5 < _; omega, by have := r.un; show A.units + 3 + 16 * k + 200 < _; omega⟩
theorem make_depth {A : Around} {C : Addr} {us : List Value} {kw : List (Str × Value)} : (A.under (.builtin "type.__call__" ⟨.ref C :: us, kw⟩)).depth = A.depth + 1 := by
  first | rfl | simp [Around.under, Code.weight, Code.isCreation, Code.isGuard, Code.isCaller, Code.frames, Code.isFrame, guardIds]
theorem make_units {A : Around} {C : Addr} {us : List Value} {kw : List (Str × Value)} : (A.under (.builtin "type.__call__" ⟨.ref C :: us, kw⟩)).units = A.units + 1 := by
  first | rfl | simp [Around.under, Code.cUnits, Code.frames, Code.isFrame]
theorem Room.make {k : Nat} {A : Around} (r : Room (k + 1) A) (C : Addr) (us : List Value) (kw : List (Str × Value)) : Room k (A.under (.builtin "type.__call__" ⟨.ref C :: us, kw⟩)) :=
  ⟨r.hd, by have := r.dp; rw [make_depth]; omega, by have := r.un; rw [make_units]; omega⟩
theorem Room.depth {k : Nat} {A : Around} (r : Room k A) : A.depth < recursionLimit := by have := r.dp; omega
theorem Room.units {k : Nat} {A : Around} (r : Room k A) : A.units + 64 < cLine := by have := r.un; omega
def tNil : TA := fun _ H Q => Q [] H
def tCons (ta : TE) (tr : TA) : TA := fun σ H Q => ta σ H fun x H1 => tr σ H1 fun xs H2 => Q (x :: xs) H2
section
variable {X : Cx} {e : Expr} {es : List Expr} {te : TE} {t : TA} {pos : Pos}
theorem pa_nil : PA X [] tNil := fun _ _ _ _ H Q I h => Calls.spliced_nil ⟨[], H, I, .nil, h⟩
theorem pa_cons (ha : PE X e te) (hr : PA X es t) (hs : starEach (e :: es) X.env = (false, eval e X.env) :: starEach es X.env := by rfl) : PA X (e :: es) (tCons te t) := by
  intro pos pins s σ H Q I h
  rw [hs]
  show wpAny _ _ (spliced ((false, eval e X.env) :: backTo pos (starEach es X.env))) _ _ s
  refine Calls.spliced_cons (thn (ha pins s σ H _ I h) fun u s1 ⟨x, H1, I1, r1, q1⟩ => ?_)
  exact thn (hr pos pins s1 σ H1 _ I1 q1) fun us s2 ⟨xs, H2, I2, r2, q2⟩ => ⟨x :: xs, H2, I2, .cons r1 r2, q2⟩
def tTup (t : TA) : TE := fun σ H Q => t σ H fun xs H1 => xs.length ≤ sizeLine ∧ ∀ p, H1 p = none → Q (.ref p) (upd H1 p (.tup xs))
def tLst (t : TA) : TE := fun σ H Q => t σ H fun xs H1 => xs.length ≤ sizeLine ∧ ∀ p, H1 p = none → Q (.ref p) (upd H1 p (.lst xs))
theorem pe_tup {x1} (h : PA X es t) : PE X (.Tuple es x1 pos) (tTup t) := by
  intro pins s σ H Q I hq
  refine wpAny_Tuple_spliced (thn (h pos pins s σ H _ I hq) fun us s1 ⟨xs, H1, I1, r, z, q⟩ => ⟨by rw [← r.length]; exact z, ?_⟩)
  have hf : H1 s1.heap.objs.size = none := I1.hok.fresh (Nat.le_refl _)
  refine ⟨.ref s1.heap.objs.size, upd H1 s1.heap.objs.size (.tup xs), I1.laid (t' := s1.toks) (fun b u e => Heap.get?_push_of_some _ e) (Nat.le_refl _) ?_, rfl, q _ hf⟩
  exact ⟨z, us, r, ⟨_, Heap.get?_push_size _ rfl, rfl, _, rfl⟩⟩
theorem pe_lst (h : PA X es t) : PE X (.List es pos) (tLst t) := by
  intro pins s σ H Q I hq
  refine wpAny_List_spliced (thn (h pos pins s σ H _ I hq) fun us s1 ⟨xs, H1, I1, r, z, q⟩ => ⟨by rw [← r.length]; exact z, ?_⟩)
  have hf : H1 s1.heap.objs.size = none := I1.hok.fresh (Nat.le_refl _)
  refine ⟨.ref s1.heap.objs.size, upd H1 s1.heap.objs.size (.lst xs), I1.laid (t' := s1.toks) (fun b u e => Heap.get?_push_of_some _ e) (Nat.le_refl _) ?_, rfl, q _ hf⟩
  exact ⟨z, us, 0, r, Heap.get?_push_size _ rfl⟩
end
abbrev Sp := List V → Hp → VK → XK → Prop
abbrev CXT := List Env → Hp → Shared → XK → Value → Shared → Prop
structure Env0 (P : Program) (w : World) (K : PySem.W.Frag) (mg : Str → Option Value) (base : Heap) (A : Around) (outer : List Env) (s : Shared) (H : Hp) : Prop where
  frames : A.frames = some outer
  mod : Mod K mg base
  bs : ∀ b o, base.get? b = some o → s.heap.get? b = some o ∧ H b = none
  bsz : base.objs.size ≤ s.heap.objs.size
  funs : s.heap.FunFrames base outer
  frf : ∀ b ∈ frs outer, H b = none
  hok : HOk P w H s.heap
  bare : AllBare s.gens
def CE (outer : List Env) (P : Program) (w : World) (H : Hp) (s : Shared) (Q : VK) (u : Value) (s' : Shared) : Prop :=
  ∃ v H', s'.os = s.os ∧ AllBare s'.gens ∧ Un (frs outer) [] H H' s.heap s'.heap ∧ HOk P w H' s'.heap ∧ RelV v u ∧ Q v H'
def CR (CX : CXT) (outer : List Env) (P : Program) (w : World) (H : Hp) (s : Shared) (Q : VK) (E : XK) (r : Result) (s' : Shared) : Prop :=
  match r with
  | .ok (.ret u) => CE outer P w H s Q u s'
  | .ok _ => False
  | .error e => CX outer H s E e s'
structure FnOk (P : Program) (w : World) (K : PySem.W.Frag) (mg : Str → Option Value) (base : Heap) (CX : CXT) (k : Nat) (f : Addr) (fd : FuncData) (ps : List Str) (sp : Sp) : Prop where
  len : ∀ vs H Q E, sp vs H Q E → vs.length = ps.length
  run : ∀ (A : Around) (outer : List Env) (s : Shared) (H : Hp) (args : Args) (us : List Value) (vs : List V) (Q : VK) (E : XK), Room k A → Env0 P w K mg base A outer s H → BindsTo s fd args (ps.zip us) → Vals vs us → sp vs H Q E →
    codeAny (model P w) A (.call (.ref f) args) (CR CX outer P w H s Q E) s
theorem FnOk.mono {P : Program} {w : World} {K : PySem.W.Frag} {mg : Str → Option Value} {base : Heap} {CX : CXT} {j k : Nat} {f : Addr} {fd : FuncData} {ps : List Str} {sp : Sp} (F : FnOk P w K mg base CX j f fd ps sp) (h : j ≤ k) :
    FnOk P w K mg base CX k f fd ps sp := ⟨F.len, fun A outer s H args us vs Q E hr => F.run A outer s H args us vs Q E (hr.mono h)⟩
theorem Env0.make {P : Program} {w : World} {K : PySem.W.Frag} {mg : Str → Option Value} {base : Heap} {A : Around} {outer : List Env} {s : Shared} {H : Hp} (e : Env0 P w K mg base A outer s H) (C : Addr) (us : List Value) (kw : List (Str × Value)) :
    Env0 P w K mg base (A.under (.builtin "type.__call__" ⟨.ref C :: us, kw⟩)) outer s H := ⟨by first | exact e.frames | (simpa [Around.under, Code.envs, Code.isFrame, pushEnvs] using e.frames), e.mod, e.bs, e.bsz, e.funs, e.frf, e.hok, e.bare⟩
section
variable {X : Cx} {pins : List (Addr × Obj)} {σ : St} {H : Hp} {s s' : Shared}
theorem Inv.env0 (I : Inv X pins σ H s) : Env0 X.prog X.w X.K X.mg X.base X.A X.stack s H :=
  ⟨I.ok.frames, I.ok.mod, I.bs, Nat.le_trans I.ok.bsz I.sz, I.stack, I.stkFree, I.hok, I.bare⟩
theorem Inv.after {Q : VK} {u : Value} (I : Inv X pins σ H s) (h : CE X.stack X.prog X.w H s Q u s') : EP X pins σ Q u s' := by
  obtain ⟨v, H', os, bare, un, hok, r, q⟩ := h
  obtain ⟨hh, g, d, t, os'⟩ := s'
  obtain rfl : os' = s.os := os
  exact ⟨v, H', I.call (h' := hh) (g' := g) (d' := d) (t' := t) (ch := []) un hok bare (fun b z => absurd z (by simp)), r, q⟩
end
def tCall (sp : Sp) (dvs : List V) (E : XK) (t : TA) : TE := fun σ H Q => t σ H fun vs H1 => sp (vs ++ dvs) H1 Q E
def tMeth (C : Addr) (m : Str) (sp : Sp) (dvs : List V) (E : XK) (ta : TE) (t : TA) : TE := fun σ H Q => ta σ H fun x H1 => ∃ a dx fs, x = .ref a ∧ H1 a = some (.ins C dx fs) ∧ fs.lookup m = none ∧
  t σ H1 fun vs H2 => sp (x :: (vs ++ dvs)) H2 Q E
def tMake (C : Addr) (sp : Sp) (dvs : List V) (E : XK) (t : TA) : TE := fun σ H Q => t σ H fun vs H1 => ∀ x dx, H1 x = none → H1 dx = none → dx ≠ x →
  sp (.ref x :: (vs ++ dvs)) (upd (upd H1 dx (.own x)) x (.ins C dx [])) (fun v H2 => v = .non ∧ Q (.ref x) H2) E
def Binds (K : PySem.W.Frag) (fd : FuncData) (ps : List Str) (ds : List Value) : Prop :=
  ∀ (s : Shared) (us : List Value), K.In s.heap → (us ++ ds).length = ps.length → BindsTo s fd ⟨us, []⟩ (ps.zip (us ++ ds))
theorem Binds.all {K : PySem.W.Frag} {fd : FuncData} {ps : List Str} (h : ∀ us : List Value, us.length = ps.length → bindArgs fd ⟨us, []⟩ = pure (ps.zip us)) : Binds K fd ps [] := fun s us _ hl => by
  rw [List.append_nil] at hl ⊢
  exact .of_eq (h us hl)
def Passes (CX : CXT) (X : Cx) (E : XK) : Prop := ∀ (pins : List (Addr × Obj)) (σ : St) (H : Hp) (s : Shared) (e : Value) (s' : Shared), Inv X pins σ H s → CX X.stack H s E e s' → X.xe e s'
section
variable {X : Cx} {CX : CXT} {k : Nat} {f C : Addr} {fd : FuncData} {ps : List Str} {sp : Sp} {dvs : List V} {ds : List Value} {E : XK} {x m : Str} {p pos apos : Pos} {e o : Expr} {es : List Expr} {ta : TE} {t : TA}
theorem run_fn {pins : List (Addr × Obj)} {σ : St} {H : Hp} {s : Shared} {Q : VK} {us : List Value} {vs : List V} (F : FnOk X.prog X.w X.K X.mg X.base CX k f fd ps sp) (hr : Room k X.A) (hb : Binds X.K fd ps ds) (hd : Vals dvs ds) (hx : Passes CX X E)
    (I : Inv X pins σ H s) (r : Vals vs us) (h : sp (vs ++ dvs) H Q E) : wpAny (model X.prog X.w) X.A (call (.ref f) us) (EP X pins σ Q) X.xe s := by
  have r2 : Vals (vs ++ dvs) (us ++ ds) := r.append hd
  have hl : (us ++ ds).length = ps.length := by rw [← r2.length]; exact F.len _ _ _ _ h
  refine wpAny_call (codeAny_mono (F.run X.A X.stack s H ⟨us, []⟩ (us ++ ds) (vs ++ dvs) Q E hr I.env0 (hb s us I.kIn hl) r2 h) fun r s' hq => ?_)
  cases r with
  | error e => exact hx pins σ H s e s' I hq
  | ok fl =>
    cases fl with
    | ret u => exact I.after hq
    | next => exact False.elim hq
    | brk => exact False.elim hq
    | cont => exact False.elim hq
theorem pe_call (F : FnOk X.prog X.w X.K X.mg X.base CX k f fd ps sp) (hr : Room k X.A) (hg : Gl X x) (hm : X.mg x = some (.ref f)) (hk : PySem.W.keepIn X.K (.ref f) = true) (hb : Binds X.K fd ps ds) (hd : Vals dvs ds) (hx : Passes CX X E)
    (ha : PA X (e :: es) t) (hdb : (x == ("__debug__" : Str)) = false := by decide) (he : starEach (e :: es) X.env = (false, eval e X.env) :: starEach es X.env := by rfl) (hpl : (backTo pos (starEach es X.env)).any (·.1) = false := by rfl) :
    PE X (.Call (.Name x p) (e :: es) [] pos) (tCall sp dvs E t) := by
  intro pins s σ H Q I h
  refine wpAny_Call_Name_kw (ld_glob I hg hm ?_ hdb)
  refine PySem.W.callWith_K (h₀ := X.base) I.ok.mod.kin hk (thn (ha pos pins s σ H _ I h) fun us s1 ⟨vs, H1, I1, r, q⟩ => ⟨I1.kIn, ?_⟩) he hpl
  exact run_fn F hr hb hd hx I1 r q
structure Mk (K : PySem.W.Frag) (C f : Addr) : Prop where
  makes : PySem.W.makesIn K C = true
  init : PySem.W.findIn K (.ref C) "__init__" = some (some (.ref f))
  fn : PySem.W.isFn K (.ref f) = true
  kp : PySem.W.keepIn K (.ref C) = true
theorem run_make {pins : List (Addr × Obj)} {σ : St} {H : Hp} {s : Shared} {Q : VK} {us : List Value} {vs : List V} (M : Mk X.K C f) (F : FnOk X.prog X.w X.K X.mg X.base CX k f fd ps sp) (hr : Room (k + 1) X.A) (hb : Binds X.K fd ps ds) (hd : Vals dvs ds)
    (hx : Passes CX X E) (I : Inv X pins σ H s) (r : Vals vs us)
    (h : ∀ x dx, H x = none → H dx = none → dx ≠ x → sp (.ref x :: (vs ++ dvs)) (upd (upd H dx (.own x)) x (.ins C dx [])) (fun v H2 => v = .non ∧ Q (.ref x) H2) E) :
    wpAny (model X.prog X.w) X.A (call (.ref C) us) (EP X pins σ Q) X.xe s := by
  have hq := h (s.heap.objs.size + 1) s.heap.objs.size (I.hok.fresh (Nat.le_succ _)) (I.hok.fresh (Nat.le_refl _)) (Nat.ne_of_lt (Nat.lt_succ_self _))
  have I2 := Inv.made (C := C) I
  have r2 : Vals (V.ref (s.heap.objs.size + 1) :: (vs ++ dvs)) (Value.ref (s.heap.objs.size + 1) :: (us ++ ds)) := .cons rfl (r.append hd)
  have hl : (Value.ref (s.heap.objs.size + 1) :: us ++ ds).length = ps.length := by
    have e := r2.length
    rw [F.len _ _ _ _ hq] at e
    exact e.symm
  refine wpAny_call (make_map (f := f) I.kIn M.makes M.init (beq_iff_eq.mp M.fn) (codeAny_mono (F.run _ X.stack _ _ ⟨Value.ref (s.heap.objs.size + 1) :: us, []⟩ (Value.ref (s.heap.objs.size + 1) :: (us ++ ds)) _ _ E (hr.make C us [])
    (I2.env0.make C us []) (hb _ (Value.ref (s.heap.objs.size + 1) :: us) I2.kIn hl) r2 hq) fun r s' hq' => ?_))
  cases r with
  | error e => exact hx pins σ _ _ e s' I2 hq'
  | ok fl =>
    cases fl with
    | ret u =>
      obtain ⟨v, H', I3, rv, ev, q3⟩ := I2.after hq'
      subst ev
      exact ⟨rv, ⟨V.ref (s.heap.objs.size + 1), H', I3, rfl, q3⟩⟩
    | next => exact False.elim hq'
    | brk => exact False.elim hq'
    | cont => exact False.elim hq'
theorem pe_make (M : Mk X.K C f) (F : FnOk X.prog X.w X.K X.mg X.base CX k f fd ps sp) (hr : Room (k + 1) X.A) (hg : Gl X x) (hm : X.mg x = some (.ref C)) (hb : Binds X.K fd ps ds) (hd : Vals dvs ds) (hx : Passes CX X E)
    (ha : PA X (e :: es) t) (hdb : (x == ("__debug__" : Str)) = false := by decide) (he : starEach (e :: es) X.env = (false, eval e X.env) :: starEach es X.env := by rfl) (hpl : (backTo pos (starEach es X.env)).any (·.1) = false := by rfl) :
    PE X (.Call (.Name x p) (e :: es) [] pos) (tMake C sp dvs E t) := by
  intro pins s σ H Q I h
  refine wpAny_Call_Name_kw (ld_glob I hg hm ?_ hdb)
  refine PySem.W.callWith_K (h₀ := X.base) I.ok.mod.kin M.kp (thn (ha pos pins s σ H _ I h) fun us s1 ⟨vs, H1, I1, r, q⟩ => ⟨I1.kIn, ?_⟩) he hpl
  exact run_make M F hr hb hd hx I1 r q
end
def PK (X : Cx) (kws : List Keyword) (t : TA) : Prop :=
  ∀ (pos : Pos) (pins : List (Addr × Obj)) (s : Shared) (σ : St) (H : Hp) (Q : List V → Hp → Prop), Inv X pins σ H s → t σ H Q → wpAny (model X.prog X.w) X.A (evalAll ((backToKw pos (keywordEach kws X.env)).map (·.2))) (AP X pins σ Q) X.xe s
section
variable {X : Cx} {CX : CXT} {k : Nat} {f C : Addr} {fd : FuncData} {ps ks : List Str} {sp : Sp} {E : XK} {x m : Str} {p pos apos kpos : Pos} {e o : Expr} {es : List Expr} {kws : List Keyword} {te ta : TE} {t tk : TA} {nm : Option Str}
structure KBinds (K : PySem.W.Frag) (fd : FuncData) (ps ks : List Str) (g : List Value → List Value → List Value) (gV : List V → List V → List V) : Prop where
  to : ∀ (s : Shared) (us ws : List Value), K.In s.heap → (g us ws).length = ps.length → BindsTo s fd ⟨us, ks.zip ws⟩ (ps.zip (g us ws))
  rel : ∀ {vs : List V} {us : List Value} {zs : List V} {ws : List Value}, Vals vs us → Vals zs ws → Vals (gV vs zs) (g us ws)
def tCallK (sp : Sp) (gV : List V → List V → List V) (E : XK) (t tk : TA) : TE := fun σ H Q => t σ H fun vs H1 => tk σ H1 fun zs H2 => sp (gV vs zs) H2 Q E
variable {g : List Value → List Value → List Value} {gV : List V → List V → List V}
end
structure FnScope (N P : List Str) (sc : Scope) : Prop where
  kind : sc.kind = .function
  co : sc.isCoroutine = false
  gen : sc.isGenerator = false
  nd : N.Nodup
  pre : N.take P.length = P
  par : ∀ x ∈ P, sc.names.lookup x = some .local ∨ sc.names.lookup x = some .cell
  nofree : ∀ y ∈ sc.names, y.2 ≠ .free
theorem bindL_out {kindOf : Str → Option NameKind} {x : Str} : ∀ {binds : List (Str × Value)} {m : Str → Option Value}, (∀ v, (x, v) ∉ binds) → bindL kindOf binds m x = m x
  | [], _, _ => rfl
  | (n, v) :: r, m, h => by
    unfold bindL
    rw [bindL_out fun w hw => h w (List.mem_cons_of_mem _ hw)]
    split
    · have : x ≠ n := by rintro rfl; exact h v List.mem_cons_self
      simp [this]
    · rfl
theorem bindC_out {kindOf : Str → Option NameKind} {x : Str} : ∀ {binds : List (Str × Value)} {m : Str → Option Value}, (∀ v, (x, v) ∉ binds) → bindC kindOf binds m x = m x
  | [], _, _ => rfl
  | (n, v) :: r, m, h => by
    unfold bindC
    rw [bindC_out fun w hw => h w (List.mem_cons_of_mem _ hw)]
    split
    · rfl
    · have : x ≠ n := by rintro rfl; exact h v List.mem_cons_self
      simp [this]
theorem bindL_get {kindOf : Str → Option NameKind} {x : Str} {v : Value} : ∀ {P : List Str} {vs : List Value} {i : Nat} {m : Str → Option Value}, P.Nodup → P[i]? = some x → vs[i]? = some v → kindOf x = some .local →
    bindL kindOf (P.zip vs) m x = some v
  | [], _, _, _, _, h, _, _ => by simp at h
  | _ :: _, [], _, _, _, _, h, _ => by simp at h
  | p :: P, w :: vs, 0, m, nd, h1, h2, hk => by
    simp at h1 h2; subst h1; subst h2
    show bindL kindOf ((p, w) :: P.zip vs) m p = _
    unfold bindL
    rw [bindL_out fun v hv => (List.nodup_cons.mp nd).1 (List.of_mem_zip hv).1, if_pos hk]
    simp
  | p :: P, w :: vs, i + 1, m, nd, h1, h2, hk => by
    show bindL kindOf ((p, w) :: P.zip vs) m x = _
    unfold bindL
    exact bindL_get (i := i) (List.nodup_cons.mp nd).2 (by simpa using h1) (by simpa using h2) hk
theorem bindC_get {kindOf : Str → Option NameKind} {x : Str} {v : Value} : ∀ {P : List Str} {vs : List Value} {i : Nat} {m : Str → Option Value}, P.Nodup → P[i]? = some x → vs[i]? = some v → kindOf x ≠ some .local →
    bindC kindOf (P.zip vs) m x = some v
  | [], _, _, _, _, h, _, _ => by simp at h
  | _ :: _, [], _, _, _, _, h, _ => by simp at h
  | p :: P, w :: vs, 0, m, nd, h1, h2, hk => by
    simp at h1 h2; subst h1; subst h2
    show bindC kindOf ((p, w) :: P.zip vs) m p = _
    unfold bindC
    rw [bindC_out fun v hv => (List.nodup_cons.mp nd).1 (List.of_mem_zip hv).1, if_neg hk]
    simp
  | p :: P, w :: vs, i + 1, m, nd, h1, h2, hk => by
    show bindC kindOf ((p, w) :: P.zip vs) m x = _
    unfold bindC
    exact bindC_get (i := i) (List.nodup_cons.mp nd).2 (by simpa using h1) (by simpa using h2) hk
def start (N : List Str) (vs : List V) : St := vs.map some ++ List.replicate (N.length - vs.length) none
def cxOf (CX : CXT) (P : Program) (w : World) (K : PySem.W.Frag) (mg : Str → Option Value) (base : Heap) (N : List Str) (qual : Str) (scope : Scope) (f : Addr) (cd : Value) (A : Around) (outer : List Env) (s : Shared) (H : Hp) (E : XK) : Cx where
  prog := P
  w := w
  K := K
  mg := mg
  base := base
  A := A.deeper (envOfC qual scope s.heap.objs.size f cd)
  N := N
  s₀ := s
  H₀ := H
  env := envOfC qual scope s.heap.objs.size f cd
  outer := outer
  stack := envOfC qual scope s.heap.objs.size f cd :: outer
  ex := []
  calm := true
  fn := fun _ => true
  pn := []
  xe := fun e s' => wpAny (model P w) (A.deeper (envOfC qual scope s.heap.objs.size f cd)) (leaving (envOfC qual scope s.heap.objs.size f cd) e) (fun _ s'' => CX outer H s E e s'') (fun e' s'' => CX outer H s E e' s'') s'
theorem cell_has {sc : Scope} {n : Nat} {x : Str} (h : sc.names.lookup x = some .cell) : ∃ c, (cellsFrom n sc.names []).lookup x = some c := by
  have q := PySem.W.cellsFrom_some sc.names n [] (.inl h)
  exact Option.isSome_iff_exists.mp q
theorem inv_start {CX : CXT} {P : Program} {w : World} {K : PySem.W.Frag} {mg : Str → Option Value} {base : Heap} {N ps : List Str} {qual : Str} {scope : Scope} {f : Addr} {cd : Value} {A : Around} {outer : List Env} {s s1 : Shared} {H : Hp} {E : XK} {us : List Value} {vs : List V}
    (S : FnScope N ps scope) (hd : A.handled = none) (e0 : Env0 P w K mg base A outer s H) (hl : vs.length = ps.length) (r : Vals vs us)
    (x : InCallC s s.heap.objs.size (bindL (envOfC qual scope s.heap.objs.size f cd).kindOf (ps.zip us) fun _ => none) (cellsFrom (s.heap.objs.size + 1) scope.names []) (bindC (envOfC qual scope s.heap.objs.size f cd).kindOf (ps.zip us) fun _ => none) s1) :
    Inv (cxOf CX P w K mg base N qual scope f cd A outer s H E) [] (start N vs) H s1 := by
  have hpl : ps.length ≤ N.length := by have := congrArg List.length S.pre; rw [List.length_take] at this; omega
  obtain ⟨h1, tk, rfl, hk⟩ := x.done
  have noA : ∀ b : Addr, b ∉ (cxOf CX P w K mg base N qual scope f cd A outer s H E).ex := fun b z => absurd (show b ∈ ([] : List Addr) from z) (by simp)
  refine ⟨⟨e0.mod, S.kind, rfl, rfl, Nat.le_refl _, fun y z c h1 h2 => ?_, fun y hy => ?_, fun y c _ h => ?_, fun _ => hd, Around.frames_deeper e0.frames, .inr ⟨rfl, rfl⟩, fun b z => absurd z (noA b), e0.bs, e0.bsz, fun b _ _ => noA b, fun b z => absurd z (noA b), e0.funs, e0.frf⟩,
    rfl, e0.bare, Un.kept hk, ⟨_, x.toInCall.ns, fun i y v h1 h2 h3 => ?_⟩, fun y c h => ⟨_, x.cell y c h⟩, e0.hok.fresh (Nat.le_refl _), fun y c h => ?_, fun p hp => absurd (show p ∈ ([] : List (Addr × Obj)) from hp) (by simp), e0.hok.kept hk, ?_⟩
  · exact name_of_addr x.apart (PySem.mem_of_lookup h1) (PySem.mem_of_lookup h2)
  · have hy : scope.names.lookup y = some .cell ∨ scope.names.lookup y = some .free := hy
    rcases hy with hy | hy
    · exact cell_has hy
    · exact absurd rfl (S.nofree _ (PySem.mem_of_lookup hy))
  · exact Nat.le_of_lt (x.above y c (PySem.mem_of_lookup h))
  · have hi : i < vs.length := by
      unfold start at h2
      by_cases hi : i < vs.length
      · exact hi
      · rw [List.getElem?_append_right (by simpa using hi)] at h2
        rw [List.getElem?_replicate] at h2
        split at h2 <;> cases h2
    have ha : vs[i]? = some v := by
      unfold start at h2
      rw [List.getElem?_append_left (by simpa using hi), List.getElem?_map] at h2
      cases e : vs[i]? with
      | none => rw [e] at h2; cases h2
      | some a => rw [e] at h2; cases h2; rfl
    obtain ⟨u, hu, rv⟩ := r.get ha
    have hp : ps[i]? = some y := by
      rw [← S.pre, List.getElem?_take_of_lt (by omega)]; exact h1
    have ndP : ps.Nodup := by rw [← S.pre]; exact S.nd.sublist (List.take_sublist _ _)
    refine ⟨u, rv, ?_⟩
    rcases S.par y (List.mem_of_getElem? hp) with k | k
    · exact .inl ⟨k, bindL_get ndP hp hu k⟩
    · obtain ⟨c, e⟩ := cell_has (n := s.heap.objs.size + 1) k
      refine .inr ⟨.inl k, c, e, ?_⟩
      have q := x.cell y c e
      rw [bindC_get ndP hp hu (by show scope.names.lookup y ≠ _; rw [k]; decide)] at q
      exact q
  · exact e0.hok.fresh (Nat.le_of_lt (x.above y c (PySem.mem_of_lookup h)))
  · unfold start
    show _ = N.length
    rw [List.length_append, List.length_map, List.length_replicate]
    omega
theorem fn_of {CX : CXT} {P : Program} {w : World} {K : PySem.W.Frag} {mg : Str → Option Value} {base : Heap} {k : Nat} {f : Addr} {name qual : Str} {params : Arguments} {body : List Stmt} {scope : Scope} {dV kV doc pm cdv ct oc : Value} {an od : Option Addr}
    {osl : Array (Option Value)} {N ps : List Str} {sp : Sp} (lk : K.lookup f = some ⟨oc, od, .func (PySem.W.fnOf name qual params body scope dV kV doc pm an cdv ct), osl⟩) (hcd : PySem.W.codeIn K cdv qual = true) (S : FnScope N ps scope)
    (len : ∀ vs H Q E, sp vs H Q E → vs.length = ps.length)
    (hbody : ∀ (A : Around) (outer : List Env) (s : Shared) (H : Hp) (vs : List V) (Q : VK) (E : XK), Room k (A.deeper (envOfC qual scope s.heap.objs.size f cdv)) → sp vs H Q E →
      ∃ t, PSs (cxOf CX P w K mg base N qual scope f cdv A outer s H E) body t ∧ t { nx := fun _ H' => Q .non H', rt := Q } (start N vs) H) :
    FnOk P w K mg base CX (k + 1) f (PySem.W.fnOf name qual params body scope dV kV doc pm an cdv ct) ps sp := by
  refine ⟨len, fun A outer s H args us vs Q E hr e0 hb r hsp => ?_⟩
  have hl := len _ _ _ _ hsp
  have KX : K.In s.heap := e0.mod.kin.keeps fun b o e => (e0.bs b o e).1
  have lim : s.heap.NoLimit := e0.mod.nolimit.keeps fun b o e => (e0.bs b o e).1
  have hkind : ∀ y ∈ ps.zip us, scope.names.lookup y.1 = some .local ∨ (scope.names.lookup y.1 = some .cell ∧ ((cellsFrom (s.heap.objs.size + 1) scope.names []).lookup y.1).isSome = true) := fun ⟨n, v⟩ hy => by
    rcases S.par n (List.of_mem_zip hy).1 with q | q
    · exact .inl q
    · exact .inr ⟨q, PySem.W.cellsFrom_some _ _ _ (.inl q)⟩
  refine codeAny_call_function hr.depth (KX _ _ lk) rfl S.co S.gen rfl (PySem.W.codeRec_of KX hcd) (hb _ _ _ _ ?_)
  refine wpAny_newFunctionEnv_cells S.kind hkind fun env he s1 x => ?_
  subst he
  refine ⟨lim.keeps x.toInCall.keep, codeAny_func ?_⟩
  obtain ⟨t, ht, hq⟩ := hbody A outer s H vs Q E (hr.deeper _) hsp
  have I : Inv (cxOf CX P w K mg base N qual scope f cdv A outer s H E) [] (start N vs) H s1 := inv_start S hr.hd e0 hl r x
  refine wpAny_mono (ht [] s1 (start N vs) H _ I hq) (fun fl s' hs => ?_) fun e s' hs => hs
  have fin : ∀ {σ' : St} {H' : Hp} {v : V} {u : Value}, Inv (cxOf CX P w K mg base N qual scope f cdv A outer s H E) [] σ' H' s' → RelV v u → Q v H' → CE outer P w H s Q u s' :=
    fun {σ' H' v u} J rv q => ⟨v, H', J.os, J.bare, J.base, J.hok, rv, q⟩
  cases fl with
  | ret u =>
    obtain ⟨v, σ', H', J, rv, q⟩ := hs
    exact fin J rv q
  | next =>
    obtain ⟨σ', H', J, q⟩ := hs
    exact fin (v := V.non) (u := Value.none) J rfl q
  | brk =>
    obtain ⟨_, _, _, q⟩ := hs
    exact False.elim q
  | cont =>
    obtain ⟨_, _, _, q⟩ := hs
    exact False.elim q
end L2
namespace L2
open PySem PySem.Spec PyProof.Rows
section
variable {X : Cx} {x : Str} {p pos : Pos} {e : Expr} {es : List Expr} {t : TA} {id T : String} {r : List V → Hp → VK → Prop}
def tCB (r : List V → Hp → VK → Prop) (t : TA) : TE := fun σ H Q => t σ H fun vs H1 => r vs H1 Q
theorem pe_callB (hc : CallR X (.builtin id) r) (hg : Gl X x) (hm : X.mg x = none) (hv : bootBuiltins x = some (.builtin id)) (ha : PA X (e :: es) t) (hn : x ≠ "__name__" := by decide) (hdb : (x == ("__debug__" : Str)) = false := by decide)
    (he : starEach (e :: es) X.env = (false, eval e X.env) :: starEach es X.env := by rfl) (hpl : (backTo pos (starEach es X.env)).any (·.1) = false := by rfl) : PE X (.Call (.Name x p) (e :: es) [] pos) (tCB r t) := by
  intro pins s σ H Q I h
  refine wpAny_Call_Name_kw (ld_blt I hg hm hv ?_ hn hdb)
  exact PyProof.Rows.callWith_builtin1 (thn (ha pos pins s σ H _ I h) fun us s1 ⟨vs, H1, I1, r1, q1⟩ => hc pins s1 σ H1 vs us Q I1 r1 q1) he hpl
theorem pe_callTy (hc : CallR X (.type T) r) (hg : Gl X x) (hm : X.mg x = none) (hv : bootBuiltins x = some (.type T)) (ha : PA X (e :: es) t) (hn : x ≠ "__name__" := by decide) (hdb : (x == ("__debug__" : Str)) = false := by decide)
    (he : starEach (e :: es) X.env = (false, eval e X.env) :: starEach es X.env := by rfl) (hpl : (backTo pos (starEach es X.env)).any (·.1) = false := by rfl) : PE X (.Call (.Name x p) (e :: es) [] pos) (tCB r t) := by
  intro pins s σ H Q I h
  refine wpAny_Call_Name_kw (ld_blt I hg hm hv ?_ hn hdb)
  exact PyProof.Rows.callWith_type1 (thn (ha pos pins s σ H _ I h) fun us s1 ⟨vs, H1, I1, r1, q1⟩ => hc pins s1 σ H1 vs us Q I1 r1 q1) he hpl
end
end L2
namespace HT
open PySem PyProof.Rows
def lexLt : List Int → List Int → Bool
  | [], [] => false
  | [], _ :: _ => true
  | _ :: _, [] => false
  | x :: xs, y :: ys => if x = y then lexLt xs ys else decide (x < y)
section
open PySem.SeqAt
open PySem.AutoSeq1 (wpAny_loadPart')
open PySem.MeetsSeq PySem.MeetsSeq2 PySem.MeetsSeq3
end
section
variable {prog : Program} {w : World} {A : Around} {E : Value → Shared → Prop} {s : Shared}
def sIx (n d : Nat) : Option Int → Nat
  | none => d
  | some v => if v < 0 then (v + (n : Int)).toNat else min v.toNat n
end
end HT
namespace L2
open PySem PySem.Spec PyProof.Rows
abbrev TO := St → Hp → (Option Int → Hp → Prop) → Prop
def PO (X : Cx) (e : Option Expr) (t : TO) : Prop :=
  ∀ (pins : List (Addr × Obj)) (s : Shared) (σ : St) (H : Hp) (Q : Option Int → Hp → Prop), Inv X pins σ H s → t σ H Q →
    wpAny (model X.prog X.w) X.A (evalPart e X.env) (fun u s' => ∃ o H', Inv X pins σ H' s' ∧ IsPart u o ∧ Q o H') X.xe s
def tNoPart : TO := fun _ H Q => Q none H
def tPart (t : TE) : TO := fun σ H Q => t σ H fun x H1 => ∃ i, x = .int i ∧ Q (some i) H1
section
variable {X : Cx} {e : Expr} {te : TE} {lo hi : Option Expr} {tl th : TO} {pos p2 : Pos}
def SlR (X : Cx) (r : V → Option Int → Option Int → Hp → VK → Prop) : Prop :=
  ∀ (pins : List (Addr × Obj)) (s : Shared) (σ : St) (H : Hp) (x : V) (v vl vu : Value) (lo hi : Option Int) (sl : Addr) (Q : VK), Inv X pins σ H s → RelV x v → s.heap.IsSliceOf sl vl vu .none → IsPart vl lo → IsPart vu hi → r x lo hi H Q →
    ∃ T id, typeLookup (.type T) "__getitem__" = pure (some (.builtin id)) ∧ s.TypeIs v T ∧ wpAny (model X.prog X.w) X.A (getItem v (.ref sl)) (EP X pins σ Q) X.xe s
def tSl (r : V → Option Int → Option Int → Hp → VK → Prop) (te : TE) (tl th : TO) : TE := fun σ H Q => te σ H fun x H1 => tl σ H1 fun l H2 => th σ H2 fun u H3 => r x l u H3 Q
def cutV (xs : List V) (lo hi : Option Int) : List V := (xs.drop (HT.sIx xs.length 0 lo)).take (HT.sIx xs.length xs.length hi - HT.sIx xs.length 0 lo)
def rSlT (K : PySem.W.Frag) : V → Option Int → Option Int → Hp → VK → Prop := fun x lo hi H Q => ∃ a xs, x = .ref a ∧ SqT K H a xs ∧
  ¬ (HT.sIx xs.length 0 lo = 0 ∧ HT.sIx xs.length xs.length hi = xs.length) ∧ ∀ p, H p = none → Q (.ref p) (upd H p (.tup (cutV xs lo hi)))
def rLtT (K : PySem.W.Frag) : R2 := fun x y H Q => ∃ a b ns ms, x = .ref a ∧ y = .ref b ∧ SqT K H a (ns.map V.int) ∧ SqT K H b (ms.map V.int) ∧ Q (.bl (HT.lexLt ns ms)) H
def rCatT (K : PySem.W.Frag) : R2 := fun x y H Q => ∃ a b xs ys, x = .ref a ∧ y = .ref b ∧ SqT K H a xs ∧ SqT K H b ys ∧ xs ≠ [] ∧ xs.length + ys.length ≤ sizeLine ∧
  (ys = [] → Q (.ref a) H) ∧ (ys ≠ [] → ∀ p, H p = none → Q (.ref p) (upd H p (.tup (xs ++ ys))))
end
end L2
namespace L2
open PySem PySem.Spec PyProof.Rows
def ixN (n : Nat) (i : Int) : Option Nat := if 0 ≤ i then (if i < n then some i.toNat else none) else if -(n : Int) ≤ i then some (i + n).toNat else none
def atI {α : Type} (xs : List α) (i : Int) : Option α := (ixN xs.length i).bind fun j => xs[j]?
theorem ixN_seq {n : Nat} {i : Int} {j : Nat} (h : ixN n i = some j) : seqIndex? i n = some j ∧ j < n ∧ -(n : Int) ≤ i ∧ i < n := by
  unfold ixN at h
  by_cases h0 : 0 ≤ i
  · rw [if_pos h0] at h
    by_cases h1 : i < n
    · rw [if_pos h1] at h
      have e : i.toNat = j := Option.some.inj h
      exact ⟨by rw [seqIndex_of h0 h1, e], by omega, by omega, h1⟩
    · rw [if_neg h1] at h; cases h
  · rw [if_neg h0] at h
    by_cases h1 : -(n : Int) ≤ i
    · rw [if_pos h1] at h
      have e : (i + n).toNat = j := Option.some.inj h
      exact ⟨by rw [seqIndex_neg (by omega) h1, e], by omega, h1, by omega⟩
    · rw [if_neg h1] at h; cases h
theorem atI_get {α : Type} {xs : List α} {i : Int} {v : α} (h : atI xs i = some v) : ∃ j, seqIndex? i xs.length = some j ∧ xs[j]? = some v ∧ j < xs.length ∧ -(xs.length : Int) ≤ i ∧ i < xs.length := by
  unfold atI at h
  cases e : ixN xs.length i with
  | none => rw [e] at h; cases h
  | some j =>
    rw [e] at h
    obtain ⟨h1, h2, h3, h4⟩ := ixN_seq e
    exact ⟨j, h1, h, h2, h3, h4⟩
theorem atI_nat {α : Type} {xs : List α} {j : Nat} {v : α} (h : xs[j]? = some v) : atI xs (j : Int) = some v := by
  have hj : j < xs.length := (List.getElem?_eq_some_iff.mp h).1
  have e : ixN xs.length (j : Int) = some j := by
    unfold ixN
    rw [if_pos (by omega), if_pos (by omega)]; simp
  unfold atI; rw [e]; exact h
theorem atI_last {α : Type} (xs : List α) (v : α) : atI (xs ++ [v]) (-1) = some v := by
  have hl : (xs ++ [v]).length = xs.length + 1 := by simp
  have e : ixN (xs ++ [v]).length (-1) = some xs.length := by
    unfold ixN
    rw [hl, if_neg (by decide), if_pos (by omega)]
    congr 1
    omega
  unfold atI
  rw [e]
  show (xs ++ [v])[xs.length]? = some v
  simp
def PlainIx (b : Expr) : Prop := ∀ o i, subscripted b false o i = operate [o, i] (getItem o i)
def IxR (X : Cx) (r : R2) : Prop :=
  ∀ (value slice : Expr) (pins : List (Addr × Obj)) (s : Shared) (σ : St) (H : Hp) (x y : V) (v u : Value) (Q : VK), Inv X pins σ H s → RelV x v → RelV y u → r x y H Q →
    subscripted slice false v u = operate [v, u] (getItem v u) → wpAny (model X.prog X.w) X.A (subscriptTail value slice v u) (EP X pins σ Q) X.xe s
def MtR (X : Cx) (id : String) (r : V → List V → Hp → VK → Prop) : Prop :=
  ∀ (pins : List (Addr × Obj)) (s : Shared) (σ : St) (H : Hp) (x : V) (xs : List V) (v : Value) (us : List Value) (Q : VK), Inv X pins σ H s → RelV x v → Vals xs us → r x xs H Q →
    wpAny (model X.prog X.w) X.A (call (.builtin id) (v :: us)) (EP X pins σ Q) X.xe s
section
variable {X : Cx} {a b : Expr} {ta tb : TE} {pos : Pos}
theorem pe_ix {r : R2} (hr : IxR X r) (ha : PE X a ta) (hb : PE X b tb) (hs : PlainIx b) : PE X (.Subscript a b pos) (tOp r ta tb) := by
  intro pins s σ H Q I h
  exact Subscript_ (binT ha hb I h fun v u s2 x y H2 I2 rx ry q => hr a b pins s2 σ H2 x y v u Q I2 rx ry q (hs _ _))
def rIxL (K : PySem.W.Frag) : R2 := fun x y H Q => ∃ p xs i v, x = .ref p ∧ y = .int i ∧ SqL K H p xs ∧ atI xs i = some v ∧ Q v H
def rIxT (K : PySem.W.Frag) : R2 := fun x y H Q => ∃ p xs i v, x = .ref p ∧ y = .int i ∧ SqT K H p xs ∧ atI xs i = some v ∧ Q v H
def rIxS : R2 := fun x y H Q => ∃ z i c, x = .str z ∧ y = .int i ∧ z.length ≤ sizeLine ∧ atI z.cps.toList i = some c ∧ Q (.str ⟨#[c]⟩) H
theorem ix_list : IxR X (rIxL X.K) := by
  intro value slice pins s σ H x y v u Q I rx ry h hs
  obtain ⟨p, xs, i, z, rfl, rfl, hq, he, q⟩ := h
  cases rx
  obtain ⟨t, rfl⟩ := ry
  obtain ⟨its, r, pl, hz⟩ := I.list hq
  obtain ⟨j, h1, h2, h3, h4, h5⟩ := atI_get he
  obtain ⟨w, ew, rw'⟩ := r.get h2
  have hl := r.length
  have hn := line63
  have fin : EP X pins σ Q w s := ⟨z, H, I, rw', q⟩
  by_cases h0 : 0 ≤ i
  · have hj : i.toNat = j := by
      rw [seqIndex_of h0 h5] at h1
      exact Option.some.inj h1
    exact item_listR pl.isList h0 (by omega) (by rw [hj]; simpa using ew) fin hs
  · have hj : (i + (its.toArray.size : Int)).toNat = j := by
      rw [seqIndex_neg (by omega) h4] at h1
      rw [List.size_toArray, ← hl]
      exact Option.some.inj h1
    exact subscriptTail_builtinR (x := w) pl.isList.typeIs slot_list_getitem.lookup
      (wpAny_getItem_list_neg (Q := fun r s' => r = w ∧ EP X pins σ Q r s') pl.isList (by omega) (by rw [List.size_toArray] <;> omega) (by omega) (by rw [hj]; simpa using ew) ⟨rfl, fin⟩) hs
theorem ix_tup : IxR X (rIxT X.K) := by
  intro value slice pins s σ H x y v u Q I rx ry h hs
  obtain ⟨p, xs, i, z, rfl, rfl, hq, he, q⟩ := h
  cases rx
  obtain ⟨t, rfl⟩ := ry
  obtain ⟨its, r, pl, hz⟩ := I.tuple hq
  obtain ⟨j, h1, h2, h3, h4, h5⟩ := atI_get he
  obtain ⟨w, ew, rw'⟩ := r.get h2
  have hl := r.length
  have hn := line63
  have fin : EP X pins σ Q w s := ⟨z, H, I, rw', q⟩
  exact subscriptTail_builtinR (x := w) pl.typeIs slot_tuple_getitem.lookup
    (getItem_tuple (j := j) (Q := fun r s' => r = w ∧ EP X pins σ Q r s') pl (by omega) (by omega) (by rw [List.size_toArray, ← hl]; exact h1) (by simpa using ew) ⟨rfl, fin⟩) hs
def rIx (K : PySem.W.Frag) : R2 := fun x y H Q => rIxL K x y H Q ∨ rIxT K x y H Q ∨ rIxS x y H Q
theorem mapSeq_set (its : List Value) (n j : Nat) (u : Value) : Obj.mapSeq (·.setIfInBounds j u) { cls := .type "list", data := .seq its.toArray n } = { cls := .type "list", data := .seq (its.set j u).toArray n } := by
  simp [Obj.mapSeq]
theorem Inv.lst {pins : List (Addr × Obj)} {σ : St} {H : Hp} {s : Shared} {p : Addr} {xs : List V} (I : Inv X pins σ H s) (h : H p = some (.lst xs)) :
    ∃ (its : List Value) (n : Nat), Vals xs its ∧ s.heap.get? p = some { cls := .type "list", data := .seq its.toArray n } ∧ xs.length ≤ sizeLine := by
  obtain ⟨z, its, n, r, e⟩ := I.hok p _ h
  exact ⟨its, n, r, e, z⟩
theorem Inv.lstUpd {pins : List (Addr × Obj)} {σ : St} {H : Hp} {s : Shared} {p : Addr} {xs ys : List V} {its its' : List Value} {n n' : Nat} {f : Obj → Obj} (I : Inv X pins σ H s) (h : H p = some (.lst xs))
    (ho : s.heap.get? p = some { cls := .type "list", data := .seq its.toArray n }) (hf : f { cls := .type "list", data := .seq its.toArray n } = { cls := .type "list", data := .seq its'.toArray n' }) (r : Vals ys its') (hz : ys.length ≤ sizeLine) (t : Nat) :
    Inv X pins σ (upd H p (.lst ys)) { s with heap := s.heap.update p f, toks := t } := by
  have e : (s.heap.update p f).get? p = some { cls := .type "list", data := .seq its'.toArray n' } := by
    rw [Heap.get?_update_self f ho (by rw [hf] <;> rfl), hf]
  refine I.write (x := p) (e := p) (by rw [h]; trivial) (.inl rfl) (fun b u hb q => (Heap.get?_update_other _ _ (Ne.symm hb)).trans q) ⟨_, e⟩ ?_
  exact ⟨hz, its', n', r, e⟩
def rSetL : V → V → V → Hp → (Hp → Prop) → Prop := fun o i v H Q => ∃ p xs k j, o = .ref p ∧ i = .int k ∧ H p = some (.lst xs) ∧ ixN xs.length k = some j ∧ Q (upd H p (.lst (xs.set j v)))
theorem set_list : PSet X rSetL := by
  intro pins s σ H o i v ov iv u Q I ro ri rv h
  obtain ⟨p, xs, k, j, rfl, rfl, hp, hj, q⟩ := h
  cases ro
  obtain ⟨t, rfl⟩ := ri
  obtain ⟨its, n, r, ho, hz⟩ := I.lst hp
  obtain ⟨h1, h2, h3, h4⟩ := ixN_seq hj
  have hl := r.length
  have hn := line63
  have I' : Inv X pins σ (upd H p (.lst (xs.set j v))) { s with heap := s.heap.update p (Obj.mapSeq (·.setIfInBounds j u)) } :=
    I.lstUpd hp ho (mapSeq_set its n j u) (r.set rv j) (by rw [List.length_set]; exact hz) s.toks
  by_cases h0 : 0 ≤ k
  · have hk : k.toNat = j := by
      rw [seqIndex_of h0 h4] at h1
      exact Option.some.inj h1
    exact PySem.W.ki_setAt ho h0 (by omega) (by rw [List.size_toArray, ← hl]; exact h4) (by rw [hk]; exact ⟨_, I', q⟩)
  · have hk : (k + (its.toArray.size : Int)).toNat = j := by
      rw [seqIndex_neg (by omega) h3] at h1
      rw [List.size_toArray, ← hl]
      exact Option.some.inj h1
    exact PySem.W.ki_setBack ho (by omega) (by rw [List.size_toArray, ← hl]; exact h3) (by omega) (by rw [hk]; exact ⟨_, I', q⟩)
def rSlL (K : PySem.W.Frag) : V → Option Int → Option Int → Hp → VK → Prop := fun x lo hi H Q => ∃ a xs, x = .ref a ∧ SqL K H a xs ∧ ∀ p, H p = none → Q (.ref p) (upd H p (.lst (cutV xs lo hi)))
def flatV : V → Bool
  | .non => true
  | .bl _ => true
  | .int _ => true
  | .str _ => true
  | _ => false
def eqV : V → V → Bool
  | .non, .non => true
  | .bl a, .bl b => a == b
  | .bl a, .int b => (if a then 1 else 0) == b
  | .int a, .bl b => a == (if b then 1 else 0)
  | .int a, .int b => a == b
  | .str a, .str b => a == b
  | _, _ => false
theorem eqAt_V {A : Around} {s : Shared} {y x : V} {u v : Value} (ry : RelV y u) (rx : RelV x v) (fy : flatV y = true) (fx : flatV x = true) : SeqAt.EqAt A s u v (eqV y x) := by
  cases y with
  | non =>
    cases ry
    cases x with
    | non => cases rx; exact SeqAt.EqAt.same _
    | bl b => cases rx; exact SeqAt.EqAt.none_bool b
    | int b => obtain ⟨t, rfl⟩ := rx; exact SeqAt.EqAt.none_int b t
    | str b => obtain ⟨t, rfl⟩ := rx; exact SeqAt.EqAt.none_str b t
    | _ => exact absurd (show false = true from fx) Bool.false_ne_true
  | bl a =>
    cases ry
    cases x with
    | non => cases rx; exact SeqAt.EqAt.bool_none a
    | bl b => cases rx; exact SeqAt.EqAt.bool_bool a b
    | int b => obtain ⟨t, rfl⟩ := rx; exact SeqAt.EqAt.bool_int a b t
    | str b => obtain ⟨t, rfl⟩ := rx; exact SeqAt.EqAt.bool_str a b t
    | _ => exact absurd (show false = true from fx) Bool.false_ne_true
  | int a =>
    obtain ⟨t', rfl⟩ := ry
    cases x with
    | non => cases rx; exact SeqAt.EqAt.int_none a t'
    | bl b => cases rx; exact SeqAt.EqAt.int_bool a t' b
    | int b => obtain ⟨t, rfl⟩ := rx; exact SeqAt.EqAt.int_int a t' b t
    | str b => obtain ⟨t, rfl⟩ := rx; exact SeqAt.EqAt.int_str a t' b t
    | _ => exact absurd (show false = true from fx) Bool.false_ne_true
  | str a =>
    obtain ⟨t', rfl⟩ := ry
    cases x with
    | non => cases rx; exact SeqAt.EqAt.str_none a t'
    | bl b => cases rx; exact SeqAt.EqAt.str_bool a t' b
    | int b => obtain ⟨t, rfl⟩ := rx; exact SeqAt.EqAt.str_int a t' b t
    | str b => obtain ⟨t, rfl⟩ := rx; exact SeqAt.EqAt.str_str a t' b t
    | _ => exact absurd (show false = true from fx) Bool.false_ne_true
  | _ => exact absurd (show false = true from fy) Bool.false_ne_true
def eqU (x : V) (u : Value) : Bool := match u with
  | .none => eqV .non x
  | .bool b => eqV (.bl b) x
  | .int i _ => eqV (.int i) x
  | .str z _ => eqV (.str z) x
  | _ => false
theorem eqU_of {x y : V} {u : Value} (r : RelV y u) (f : flatV y = true) : eqU x u = eqV y x := by
  cases y with
  | non => cases r; rfl
  | bl b => cases r; rfl
  | int i => obtain ⟨t, rfl⟩ := r; rfl
  | str z => obtain ⟨t, rfl⟩ := r; rfl
  | _ => exact absurd (show false = true from f) Bool.false_ne_true
theorem any_eqU {x : V} : ∀ {xs : List V} {us : List Value}, Vals xs us → xs.all flatV = true → us.any (eqU x) = xs.any fun y => eqV y x
  | _, _, .nil, _ => rfl
  | y :: xs, u :: us, .cons r t, f => by
    rw [List.all_cons, Bool.and_eq_true] at f
    rw [List.any_cons, List.any_cons, eqU_of r f.1, any_eqU t f.2]
theorem mem_eqAt {A : Around} {s : Shared} {x : V} {v : Value} (rx : RelV x v) (fx : flatV x = true) : ∀ {xs : List V} {us : List Value}, Vals xs us → xs.all flatV = true → ∀ u ∈ us, SeqAt.EqAt A s u v (eqU x u)
  | _, _, .nil, _ => fun u hu => by cases hu
  | y :: xs, u :: us, .cons r t, f => fun u' hu => by
    rw [List.all_cons, Bool.and_eq_true] at f
    rcases List.mem_cons.mp hu with rfl | hu
    · rw [eqU_of r f.1]; exact eqAt_V r rx f.1 fx
    · exact mem_eqAt rx fx t f.2 u' hu
def inV (x : V) (xs : List V) : Bool := xs.any fun y => eqV y x
def rIn (K : PySem.W.Frag) (neg : Bool) : R2 := fun x y H Q => ∃ p xs, y = .ref p ∧ (SqL K H p xs ∨ SqT K H p xs) ∧ flatV x = true ∧ xs.all flatV = true ∧ Q (.bl (if neg then !inV x xs else inV x xs)) H
theorem op_in_seq : OpR X (compareOp .In) (rIn X.K false) := by
  intro pins s σ H x y v u Q I rx ry h
  obtain ⟨p, xs, rfl, hq, fx, fs, q⟩ := h
  cases ry
  rcases hq with hq | hq
  · obtain ⟨its, r, pl, hz⟩ := I.list hq
    refine SeqAt.in_listAt (eqU x) pl.isList (fun w hw => mem_eqAt rx fx r fs w (by simpa using hw)) ⟨.bl _, H, I, rfl, ?_⟩
    rw [show its.toArray.any (eqU x) = its.any (eqU x) by simp, any_eqU r fs]
    exact q
  · obtain ⟨its, r, pl, hz⟩ := I.tuple hq
    refine SeqAt.in_tupleAt (eqU x) pl (fun w hw => mem_eqAt rx fx r fs w (by simpa using hw)) ⟨.bl _, H, I, rfl, ?_⟩
    rw [show its.toArray.any (eqU x) = its.any (eqU x) by simp, any_eqU r fs]
    exact q
theorem op_notIn_seq : OpR X (compareOp .NotIn) (rIn X.K true) := by
  intro pins s σ H x y v u Q I rx ry h
  obtain ⟨p, xs, rfl, hq, fx, fs, q⟩ := h
  cases ry
  rcases hq with hq | hq
  · obtain ⟨its, r, pl, hz⟩ := I.list hq
    refine SeqAt.notIn_listAt (eqU x) pl.isList (fun w hw => mem_eqAt rx fx r fs w (by simpa using hw)) ⟨.bl _, H, I, rfl, ?_⟩
    rw [show its.toArray.any (eqU x) = its.any (eqU x) by simp, any_eqU r fs]
    exact q
  · obtain ⟨its, r, pl, hz⟩ := I.tuple hq
    refine SeqAt.notIn_tupleAt (eqU x) pl (fun w hw => mem_eqAt rx fx r fs w (by simpa using hw)) ⟨.bl _, H, I, rfl, ?_⟩
    rw [show its.toArray.any (eqU x) = its.any (eqU x) by simp, any_eqU r fs]
    exact q
theorem call_len_seq : CallR X (.builtin "len") (fun xs H Q => ∃ p ys, xs = [.ref p] ∧ (SqL X.K H p ys ∨ SqT X.K H p ys) ∧ Q (.int ys.length) H) := by
  intro pins s σ H xs us Q I r h
  obtain ⟨p, ys, rfl, hq, q⟩ := h
  obtain ⟨u, rfl, rx⟩ := vals1 r
  cases rx
  have hn := line63
  rcases hq with hq | hq
  · obtain ⟨its, r', pl, hz⟩ := I.list hq
    have hlen := r'.length
    exact Calls.call_len_list pl.isList (by simp only [List.size_toArray] <;> omega) ⟨.int ys.length, H, I.tok _, ⟨s.toks + 1, by rw [List.size_toArray, hlen]⟩, q⟩
  · obtain ⟨its, r', pl, hz⟩ := I.tuple hq
    have hlen := r'.length
    exact len_tuple pl (by simp only [List.size_toArray] <;> omega) ⟨.int ys.length, H, I.tok _, ⟨s.toks + 1, by rw [List.size_toArray, hlen]⟩, q⟩
theorem call_list_of : CallR X (.type "list") (fun xs H Q => ∃ p ys, xs = [.ref p] ∧ (SqL X.K H p ys ∨ SqT X.K H p ys) ∧ ∀ l, H l = none → Q (.ref l) (upd H l (.lst ys))) := by
  intro pins s σ H xs us Q I r h
  obtain ⟨p, ys, rfl, hq, q⟩ := h
  obtain ⟨u, rfl, rx⟩ := vals1 r
  cases rx
  have fin : ∀ (its : List Value), Vals ys its → ys.length ≤ sizeLine → ∀ (h' : Heap) (c' : Nat), (∀ b o', s.heap.get? b = some o' → h'.get? b = some o') →
      h'.get? s.heap.objs.size = some { cls := .type "list", dict := none, data := .seq its.toArray c', slots := #[] } → EP X pins σ Q (.ref s.heap.objs.size) { s with heap := h' } := fun its r' hz h' c' kp e =>
    ⟨.ref s.heap.objs.size, _, I.laid (t' := s.toks) kp (Nat.le_refl _) (show ObjOk X.prog X.w _ h' _ (.lst ys) from ⟨hz, its, c', r', e⟩), rfl, q _ (I.hok.fresh (Nat.le_refl _))⟩
  rcases hq with hq | hq
  · obtain ⟨its, r', pl, hz⟩ := I.list hq
    have hlen := r'.length
    obtain ⟨o, ho, hc, n, hd⟩ := pl.isList
    exact call_list_seq p (.inl rfl) ho hc hd (fun h' c' kp e => fin its r' hz h' c' kp e) (by simp only [List.size_toArray] <;> omega)
  · obtain ⟨its, r', pl, hz⟩ := I.tuple hq
    have hlen := r'.length
    obtain ⟨o, ho, hc, n, hd⟩ := pl
    exact call_list_seq p (.inr rfl) ho hc hd (fun h' c' kp e => fin its r' hz h' c' kp e) (by simp only [List.size_toArray] <;> omega)
theorem call_tuple_of : CallR X (.type "tuple") (fun xs H Q => ∃ p ys, xs = [.ref p] ∧ ((SqL X.K H p ys ∧ ∀ l, H l = none → Q (.ref l) (upd H l (.tup ys))) ∨ (SqT X.K H p ys ∧ Q (.ref p) H))) := by
  intro pins s σ H xs us Q I r h
  obtain ⟨p, ys, rfl, h⟩ := h
  obtain ⟨u, rfl, rx⟩ := vals1 r
  cases rx
  rcases h with ⟨hq, q⟩ | ⟨hq, q⟩
  · obtain ⟨its, r', pl, hz⟩ := I.list hq
    have hlen := r'.length
    refine call_tuple_list pl.isList (fun h' kp => ?_) (by simp only [List.size_toArray] <;> omega)
    have I1 : Inv X pins σ H { s with heap := h' } := I.kept (t' := s.toks) kp
    have I2 : Inv X pins σ (upd H h'.objs.size (.tup ys)) { s with heap := h'.push { cls := .type "tuple", data := .seq its.toArray } } :=
      I1.laid (t' := s.toks) (fun b o e => Heap.get?_push_of_some _ e) (Nat.le_refl _) (show ObjOk X.prog X.w _ _ _ (.tup ys) from ⟨hz, its, r', IsTup.new _ _⟩)
    exact ⟨.ref h'.objs.size, _, I2, rfl, q _ (I1.hok.fresh (Nat.le_refl _))⟩
  · obtain ⟨its, r', pl, hz⟩ := I.tuple hq
    exact call_tuple_same pl ⟨.ref p, H, I, rfl, q⟩
def tyV (K : PySem.W.Frag) (T : String) (x : V) (H : Hp) : Prop := match x with
  | .str _ => T = "str"
  | .int _ => T = "int"
  | .ref p => (T = "list" ∧ ∃ xs, SqL K H p xs) ∨ (T = "tuple" ∧ ∃ o, K.lookup p = some o ∧ o.cls = .type "tuple" ∧ o.dict = none) ∨
      (T = "dict" ∧ ((∃ kvs, H p = some (.dK kvs)) ∨ ∃ kvs, H p = some (.dT kvs))) ∨ (T = "set" ∧ ∃ S n, H p = some (.set S n))
  | _ => False
theorem tyV_is {pins : List (Addr × Obj)} {σ : St} {H : Hp} {s : Shared} {T : String} {x : V} {v : Value} (I : Inv X pins σ H s) (r : RelV x v) (ty : tyV X.K T x H) :
    s.TypeIs v T ∧ ∀ a, v = .ref a → ∃ ob, s.heap.get? a = some ob ∧ ob.dict = none := by
  cases x with
  | str z =>
    obtain ⟨t, rfl⟩ := r
    cases (show T = "str" from ty)
    exact ⟨typeIs_str s z t, fun _ e => nomatch e⟩
  | int i =>
    obtain ⟨t, rfl⟩ := r
    cases (show T = "int" from ty)
    exact ⟨typeIs_int s i t, fun _ e => nomatch e⟩
  | ref p =>
    cases r
    rcases ty with ⟨rfl, xs, hq⟩ | ⟨rfl, o, hk, hc, hd⟩ | ⟨rfl, hk⟩ | ⟨rfl, S, n, hk⟩
    · obtain ⟨its, _, pl, _⟩ := I.list hq
      refine ⟨pl.isList.typeIs, fun a e => ?_⟩
      cases e
      obtain ⟨o, n, e, c, hd, _⟩ := pl
      exact ⟨o, e, hd⟩
    · refine ⟨⟨o, I.kIn p o hk, hc⟩, fun a e => ?_⟩
      cases e
      exact ⟨o, I.kIn _ o hk, hd⟩
    · have z : ∃ o, s.heap.get? p = some o ∧ o.ExactDict := by
        rcases hk with ⟨kvs, hk⟩ | ⟨kvs, hk⟩
        · obtain ⟨_, _, _, _, o, _, _, e, ex, _⟩ := I.hok p _ hk
          exact ⟨o, e, ex⟩
        · obtain ⟨_, _, _, _, o, _, _, e, ex, _⟩ := I.hok p _ hk
          exact ⟨o, e, ex⟩
      obtain ⟨o, e, ex⟩ := z
      refine ⟨⟨o, e, ex.1⟩, fun a e2 => ?_⟩
      cases e2
      exact ⟨o, e, ex.2.1⟩
    · obtain ⟨o, _, _, _, e, ex, _⟩ := I.hok p _ hk
      refine ⟨⟨o, e, ex.1⟩, fun a e2 => ?_⟩
      cases e2
      exact ⟨o, e, ex.2.1⟩
  | _ => exact False.elim ty
def tBM0 (K : PySem.W.Frag) (T : String) (r : V → List V → Hp → VK → Prop) (to : TE) : TE := fun σ H Q => to σ H fun x H1 => tyV K T x H1 ∧ r x [] H1 Q
def tBM (K : PySem.W.Frag) (T : String) (r : V → List V → Hp → VK → Prop) (to : TE) (t : TA) : TE := fun σ H Q => to σ H fun x H1 => tyV K T x H1 ∧ t σ H1 fun xs H2 => r x xs H2 Q
variable {o e : Expr} {es : List Expr} {to : TE} {t : TA} {name : Str} {apos cpos : Pos} {T id : String} {r : V → List V → Hp → VK → Prop}
theorem pe_bm0 (pa : PlainAttrs T) (slot : Slot T name id) (hty : typeOf (.builtin id) = pure (.type "method_descriptor")) (hm : MtR X id r) (ho : PE X o to)
    (hbase : attributeBase o name X.env (eval o X.env) = eval o X.env := by rfl) (hline : (apos.endLine == cpos.line) = true := by rfl) : PE X (.Call (.Attribute o name apos) [] [] cpos) (tBM0 X.K T r to) := by
  intro pins s σ H Q I h
  refine wpAny_Call_method0_late hbase hline (thn (ho pins s σ H _ I h) fun v s1 ⟨x, H1, I1, r1, ty, q1⟩ => ?_)
  obtain ⟨h1, h2⟩ := tyV_is I1 r1 ty
  exact ⟨T, id, pa, slot, hty, h1, h2, Calls.callWith_builtin rfl (PySem.evalArgs_none (hm pins s1 σ H1 x [] v [] Q I1 r1 .nil q1))⟩
theorem pe_bm (pa : PlainAttrs T) (slot : Slot T name id) (hty : typeOf (.builtin id) = pure (.type "method_descriptor")) (hm : MtR X id r) (ho : PE X o to) (ha : PA X (e :: es) t)
    (hbase : attributeBase o name X.env (eval o X.env) = eval o X.env := by rfl)
    (hfew : ((backTo cpos (starEach (e :: es) X.env)).all (fun x => !x.1) && (backToKw cpos (keywordEach [] X.env)).all (fun x => x.1.isSome)
      && decide ((e :: es).length + ([] : List Keyword).length + (if ([] : List Keyword).isEmpty then 0 else 1) < 30)) = true := by rfl)
    (hline : (apos.endLine == cpos.line) = true := by rfl) (hs : starEach (e :: es) X.env = (false, eval e X.env) :: starEach es X.env := by rfl) (hplain : (backTo cpos (starEach es X.env)).any (·.1) = false := by rfl) :
    PE X (.Call (.Attribute o name apos) (e :: es) [] cpos) (tBM X.K T r to t) := by
  intro pins s σ H Q I h
  refine wpAny_Call_method_late hbase hfew hline rfl (thn (ho pins s σ H _ I h) fun v s1 ⟨x, H1, I1, r1, ty, q1⟩ => ?_)
  obtain ⟨h1, h2⟩ := tyV_is I1 r1 ty
  refine ⟨T, id, pa, slot, hty, h1, h2, ?_⟩
  have hA := ha cpos pins s1 σ H1 _ I1 q1
  rw [hs] at hA ⊢
  refine Calls.callWith_builtin (by show (false || (backTo cpos (starEach es X.env)).any (·.1)) = false; rw [hplain] <;> rfl) (Calls.evalArgs_plain ?_)
  exact thn hA fun us s2 ⟨vs, H2, I2, r2, q2⟩ => hm pins s2 σ H2 x vs v us Q I2 r1 r2 q2
end
end L2
namespace L2
open PySem PySem.Spec PyProof.Rows
def MtM (X : Cx) (id : String) (r : V → List V → Hp → VK → Prop) : Prop :=
  ∀ (pins : List (Addr × Obj)) (s : Shared) (σ : St) (H : Hp) (x : V) (xs : List V) (v : Value) (us : List Value) (Q : VK), Inv X pins σ H s → RelV x v → Vals xs us → r x xs H Q →
    wpAny (model X.prog X.w) X.A (call (.builtin id) (v :: us)) (EP X pins σ Q) X.xe s
theorem Vals.one : ∀ {x : V} {us : List Value}, Vals [x] us → ∃ u, us = [u] ∧ RelV x u
  | _, _, .cons r .nil => ⟨_, rfl, r⟩
theorem Vals.zero : ∀ {us : List Value}, Vals [] us → us = []
  | _, .nil => rfl
theorem Vals.dropLast {xs : List V} {us : List Value} (h : Vals xs us) : Vals xs.dropLast us.dropLast := by
  induction h with
  | nil => exact .nil
  | cons r t ih =>
    cases t with
    | nil => exact .nil
    | cons q t' => exact .cons r ih
theorem Vals.reverse {xs : List V} {us : List Value} (h : Vals xs us) : Vals xs.reverse us.reverse := by
  induction h with
  | nil => exact .nil
  | cons r t ih => rw [List.reverse_cons, List.reverse_cons]; exact Vals.append ih (.cons r .nil)
theorem erase_last {α : Type} (l : List α) : l.eraseIdx (l.length - 1) = l.dropLast := by
  induction l with
  | nil => rfl
  | cons a r ih =>
    cases r with
    | nil => rfl
    | cons b r =>
      have e : (a :: b :: r).length - 1 = ((b :: r).length - 1) + 1 := by
        have h1 : (a :: b :: r).length = r.length + 2 := rfl
        have h2 : (b :: r).length = r.length + 1 := rfl
        omega
      rw [e, List.eraseIdx_cons_succ, ih]
      all_goals rfl
section
variable {X : Cx} {pins : List (Addr × Obj)} {σ : St} {H : Hp} {s : Shared} {l b : Addr} {xs ys zs : List V}
theorem Inv.lset {its its' : List Value} {n : Nat} {f : Array Value → Array Value} {t' : Nat} (I : Inv X pins σ H s) (hH : H l = some (.lst xs))
    (e : s.heap.get? l = some { cls := .type "list", data := .seq its.toArray n }) (hf : f its.toArray = its'.toArray) (hv : Vals ys its') (hz : ys.length ≤ sizeLine) :
    Inv X pins σ (upd H l (.lst ys)) { s with heap := s.heap.update l (Obj.mapSeq f), toks := t' } := by
  have q := PySem.IsL.update e f
  rw [hf] at q
  refine I.write (x := l) (e := l) (by rw [hH]; exact trivial) (.inl rfl) (fun b' u hb hu => (Heap.get?_update_other s.heap (Obj.mapSeq f) (Ne.symm hb)).trans hu) ⟨_, q⟩ ?_
  exact ⟨hz, its', _, hv, q⟩
theorem Inv.lstM (I : Inv X pins σ H s) (hH : H l = some (.lst xs)) : xs.length ≤ sizeLine ∧ ∃ (its : List Value) (n : Nat), Vals xs its ∧ xs.length = its.length ∧ s.heap.get? l = some { cls := .type "list", data := .seq its.toArray n } := by
  obtain ⟨z, its, n, r, e⟩ := I.hok l _ hH
  exact ⟨z, its, n, r, r.length, e⟩
theorem notLongL {n : Nat} (h : n ≤ sizeLine) : Builtin.List.listTooLong n = false := by
  unfold Builtin.List.listTooLong
  exact decide_eq_false (by omega)
end
section
variable {X : Cx}
def rAppend : V → List V → Hp → VK → Prop := fun x vs H Q => ∃ l xs y, x = .ref l ∧ vs = [y] ∧ H l = some (.lst xs) ∧ xs.length < sizeLine ∧ Q .non (upd H l (.lst (xs ++ [y])))
theorem mt_append : MtM X "list.append" rAppend := by
  intro pins s σ H x vs v us Q I rx rv h
  obtain ⟨l, xs, y, rfl, rfl, hH, hz, q⟩ := h
  cases rx
  obtain ⟨u, rfl, ru⟩ := rv.one
  obtain ⟨z, its, n, r, hl, e⟩ := I.lstM hH
  refine call_meets F.slot_list_append ⟨_, e, rfl⟩ F.entry_list_append (F.args_list_append_2 _ _) (PySem.list_append l its.toArray n u (by rw [List.size_toArray]; omega)) ⟨e, ?_⟩
  refine ⟨.non, _, I.lset (its' := its ++ [u]) hH e (by simp) (r.append (.cons ru .nil)) ?_, rfl, q⟩
  rw [List.length_append, List.length_singleton]
  omega
def rExtend : V → List V → Hp → VK → Prop := fun x vs H Q => ∃ l b xs zs, x = .ref l ∧ vs = [.ref b] ∧ H l = some (.lst xs) ∧ H b = some (.lst zs) ∧ xs.length + zs.length ≤ sizeLine ∧ Q .non (upd H l (.lst (xs ++ zs)))
theorem mt_extend : MtM X "list.extend" rExtend := by
  intro pins s σ H x vs v us Q I rx rv h
  obtain ⟨l, b, xs, zs, rfl, rfl, hH, hB, hz, q⟩ := h
  cases rx
  obtain ⟨u, rfl, ru⟩ := rv.one
  cases ru
  obtain ⟨z, its, n, r, hl, e⟩ := I.lstM hH
  obtain ⟨z2, its2, n2, r2, hl2, e2⟩ := I.lstM hB
  have hsz : its.toArray.size + its2.toArray.size ≤ sizeLine := by rw [List.size_toArray, List.size_toArray]; omega
  have hlong : ¬ (!its.toArray.isEmpty && Builtin.List.listTooLong (its.toArray.size + its2.toArray.size)) = true := by
    rw [notLongL hsz, Bool.and_false]
    exact Bool.false_ne_true
  refine call_meets F.slot_list_extend ⟨_, e, rfl⟩ F.entry_list_extend (F.args_list_extend_2 _ _)
    (AutoSeq1.list_extend_list_list_0 l its.toArray n b its2.toArray n2 hlong (by rw [List.size_toArray]; omega) (by omega)) ⟨e, e2, ?_⟩
  refine ⟨.non, _, I.lset (its' := its ++ its2) hH e (by simp) (r.append r2) ?_, rfl, q⟩
  rw [List.length_append]
  omega
def rPop : V → List V → Hp → VK → Prop := fun x vs H Q => ∃ l xs y, x = .ref l ∧ vs = [] ∧ H l = some (.lst xs) ∧ xs[xs.length - 1]? = some y ∧ Q y (upd H l (.lst xs.dropLast))
theorem mt_pop : MtM X "list.pop" rPop := by
  intro pins s σ H x vs v us Q I rx rv h
  obtain ⟨l, xs, y, rfl, rfl, hH, hy, q⟩ := h
  cases rx
  have hus := rv.zero
  subst hus
  obtain ⟨z, its, n, r, hl, e⟩ := I.lstM hH
  obtain ⟨u, hu, ru⟩ := r.get hy
  have hy' : its.toArray[its.toArray.size - 1]? = some u := by
    show its.toArray[its.length - 1]? = some u
    rw [← Array.getElem?_toList, ← hl]
    exact hu
  refine call_meets F.slot_list_pop ⟨_, e, rfl⟩ F.entry_list_pop (F.args_list_pop_1 _) (MeetsSeq.list_pop_last l its.toArray n u hy' (by rw [List.size_toArray]; omega)) ⟨e, ?_⟩
  refine ⟨y, _, I.lset (its' := its.dropLast) hH e ?_ r.dropLast ?_, ru, q⟩
  · show its.toArray.eraseIdxIfInBounds (its.toArray.size - 1) = its.dropLast.toArray
    rw [List.size_toArray, List.eraseIdxIfInBounds_toArray, erase_last]
  · rw [List.length_dropLast]
    omega
def rPopAt : V → List V → Hp → VK → Prop := fun x vs H Q => ∃ l xs i k y, x = .ref l ∧ vs = [.int i] ∧ H l = some (.lst xs) ∧ -(2 ^ 63) ≤ i ∧ i < 2 ^ 63 ∧ seqIndex? i xs.length = some k ∧ xs[k]? = some y ∧ Q y (upd H l (.lst (xs.eraseIdx k)))
def rReverse : V → List V → Hp → VK → Prop := fun x vs H Q => ∃ l xs, x = .ref l ∧ vs = [] ∧ H l = some (.lst xs) ∧ Q .non (upd H l (.lst xs.reverse))
def rClear : V → List V → Hp → VK → Prop := fun x vs H Q => ∃ l xs, x = .ref l ∧ vs = [] ∧ H l = some (.lst xs) ∧ Q .non (upd H l (.lst []))
def rCat : R2 := fun x y H Q => ∃ l b xs zs, x = .ref l ∧ y = .ref b ∧ H l = some (.lst xs) ∧ H b = some (.lst zs) ∧ xs.length + zs.length ≤ sizeLine ∧ ∀ p, H p = none → Q (.ref p) (upd H p (.lst (xs ++ zs)))
def rRep : R2 := fun x y H Q => ∃ l k xs, x = .ref l ∧ y = .int k ∧ H l = some (.lst xs) ∧ -(2 ^ 63) ≤ k ∧ k < 2 ^ 63 ∧ xs.length * k.toNat ≤ sizeLine ∧
  ∀ p, H p = none → Q (.ref p) (upd H p (.lst (List.replicate k.toNat xs).flatten))
end
section
variable {prog : Program} {w : World} {A : Around} {E : Value → Shared → Prop} {s : Shared}
end
section
variable {X : Cx}
end
end L2
namespace Att
open PySem PySem.W PySem.Calls PyProof.Rows
theorem ints_of_wellAll {P : Params} {h : Heap} : ∀ (ns : List Int) (vs : List Value), WellAll P h vs (ns.map WData.int) → IntsAre vs ns := by
  intro ns
  induction ns with
  | nil =>
    intro vs w
    rw [List.map_nil] at w
    cases w
    exact .nil
  | cons n ns ih =>
    intro vs w
    rw [List.map_cons] at w
    cases w with
    | cons a b =>
      cases a
      exact .cons _ _ (ih _ b)
theorem script_of {l : OpenLaw} {n : Nat} (hn : l.most = some n) {P : Params} {h : Heap} {args : List WData} {vals : List Value}
    (hpre : l.row.toRowW.claim.pre args = true) (hwl : WellAll P h vals args) :
    ∃ a vs ns, vals = [Value.ref a] ∧ args = [WData.list (ns.map WData.int)] ∧ h.get? a = some { cls := .type "list", data := .seq vs.toArray } ∧ IntsAre vs ns ∧ ns.length ≤ n := by
  have hsh : WShape.hasAll [] args [.list .int] = true := (pre_splitW hpre).1
  have hc : l.pre.holds [] { args := args } = true := (pre_splitW hpre).2
  obtain ⟨d, r, rfl, h1, h2⟩ := hasAllW_cons hsh
  obtain rfl := hasAllW_nil h2
  obtain ⟨xs, rfl, h3⟩ := hasW_list h1
  obtain ⟨ns, rfl⟩ := items_int h3
  have hlen : ns.length ≤ n := by
    unfold OpenLaw.pre at hc
    have h4 : (WTm.not (.lt (.lit (.int (n : Int))) (.len (.arg 0)))).holds [] { args := [.list (ns.map .int)] } = true := by
      have h4 := (holds_andW hc).1
      rw [hn] at h4
      exact h4
    have h5 := condW_of h4 (w_not (w_lt w_lit (w_len_list (w_arg rfl))))
    rw [List.length_map] at h5
    refine Nat.le_of_not_lt fun q => ?_
    have q' : (n : Int) < ((ns.length : Nat) : Int) := by omega
    first
      | (rw [decide_eq_true q'] at h5; exact absurd h5 (by decide))
      | (simp at h5; omega)
  cases hwl with
  | cons w1 w2 =>
    cases w2
    cases w1 with
    | list ho hall => exact ⟨_, _, ns, rfl, rfl, ho, ints_of_wellAll ns _ hall, hlen⟩
theorem post_true (l : OpenLaw) (args : List WData) : l.row.toRowW.claim.post args (.bool true) args = true :=
  postW_of (r := l.row.toRowW) (X := (true == true))
    (show WShape.has [] (.bool true) .bool = true by first | rfl | decide | simp [WShape.has, WShape.arms, WShape.armsAll])
    (show (WTm.eq .res (.lit (.bool true))).value [] { args := args, res := some (.bool true), after := args } = some (.bool (true == true)) from w_eq_bool (w_res rfl) w_lit) rfl
theorem attach_call {l : OpenLaw} {n : Nat} {q : Program} {loose : List Str} {XP : (Str → Option Value) → Heap → Prop} {YP : World → Heap → Prop} {d : DefRec}
    (hn : l.most = some n) (hdf : d.params.defaults = [])
    (call : ∀ (w : World) (s₀ s₁ : Shared) (mg mb : Str → Option Value) (fa : Addr) (o : Obj) (pm cd doc : Value) (a : Addr) (vs : List Value) (ns : List Int),
      Ground q loose [] XP w s₀ mg mb s₁.heap → YP w s₁.heap →
      s₁.heap.get? fa = some o → o.data = .func (docDef d.name d.params d.body d.scope pm cd doc) → s₁.heap.CodeRec cd d.name → mg d.name = some (.ref fa) →
      s₁.heap.get? a = some { cls := .type "list", data := .seq vs.toArray } → IntsAre vs ns → ns.length ≤ n → s₁.gens = #[] →
      codeAny (model l.prog w) callerA (.call (.ref fa) ⟨[.ref a], []⟩) (fun r s' => r = .ok (.ret (.bool true)) ∧ OldK s₁.heap s'.heap ∧ s'.os = s₁.os ∧ AllBare s'.gens) s₁) :
    WalkO q loose XP YP l.row.toRowW d [] (fun f vs => PySem.call f vs) := by
  intro w s₀ s₁ mg mb G Y fa o pm cd doc dV kV ho hd hcd hD hmg hg args vals as hpre hlay hrd hwl hlo
  obtain rfl : dV = .none := Dflts.none hD hdf
  obtain rfl : kV = .none := Dflts.noKw hD
  obtain ⟨a, vs, ns, rfl, rfl, hobj, hints, hlen⟩ := script_of hn hpre hwl
  refine enter_call (codeAny_mono (call w s₀ s₁ mg mb fa o pm cd doc a vs ns G Y ho (fd_plain hd) hcd hmg hobj hints hlen hg) fun r s' hq => ?_)
  obtain ⟨rfl, h2, h3, h4⟩ := hq
  exact ⟨.inl ⟨.bool true, .bool true, [], rfl, fun _ => rfl, .bool true, post_true l _, fun _ => ⟨List.Pairwise.nil, fun _ hm => (nomatch hm)⟩⟩, h2, h3, h4⟩
section
variable {prog : Program} {w : World} {A : Around} {E : Value → Shared → Prop} {s : Shared} {K : Frag}
def noObjs (h : Heap) : Heap := { h with objs := #[] }
def ledger (h : Heap) (L d : Addr) : List (Addr × Obj) := (List.range h.objs.size).filterMap fun a => if a = L ∨ a = d then none else (h.get? a).map fun o => (a, o)
end
end Att
namespace L2
open PySem PySem.Spec PyProof.Rows
theorem vals_ints : ∀ {vs : List Value} {ns : List Int}, IntsAre vs ns → Vals (ns.map V.int) vs
  | _, _, .nil => .nil
  | _, _, .cons n t h => .cons ⟨t, rfl⟩ (vals_ints h)
def Only (H : Hp) : Prop := ∀ b, H b = none ∨ ∃ o xs, H b = some (.frz o (.lst xs))
theorem law_call {P : Program} {w : World} {K : PySem.W.Frag} {mg mb : Str → Option Value} {CX : CXT} {k : Nat} {fa a : Addr} {fd : FuncData} {x : Str} {sp : Sp} {s₁ : Shared} {vs : List Value} {ns : List Int}
    (KX : K.In s₁.heap) (hns : s₁.heap.Ns mainGlobals mg) (hb : s₁.heap.Ns builtinsNs mb) (hbb : ∀ x : Str, x ≠ "__name__" → mb x = bootBuiltins x) (hlim : s₁.heap.NoLimit) (hg : s₁.gens = #[])
    (ha : s₁.heap.get? a = some { cls := .type "list", data := .seq vs.toArray }) (hi : IntsAre vs ns) (hl : ns.length ≤ sizeLine) (hr : Room k callerA)
    (F : ∀ base : Heap, K.In base → base.Ns mainGlobals mg → FnOk P w K mg base CX k fa fd [x] sp) (hbind : ∀ (s : Shared) (u : Value), BindsTo s fd ⟨[u], []⟩ [(x, u)])
    (hsp : ∀ H : Hp, Only H → SqL K H a (ns.map V.int) → sp [.ref a] H (fun v _ => v = .bl true) fun _ _ _ => False)
    (hCX : ∀ H e s', CX [] H s₁ (fun _ _ _ => False) e s' → False) :
    codeAny (model P w) callerA (.call (.ref fa) ⟨[.ref a], []⟩) (fun r s' => r = .ok (.ret (.bool true)) ∧ OldK s₁.heap s'.heap ∧ s'.os = s₁.os ∧ AllBare s'.gens) s₁ := by
  have rv := vals_ints hi
  have lenV := hi.length
  have core : ∀ H : Hp, Only H → SqL K H a (ns.map V.int) → HOk P w H s₁.heap → (∀ b, H b ≠ none → b = a) → (H a ≠ none → K.lookup a = none) →
      codeAny (model P w) callerA (.call (.ref fa) ⟨[.ref a], []⟩) (fun r s' => r = .ok (.ret (.bool true)) ∧ OldK s₁.heap s'.heap ∧ s'.os = s₁.os ∧ AllBare s'.gens) s₁ := by
    intro H hO hS hok hA hK
    have base_of : ∀ {b : Addr} {o : Obj}, s₁.heap.get? b = some o → H b = none → (hidT s₁.heap H).get? b = some o := fun e n => hidT_get e n
    have noA : ∀ {b : Addr} {o : Obj} {es : Array DictEntry} {ep : Nat}, s₁.heap.get? b = some o → o.data = .dict es ep → H b = none := fun {b o es ep} e d => by
      cases q : H b with
      | none => rfl
      | some u =>
        have e' : b = a := hA b (by rw [q]; simp)
        subst e'
        rw [ha] at e; cases e
        have d' : Data.seq vs.toArray _ = Data.dict es ep := d
        cases d'
    have nsK : ∀ {b : Addr} {m : Str → Option Value}, s₁.heap.Ns b m → (hidT s₁.heap H).Ns b m := fun {b m} ⟨o, es, ep, e, d, r⟩ => ⟨o, es, ep, base_of e (noA e d), d, r⟩
    have hKb : K.In (hidT s₁.heap H) := fun b o e => base_of (KX b o e) (by
      cases q : H b with
      | none => rfl
      | some u =>
        have e' : b = a := hA b (by rw [q]; simp)
        subst e'
        rw [hK (by rw [q]; simp)] at e; cases e)
    have hM : Mod K mg (hidT s₁.heap H) := ⟨hKb, nsK hns, ⟨mb, nsK hb, hbb⟩, let ⟨mc, h1, h2⟩ := hlim; ⟨mc, nsK h1, h2⟩⟩
    have e0 : Env0 P w K mg (hidT s₁.heap H) callerA [] s₁ H := ⟨rfl, hM, fun b o e => of_hidT e, Nat.le_of_eq (hidT_size _ _), trivial, fun b hb => absurd (show b ∈ ([] : List Addr) from hb) (by simp), hok, .of_eq hg⟩
    refine codeAny_mono ((F _ hKb (nsK hns)).run callerA [] s₁ H ⟨[.ref a], []⟩ [.ref a] [.ref a] _ _ hr e0 (hbind s₁ (.ref a)) (.cons rfl .nil) (hsp H hO hS)) fun r s' h => ?_
    cases r with
    | error e => exact (hCX H e s' h).elim
    | ok fl =>
      cases fl with
      | next => exact False.elim h
      | brk => exact False.elim h
      | cont => exact False.elim h
      | ret u =>
        obtain ⟨v, H', os, bare, un, hok', r', q⟩ := h
        have q' : v = .bl true := q
        subst q'
        obtain rfl : u = Value.bool true := r'
        refine ⟨rfl, OldK.of_keep fun b o e => ?_, os, bare⟩
        cases q : H b with
        | none => exact un.keep b o e q (by intro z; exact absurd (show b ∈ ([] : List Addr) from z) (by simp)) (by simp)
        | some u =>
          rcases hO b with z | ⟨ob, xs, z⟩
          · rw [q] at z; cases z
          · have z2 := un.frzs b ob _ z
            obtain ⟨e1, _⟩ := hok b _ z
            obtain ⟨e2, _⟩ := hok' b _ z2
            rw [e] at e1; cases e1
            exact e2
  cases hk : K.lookup a with
  | some o =>
    have e := KX a o hk
    rw [ha] at e
    cases e
    refine core (fun _ => none) (fun _ => .inl rfl) (.inr ⟨_, vs.toArray, _, hk, rfl, rfl, rfl, by rw [List.size_toArray, lenV]; exact hl, by simpa using rv⟩) (fun b u z => by have z' : (none : Option HO) = some u := z; cases z') (fun b z => absurd rfl z) fun z => absurd rfl z
  | none =>
    refine core (fun b => if b = a then some (.frz { cls := .type "list", data := .seq vs.toArray } (.lst (ns.map V.int))) else none) (fun b => ?_) (.inl (.inr ⟨{ cls := .type "list", data := .seq vs.toArray }, if_pos rfl⟩)) (fun b u z => ?_) (fun b z => ?_) fun _ => hk
    · by_cases hb : b = a
      · exact .inr ⟨_, _, if_pos hb⟩
      · exact .inl (if_neg hb)
    · by_cases hb : b = a
      · have z' := (if_pos hb).symm.trans z
        cases z'
        subst hb
        exact ⟨ha, by rw [List.length_map]; exact hl, vs, _, rv, ha⟩
      · have z' := (if_neg hb).symm.trans z
        cases z'
    · by_cases hb : b = a
      · exact hb
      · exact absurd (if_neg hb) z
end L2
namespace L2
open PySem PySem.Spec PyProof.Rows
abbrev KOf {K : PySem.W.Frag} {h : Heap} (_ : K.In h) : PySem.W.Frag := K
theorem walk_of {l : PySem.W.OpenLaw} {n k : Nat} {q : Program} {loose : List Str} {XP : (Str → Option Value) → Heap → Prop} {YP : World → Heap → Prop} {d : DefRec} {K : Params → PySem.W.Frag} {CX : World → CXT} {sp : World → Sp} {x : Str}
    (hn : l.most = some n) (hn2 : n ≤ sizeLine) (hdf : d.params.defaults = []) (hr : Room k callerA)
    (hY : ∀ (w : World) (h : Heap), YP w h → (K w.params).In h)
    (F : ∀ (w : World) (mg : Str → Option Value) (fa : Addr) (h : Heap), (K w.params).In h → h.Ns mainGlobals mg → mg d.name = some (.ref fa) →
      ∃ fd : FuncData, (∀ (s : Shared) (u : Value), BindsTo s fd ⟨[u], []⟩ [(x, u)]) ∧
        ∀ base : Heap, (K w.params).In base → base.Ns mainGlobals mg → FnOk l.prog w (K w.params) mg base (CX w) k fa fd [x] (sp w))
    (hsp : ∀ (w : World) (H : Hp) (a : Addr) (ns : List Int), ns.length ≤ n → Only H → SqL (K w.params) H a (ns.map V.int) → sp w [.ref a] H (fun v _ => v = .bl true) fun _ _ _ => False)
    (hCX : ∀ (w : World) (H : Hp) (s : Shared) (e : Value) (s' : Shared), CX w [] H s (fun _ _ _ => False) e s' → False) :
    PySem.W.WalkO q loose XP YP l.row.toRowW d [] (fun f vs => PySem.call f vs) := by
  refine Att.attach_call hn hdf fun w s₀ s₁ mg mb fa o pm cd doc a vs ns G Y ho hd hcd hmg hobj hints hlen hg => ?_
  have KX := hY w _ Y
  obtain ⟨fd, hb, hF⟩ := F w mg fa _ KX G.T.g hmg
  exact law_call KX G.T.g G.T.b G.T.builtins G.T.nolimit hg hobj hints (Nat.le_trans hlen hn2) hr hF hb (fun H hO hS => hsp w H a ns hlen hO hS) fun H e s' => hCX w H s₁ e s'
theorem walk_ofK {l : PySem.W.OpenLaw} {n k : Nat} {q : Program} {loose : List Str} {XP : (Str → Option Value) → Heap → Prop} {YP : World → Heap → Prop} {d : DefRec} {K : Params → PySem.W.Frag} {CX : CXT} {sp : PySem.W.Frag → Sp} {x : Str}
    (hn : l.most = some n) (hn2 : n ≤ sizeLine) (hdf : d.params.defaults = []) (hr : Room k callerA)
    (hY : ∀ (w : World) (h : Heap), YP w h → (K w.params).In h)
    (F : ∀ (w : World) (mg : Str → Option Value) (fa : Addr) (h : Heap), (K w.params).In h → h.Ns mainGlobals mg → mg d.name = some (.ref fa) →
      ∃ fd : FuncData, (∀ (s : Shared) (u : Value), BindsTo s fd ⟨[u], []⟩ [(x, u)]) ∧
        ∀ base : Heap, (K w.params).In base → base.Ns mainGlobals mg → FnOk l.prog w (K w.params) mg base CX k fa fd [x] (sp (K w.params)))
    (hsp : ∀ (K : PySem.W.Frag) (H : Hp) (a : Addr) (ns : List Int), ns.length ≤ n → Only H → SqL K H a (ns.map V.int) → sp K [.ref a] H (fun v _ => v = .bl true) fun _ _ _ => False)
    (hCX : ∀ (H : Hp) (s : Shared) (e : Value) (s' : Shared), CX [] H s (fun _ _ _ => False) e s' → False) :
    PySem.W.WalkO q loose XP YP l.row.toRowW d [] (fun f vs => PySem.call f vs) :=
  walk_of (K := K) (CX := fun _ => CX) (sp := fun w => sp (K w.params)) hn hn2 hdf hr hY F (fun w H a ns h1 h2 h3 => hsp (K w.params) H a ns h1 h2 h3) fun _ H s e s' => hCX H s e s'
end L2
namespace L2
open PySem PySem.Spec PyProof.Rows
def inClass (s : Stmt) (j : Nat) : Stmt := match s with
  | .ClassDef _ _ _ body _ _ _ _ _ _ _ => body.getD j (.Pass ⟨0, 0, 0, 0⟩)
  | _ => .Pass ⟨0, 0, 0, 0⟩
def defArgs (s : Stmt) : Arguments := match s with
  | .FunctionDef _ a _ _ _ _ _ _ _ _ => a
  | _ => { posonlyargs := [], args := [], vararg := none, kwonlyargs := [], kw_defaults := [], kwarg := none, defaults := [] }
def defBody (s : Stmt) : List Stmt := match s with
  | .FunctionDef _ _ b _ _ _ _ _ _ _ => b
  | _ => []
def defScope (s : Stmt) : Scope := match s with
  | .FunctionDef _ _ _ _ _ _ sc _ _ _ => sc
  | _ => { kind := .function, names := [], isGenerator := false, isCoroutine := false }
abbrev CX0 : CXT := fun _ _ _ _ _ _ => False
abbrev E0 : XK := fun _ _ _ => False
theorem pass0 {X : Cx} : Passes CX0 X E0 := fun _ _ _ _ _ _ _ h => h.elim
structure Fun (K : PySem.W.Frag) (x qual : Str) (st : Stmt) (f : Addr) (fd : FuncData) : Prop where
  ex : ∃ (oc : Value) (od : Option Addr) (kV doc pm : Value) (an : Option Addr) (cdv ct : Value) (osl : Array (Option Value)),
    fd = PySem.W.fnOf x qual (defArgs st) (defBody st) (defScope st) .none kV doc pm an cdv ct ∧ K.lookup f = some ⟨oc, od, .func fd, osl⟩ ∧ PySem.W.codeIn K cdv qual = true
  kp : PySem.W.keepIn K (.ref f) = true
section
variable {P : Program} {w : World} {K : PySem.W.Frag} {mg : Str → Option Value} {base : Heap}
theorem Fun.ok {x qual : Str} {st : Stmt} {f : Addr} {fd : FuncData} {N ps : List Str} {k : Nat} {sp : Sp} (F : Fun K x qual st f fd) (S : FnScope N ps (defScope st)) (len : ∀ vs H Q E, sp vs H Q E → vs.length = ps.length)
    (hbody : ∀ (cdv : Value) (A : Around) (outer : List Env) (s : Shared) (H : Hp) (vs : List V) (Q : VK) (E : XK), Room k (A.deeper (envOfC qual (defScope st) s.heap.objs.size f cdv)) → sp vs H Q E →
      ∃ t, PSs (cxOf CX0 P w K mg base N qual (defScope st) f cdv A outer s H E).nox (defBody st) t ∧ t { nx := fun _ H' => Q .non H', rt := Q } (start N vs) H) : FnOk P w K mg base CX0 (k + 1) f fd ps sp := by
  obtain ⟨oc, od, kV, doc, pm, an, cdv, ct, osl, rfl, lk, hcd⟩ := F.ex
  refine fn_of lk hcd S len fun A outer s H vs Q E hr hsp => ?_
  obtain ⟨t, h, q⟩ := hbody cdv A outer s H vs Q E hr hsp
  exact ⟨t, h.nox, q⟩
theorem Fun.binds {x qual : Str} {st : Stmt} {f : Addr} {fd : FuncData} {ps : List Str} (F : Fun K x qual st f fd)
    (h : ∀ (kV doc pm : Value) (an : Option Addr) (cdv ct : Value) (us : List Value), us.length = ps.length → bindArgs (PySem.W.fnOf x qual (defArgs st) (defBody st) (defScope st) .none kV doc pm an cdv ct) ⟨us, []⟩ = pure (ps.zip us)) : Binds K fd ps [] := by
  obtain ⟨oc, od, kV, doc, pm, an, cdv, ct, osl, rfl, lk, hcd⟩ := F.ex
  exact .all (h kV doc pm an cdv ct)
theorem fun_mk {x qual : Str} {st : Stmt} {f : Addr} {oc : Value} {od an : Option Addr} {osl : Array (Option Value)} {kV doc pm cdv ct : Value} (l : K.lookup f = some ⟨oc, od, .func (PySem.W.fnOf x qual (defArgs st) (defBody st) (defScope st) .none kV doc pm an cdv ct), osl⟩)
    (c : PySem.W.codeIn K cdv qual = true) (k : PySem.W.keepIn K (.ref f) = true) : Fun K x qual st f (PySem.W.fnOf x qual (defArgs st) (defBody st) (defScope st) .none kV doc pm an cdv ct) := ⟨⟨oc, od, kV, doc, pm, an, cdv, ct, osl, rfl, l, c⟩, k⟩
end
theorem hu_of {A : Around} {k : Nat} (hr : Room k A) : A.units + 1 < cLine := Nat.lt_of_le_of_lt (Nat.add_le_add_left (by decide : 1 ≤ 64) _) hr.units
section
variable {X : Cx}
end
theorem iteF {A B : Prop} (h : B) : if false = true then A else B := by
  rw [if_neg Bool.false_ne_true]
  exact h
theorem iteT {A B : Prop} (h : A) : if true = true then A else B := by
  rw [if_pos rfl]
  exact h
theorem ite2 {c A B : Prop} [Decidable c] (h1 : c → A) (h2 : ¬ c → B) : if c then A else B := by
  by_cases h : c
  · rw [if_pos h]
    exact h1 h
  · rw [if_neg h]
    exact h2 h
def Same (H H' : Hp) : Prop := ∀ b o, H b = some o → H' b = some o
end L2

namespace L2
open PySem PySem.Spec PyProof.Rows
section
variable {κ : Type} [DecidableEq κ]
def valV (kvs : List (κ × V)) (k : κ) : Option V := (kvs.find? fun kv => decide (kv.1 = k)).map (·.2)
def putK (kvs : List (κ × V)) (k : κ) (v : V) : List (κ × V) :=
  if (kvs.any fun kv => decide (kv.1 = k)) = true then kvs.map (fun kv => if kv.1 = k then (kv.1, v) else kv) else kvs ++ [(k, v)]
def dropK (kvs : List (κ × V)) (k : κ) : List (κ × V) := kvs.filter fun kv => decide (kv.1 ≠ k)
theorem valV_pos {p : κ × V} {r : List (κ × V)} {k : κ} (e : p.1 = k) : valV (p :: r) k = some p.2 := by simp [valV, List.find?_cons, e]
theorem valV_neg {p : κ × V} {r : List (κ × V)} {k : κ} (e : ¬ p.1 = k) : valV (p :: r) k = valV r k := by simp [valV, List.find?_cons, e]
theorem valV_any (k : κ) : ∀ kvs : List (κ × V), (kvs.any fun kv => decide (kv.1 = k)) = (valV kvs k).isSome
  | [] => rfl
  | p :: r => by
    rw [List.any_cons]
    by_cases e : p.1 = k
    · simp only [valV_pos e, decide_eq_true e, Bool.true_or, Option.isSome_some]
    · rw [valV_neg e, decide_eq_false e, Bool.false_or]; exact valV_any k r
theorem length_putK (kvs : List (κ × V)) (k : κ) (v : V) : (putK kvs k v).length ≤ kvs.length + 1 := by
  unfold putK
  split
  · rw [List.length_map]; omega
  · rw [List.length_append, List.length_cons, List.length_nil]; omega
theorem putK_new {kvs : List (κ × V)} {k : κ} (v : V) (h : valV kvs k = none) : putK kvs k v = kvs ++ [(k, v)] := by
  unfold putK
  rw [valV_any, h]
  exact if_neg (by decide)
theorem RelO.isSome_eq {o : Option V} {u : Option Value} (r : RelO o u) : o.isSome = u.isSome := by
  cases o with
  | none => cases u with
    | none => rfl
    | some _ => exact (show False from r).elim
  | some _ => cases u with
    | none => exact (show False from r).elim
    | some _ => rfl
theorem RelO.getD {o : Option V} {u : Option Value} {d : V} {d' : Value} (r : RelO o u) (rd : RelV d d') : RelV (o.getD d) (u.getD d') := by
  cases o with
  | none => cases u with
    | none => exact rd
    | some _ => exact (show False from r).elim
  | some _ => cases u with
    | none => exact (show False from r).elim
    | some _ => exact r
theorem KV.val {kvs : List (κ × V)} {vs : List (κ × Value)} (r : KV kvs vs) (k : κ) : RelO (valV kvs k) (valueAt vs k) := by
  unfold KV at r
  induction r with
  | nil => exact True.intro
  | @cons p q ps qs h t ih =>
    obtain ⟨h1, h2⟩ := h
    by_cases e : p.1 = k
    · have e' : q.1 = k := h1.symm.trans e
      have b : valueAt (q :: qs) k = some q.2 := by simp [valueAt, List.find?_cons, e']
      rw [valV_pos e, b]; exact h2
    · have e' : ¬ q.1 = k := fun z => e (h1.trans z)
      have b : valueAt (q :: qs) k = valueAt qs k := by simp [valueAt, List.find?_cons, e']
      rw [valV_neg e, b]; exact ih
theorem KV.any {kvs : List (κ × V)} {vs : List (κ × Value)} (r : KV kvs vs) (k : κ) : (kvs.any fun kv => decide (kv.1 = k)) = vs.any fun kv => decide (kv.1 = k) := by
  unfold KV at r
  induction r with
  | nil => rfl
  | cons h t ih => rw [List.any_cons, List.any_cons, ih, h.1]
theorem KV.repl {kvs : List (κ × V)} {vs : List (κ × Value)} (r : KV kvs vs) (k : κ) {y : V} {u : Value} (ry : RelV y u) :
    KV (kvs.map fun kv => if kv.1 = k then (kv.1, y) else kv) (vs.map fun kv => if kv.1 = k then (kv.1, u) else kv) := by
  unfold KV at r ⊢
  induction r with
  | nil => exact .nil
  | @cons p q ps qs h t ih =>
    rw [List.map_cons, List.map_cons]
    refine .cons ?_ ih
    obtain ⟨h1, h2⟩ := h
    by_cases e : p.1 = k
    · rw [if_pos e, if_pos (h1.symm.trans e)]; exact ⟨h1, ry⟩
    · rw [if_neg e, if_neg (fun z => e (h1.trans z))]; exact ⟨h1, h2⟩
theorem KV.put {kvs : List (κ × V)} {vs : List (κ × Value)} (r : KV kvs vs) (k : κ) {y : V} {u : Value} (ry : RelV y u) : KV (putK kvs k y) (stored vs k u) := by
  unfold putK stored
  rw [r.any k]
  by_cases e : (vs.any fun kv => decide (kv.1 = k)) = true
  · rw [if_pos e, if_pos e]; exact r.repl k ry
  · rw [if_neg e, if_neg e]; exact Paired.snoc r ⟨rfl, ry⟩
theorem KV.length {kvs : List (κ × V)} {vs : List (κ × Value)} (r : KV kvs vs) : kvs.length = vs.length := Paired.length r
end
theorem kV_is {P : Program} {w : World} {k : Key} {u : Value} (r : RelV (kV k) u) : (mixKind P w).is k u = true := by
  cases k with
  | inl i => obtain ⟨t, e⟩ := (show ∃ t, u = Value.int i t from r); subst e; exact mixKind_int P w i t
  | inr x => obtain ⟨t, e⟩ := (show ∃ t, u = Value.str x t from r); subst e; exact mixKind_str P w x t
theorem kV_inj {a b : Key} (e : kV a = kV b) : a = b := by
  cases a with
  | inl i => cases b with
    | inl j => have e' : V.int i = V.int j := e; injection e' with e'; rw [e']
    | inr y => exact nomatch (show V.int i = V.str y from e)
  | inr x => cases b with
    | inl j => exact nomatch (show V.str x = V.int j from e)
    | inr y => have e' : V.str x = V.str y := e; injection e' with e'; rw [e']
theorem items_are {P : Program} {w : World} : ∀ {ks : List Key} {us : List Value}, Vals (ks.map kV) us → ItemsAre (mixKind P w) ks us
  | [], _, r => by rw [List.map_nil] at r; cases r; exact .nil
  | k :: ks, _, r => by
    rw [List.map_cons] at r
    cases r with
    | cons h t => exact .cons (kV_is h) (items_are t)
abbrev KT (H : Hp) : List (List Key × V) → List (List Key × Addr × Value) → Prop := Paired fun p q => p.1 = q.1 ∧ H q.2.1 = some (.tup (p.1.map kV)) ∧ RelV p.2 q.2.2
theorem KT.val {H : Hp} {kvs : List (List Key × V)} {xs : List (List Key × Addr × Value)} (r : KT H kvs xs) (k : List Key) : RelO (valV kvs k) ((atKey xs k).map (·.2)) := by
  induction r with
  | nil => exact True.intro
  | @cons p q ps qs h t ih =>
    obtain ⟨h1, _, h2⟩ := h
    by_cases e : p.1 = k
    · have e' : q.1 = k := h1.symm.trans e
      have b : atKey (q :: qs) k = some q.2 := by simp [atKey, List.find?_cons, e']
      rw [valV_pos e, b]; exact h2
    · have e' : ¬ q.1 = k := fun z => e (h1.trans z)
      have b : atKey (q :: qs) k = atKey qs k := by simp [atKey, List.find?_cons, e']
      rw [valV_neg e, b]; exact ih
theorem KT.repl {H : Hp} {kvs : List (List Key × V)} {xs : List (List Key × Addr × Value)} (r : KT H kvs xs) (k : List Key) {y : V} {u : Value} (ry : RelV y u) :
    KT H (kvs.map fun kv => if kv.1 = k then (kv.1, y) else kv) (xs.map (putAt k u)) := by
  induction r with
  | nil => exact .nil
  | @cons p q ps qs h t ih =>
    rw [List.map_cons, List.map_cons]
    refine .cons ?_ ih
    obtain ⟨h1, h2, h3⟩ := h
    unfold putAt
    by_cases e : p.1 = k
    · rw [if_pos e, if_pos (h1.symm.trans e)]; exact ⟨h1, h2, ry⟩
    · rw [if_neg e, if_neg (fun z => e (h1.trans z))]; exact ⟨h1, h2, h3⟩
theorem KT.put {H : Hp} {kvs : List (List Key × V)} {xs : List (List Key × Addr × Value)} (r : KT H kvs xs) (k : List Key) {b : Addr} {y : V} {u : Value} (hb : H b = some (.tup (k.map kV))) (ry : RelV y u) :
    KT H (putK kvs k y) (storedH xs k b u) := by
  have e : (kvs.any fun kv => decide (kv.1 = k)) = (atKey xs k).isSome := by
    rw [valV_any, (r.val k).isSome_eq, Option.isSome_map]
  unfold putK storedH
  rw [e]
  by_cases q : (atKey xs k).isSome = true
  · rw [if_pos q, if_pos q]; exact r.repl k ry
  · rw [if_neg q, if_neg q]; exact Paired.snoc r ⟨rfl, hb, ry⟩
theorem KT.keeps {H H' : Hp} {kvs : List (List Key × V)} {xs : List (List Key × Addr × Value)} (r : KT H kvs xs) (ht : ∀ b ys, H b = some (.tup ys) → H' b = some (.tup ys)) : KT H' kvs xs :=
  Paired.mapP r fun _ _ z => ⟨z.1, ht _ _ z.2.1, z.2.2⟩
section
variable {P : Program} {w : World} {H : Hp} {h : Heap} {a : Addr}
theorem rd_of {u : HO} (ok : HOk P w H h) (e : Rd H a u) : ObjOk P w H h a u := e.ok ok
theorem dk_rd {kvs : List (Key × V)} (ok : HOk P w H h) (e : Rd H a (.dK kvs)) : kvs.length ≤ sizeLine ∧ (a == sysModules) = false ∧ ∃ vs, KV kvs vs ∧ h.DictOf (mixKind P w) a vs :=
  show ObjOk P w H h a (.dK kvs) from rd_of ok e
theorem dk_of {kvs : List (Key × V)} (ok : HOk P w H h) (e : H a = some (.dK kvs)) : kvs.length ≤ sizeLine ∧ (a == sysModules) = false ∧ ∃ vs, KV kvs vs ∧ h.DictOf (mixKind P w) a vs := dk_rd ok (.inl e)
theorem key_of {ks : List Key} (ok : HOk P w H h) (e : H a = some (.tup (ks.map kV))) : (tupleKind (mixKind P w)).is h ks a := by
  obtain ⟨_, its, r, o, h1, h2, n, h3⟩ := (show ObjOk P w H h a (.tup (ks.map kV)) from ok a _ e)
  exact ⟨o, its.toArray, n, h1, h2, h3, by simpa using items_are r⟩
theorem dt_rd {kvs : List (List Key × V)} (ok : HOk P w H h) (e : Rd H a (.dT kvs)) : kvs.length ≤ sizeLine ∧ (a == sysModules) = false ∧
    ∃ xs, KT H kvs xs ∧ h.DictOfH (tupleKind (mixKind P w)) a xs := by
  obtain ⟨z, y, xs, r, o, es, ep, h1, h2, h3, h4, h5⟩ := (show ObjOk P w H h a (.dT kvs) from rd_of ok e)
  refine ⟨z, y, xs, r, o, es, ep, h1, h2, h3, h4, fun x hx => ?_, h5⟩
  have all : ∀ {l : List (List Key × V)} {m : List (List Key × Addr × Value)}, KT H l m → ∀ x ∈ m, (tupleKind (mixKind P w)).is h x.1 x.2.1 := by
    intro l m q
    induction q with
    | nil => intro x hx; exact nomatch hx
    | @cons p q ps qs hq t ih =>
      intro x hx
      rcases List.mem_cons.mp hx with e | hx
      · subst e
        exact key_of ok (by rw [← hq.1]; exact hq.2.1)
      · exact ih x hx
  exact all r x hx
theorem dt_of {kvs : List (List Key × V)} (ok : HOk P w H h) (e : H a = some (.dT kvs)) : kvs.length ≤ sizeLine ∧ (a == sysModules) = false ∧
    ∃ xs, KT H kvs xs ∧ h.DictOfH (tupleKind (mixKind P w)) a xs := dt_rd ok (.inl e)
end
def DGet (H : Hp) (a : Addr) (y : V) (r : Option V) : Prop :=
  (∃ kvs k, Rd H a (.dK kvs) ∧ y = kV k ∧ r = valV kvs k) ∨ ∃ kvs k b, Rd H a (.dT kvs) ∧ y = .ref b ∧ H b = some (.tup (k.map kV)) ∧ r = valV kvs k
def DPut (H : Hp) (a : Addr) (y v : V) (H' : Hp) : Prop :=
  (∃ kvs k, H a = some (.dK kvs) ∧ y = kV k ∧ kvs.length < sizeLine ∧ H' = upd H a (.dK (putK kvs k v))) ∨
  ∃ kvs k b, H a = some (.dT kvs) ∧ y = .ref b ∧ H b = some (.tup (k.map kV)) ∧ kvs.length < sizeLine ∧ H' = upd H a (.dT (putK kvs k v))
theorem DGet.t {H : Hp} {a b : Addr} {kvs : List (List Key × V)} {k : List Key} (e : H a = some (.dT kvs)) (eb : H b = some (.tup (k.map kV))) : DGet H a (.ref b) (valV kvs k) := .inr ⟨kvs, k, b, .inl e, rfl, eb, rfl⟩
theorem DPut.t {H : Hp} {a b : Addr} {kvs : List (List Key × V)} {k : List Key} {v : V} (e : H a = some (.dT kvs)) (eb : H b = some (.tup (k.map kV))) (hl : kvs.length < sizeLine) :
    DPut H a (.ref b) v (upd H a (.dT (putK kvs k v))) := .inr ⟨kvs, k, b, e, rfl, eb, hl, rfl⟩
section
variable {X : Cx} {pins : List (Addr × Obj)} {σ : St} {H : Hp} {s : Shared} {a : Addr} {y v : V} {u r : Value} {o : Option V} {A : Around} {E : Value → Shared → Prop}
theorem Inv.big (I : Inv X pins σ H s) : sysModules < s.heap.objs.size := by
  have h : mainGlobals < s.heap.objs.size := (I.mod.glob.keeps I.bk).lt
  exact Nat.lt_trans (by decide) h
theorem d_notIn {Q : Value → Shared → Prop} (hu : A.units + 1 < cLine) (I : Inv X pins σ H s) (g : DGet H a y o) (ry : RelV y u) (h : ∀ s', Inv X pins σ H s' → Q (.bool (!o.isSome)) s') :
    wpAny (model X.prog X.w) A (compareOp .NotIn u (.ref a)) Q E s := by
  rcases g with ⟨kvs, k, e, ey, l⟩ | ⟨kvs, k, b, e, ey, eb, l⟩
  · subst ey
    obtain ⟨z, hd, vs, rel, dd⟩ := dk_rd I.hok e
    refine wpAny_notIn_of (kV_is ry) hd dd.mapOf ?_
    rw [← (rel.val k).isSome_eq, ← l]
    exact h _ (I.tok _)
  · subst ey
    cases (show u = Value.ref b from ry)
    obtain ⟨z, hd, xs, rel, dd⟩ := dt_rd I.hok e
    refine wpAny_notIn_heap (tupleKind_room_in1 hu) (key_of I.hok eb) hd dd ?_
    have q := (rel.val k).isSome_eq
    rw [Option.isSome_map] at q
    rw [← q, ← l]
    exact h _ (I.tok _)
theorem d_write {h' : Heap} {t' : Nat} {ob : HO} (I : Inv X pins σ H s) (mu : Mut (H a)) (hs : Heap.SameBut a s.heap h') (he : ∃ q, h'.get? a = some q) (new : ObjOk X.prog X.w (upd H a ob) h' a ob) :
    Inv X pins σ (upd H a ob) { s with heap := h', toks := t' } :=
  I.write (x := a) (e := a) mu (.inl rfl) (fun b q hb z => (hs.2 b hb).trans z) he new
theorem dk_new {P : Program} {w : World} {H' : Hp} {h' : Heap} {kvs : List (Key × V)} {vs : List (Key × Value)} (z : kvs.length ≤ sizeLine) (hd : (a == sysModules) = false) (rel : KV kvs vs) (dd : h'.DictOf (mixKind P w) a vs) :
    ObjOk P w H' h' a (.dK kvs) := ⟨z, hd, vs, rel, dd⟩
theorem d_setItem {H' : Hp} {Q : Unit → Shared → Prop} (hu : A.units + 1 < cLine) (I : Inv X pins σ H s) (g : DPut H a y v H') (ry : RelV y u) (rv : RelV v r) (h : ∀ s', Inv X pins σ H' s' → Q () s') :
    wpAny (model X.prog X.w) A (setItem (.ref a) u r) Q E s := by
  rcases g with ⟨kvs, k, e, ey, l, eH⟩ | ⟨kvs, k, b, e, ey, eb, l, eH⟩
  · subst ey eH
    obtain ⟨z, hd, vs, rel, dd⟩ := dk_of I.hok e
    have hz : vs.length ≤ sizeLine := by rw [← rel.length]; exact z
    have hl : (putK kvs k v).length ≤ sizeLine := by have := length_putK kvs k v; omega
    refine wpAny_setItem_pairs (hsz := hz) (kV_is ry) dd fun h' dd' hs => h _ ?_
    have he : ∃ q, h'.get? a = some q := let ⟨q, _, _, hq, _⟩ := dd'; ⟨q, hq⟩
    exact d_write I (by rw [e]; exact True.intro) hs he (dk_new hl hd (rel.put k rv) dd')
  · subst ey eH
    cases (show u = Value.ref b from ry)
    obtain ⟨z, hd, xs, rel, dd⟩ := dt_of I.hok e
    have hz : xs.length ≤ sizeLine := by rw [← Paired.length rel]; exact z
    have hl : (putK kvs k v).length ≤ sizeLine := by have := length_putK kvs k v; omega
    refine wpAny_setItem_heap (hsz := hz) (tupleKind_room_in1 hu) (key_of I.hok eb) dd fun h' dd' hs => h _ ?_
    obtain ⟨q, es, ep, hq, h2, h3, h4, _, h5⟩ := dd'
    refine d_write I (by rw [e]; exact True.intro) hs ⟨q, hq⟩ ⟨hl, hd, _, (rel.put k eb rv).keeps fun c ys ec => ?_, q, es, ep, hq, h2, h3, h4, h5⟩
    rw [upd_ne (ne_of ec e (fun z => nomatch z))]
    exact ec
end
section
variable {X : Cx} {pins : List (Addr × Obj)} {σ : St} {H : Hp} {s : Shared} {a : Addr} {kvs : List (Key × V)} {k : Key} {u : Value} {A : Around} {E : Value → Shared → Prop}
end
def NoSl (i : Expr) : Prop := ∀ ov iv, subscripted i false ov iv = operate [ov, iv] (getItem ov iv)
def tDGet (td ty : TE) : TE := fun σ H Q => td σ H fun x H1 => ty σ H1 fun y H2 => ∃ a v, x = .ref a ∧ DGet H2 a y (some v) ∧ Q v H2
def tDIn (ty td : TE) : TE := fun σ H Q => ty σ H fun y H1 => td σ H1 fun x H2 => ∃ a o, x = .ref a ∧ DGet H2 a y o ∧ Q (.bl o.isSome) H2
def tDNotIn (ty td : TE) : TE := fun σ H Q => ty σ H fun y H1 => td σ H1 fun x H2 => ∃ a o, x = .ref a ∧ DGet H2 a y o ∧ Q (.bl (!o.isSome)) H2
def sDPut (td ty tv : TE) : TS := fun D σ H => tv σ H fun v H1 => td σ H1 fun x H2 => ty σ H2 fun y H3 => ∃ a H4, x = .ref a ∧ DPut H3 a y v H4 ∧ D.nx σ H4
def sDAug (td ty tv : TE) (rd : V → V → Hp → VK → Prop) : TS := fun D σ H => td σ H fun x H1 => ty σ H1 fun y H2 => ∃ a v, x = .ref a ∧ DGet H2 a y (some v) ∧
  tv σ H2 fun y2 H3 => rd v y2 H3 fun z H4 => ∃ H5, DPut H4 a y z H5 ∧ D.nx σ H5
def sDDel (td ty : TE) : TS := fun D σ H => td σ H fun x H1 => ty σ H1 fun y H2 => ∃ a kvs k, x = .ref a ∧ H2 a = some (.dK kvs) ∧ y = kV k ∧ (valV kvs k).isSome = true ∧ D.nx σ (upd H2 a (.dK (dropK kvs k)))
section
variable {X : Cx} {o i e value : Expr} {pos pos' tpos : Pos} {td ty tv : TE}
theorem pc_dnotin (hu : X.A.units + 1 < cLine) (hi : PE X i ty) (ho : PE X o td) : PC X .NotIn i o (tDNotIn ty td) := by
  intro pins s σ H Q I h
  refine thn (hi pins s σ H _ I h) fun iv s1 ⟨y, H1, I1, ry, q1⟩ => thn (ho pins s1 σ H1 _ I1 q1) fun u s2 ⟨x, H2, I2, rx, a, ov, ex, g, q2⟩ => ?_
  subst ex
  obtain rfl : u = Value.ref a := rx
  exact d_notIn hu I2 g ry fun s3 I3 => ⟨.bl (!ov.isSome), H2, I3, rfl, q2⟩
theorem ps_dput (hu : X.A.units + 1 < cLine) (ho : PE X o td) (hi : PE X i ty) (hv : PE X value tv) (hs : swapsWith value (some (.Subscript o i pos')) pos.line X.env = pure false) :
    PS X (.Assign [.Subscript o i pos'] value pos) (sDPut td ty tv) := by
  intro pins s σ H D I h
  refine wpAny_Assign_Subscript (thn (hv pins s σ H _ I h) fun r s1 ⟨v, H1, I1, rv, q1⟩ => thn (ho pins s1 σ H1 _ I1 q1) fun u s2 ⟨x, H2, I2, rx, q2⟩ => thn (hi pins s2 σ H2 _ I2 q2) fun iv s3 ⟨y, H3, I3, ry, a, H4, ex, g, q3⟩ => ?_) hs
  subst ex
  obtain rfl : u = Value.ref a := rx
  exact d_setItem hu I3 g ry rv fun s4 I4 => ⟨σ, H4, I4, q3⟩
end
theorem dt_empty {P : Program} {w : World} {H : Hp} (h : Heap) (hb : sysModules < h.objs.size) : ObjOk P w H (h.push { cls := .type "dict", data := .dict #[] }) h.objs.size (.dT []) :=
  ⟨Nat.zero_le _, beq_eq_false_iff_ne.mpr (Ne.symm (Nat.ne_of_lt hb)), [], .nil, _, #[], 0, Heap.get?_push_size _ rfl, ⟨rfl, rfl, rfl⟩, rfl, rfl, List.nodup_nil⟩
def tDNewK : TE := fun _ H Q => ∀ p, H p = none → Q (.ref p) (upd H p (.dK []))
def tDNewT : TE := fun _ H Q => ∀ p, H p = none → Q (.ref p) (upd H p (.dT []))
section
variable {X : Cx} {pos : Pos}
theorem pe_dnewT : PE X (.Dict [] [] pos) tDNewT := fun pins s σ H Q I h =>
  wpAny_Dict_empty ⟨.ref s.heap.objs.size, _, I.laid (a := s.heap.objs.size) (o := .dT []) (t' := s.toks) (fun _ _ q => Heap.get?_push_of_some _ q) (Nat.le_refl _) (dt_empty s.heap I.big), rfl, h _ (I.hok.fresh (Nat.le_refl _))⟩
end
def tPairs : List (TE × TE) → St → Hp → (List (V × V) → Hp → Prop) → Prop
  | [], _, H, Q => Q [] H
  | (tk, tv) :: r, σ, H, Q => tk σ H fun x H1 => tv σ H1 fun y H2 => tPairs r σ H2 fun ps H3 => Q ((x, y) :: ps) H3
abbrev VV : List (V × V) → List (Value × Value) → Prop := Paired fun p q => RelV p.1 q.1 ∧ RelV p.2 q.2
def PPs (X : Cx) (pos : Pos) (keys : List (Option Expr)) (values : List Expr) (trs : List (TE × TE)) : Prop :=
  ∀ (pins : List (Addr × Obj)) (s : Shared) (σ : St) (H : Hp) (Q : List (V × V) → Hp → Prop), Inv X pins σ H s → tPairs trs σ H Q →
    wpAny (model X.prog X.w) X.A (evalPairs (pairTrees keys values X.env pos)) (fun vs s' => ∃ ps H', Inv X pins σ H' s' ∧ VV ps vs ∧ Q ps H') X.xe s
def mergeK (kvs more : List (Key × V)) : List (Key × V) := more.foldl (fun acc kv => putK acc kv.1 kv.2) kvs
def tDisp (trs : List (TE × TE)) : TE := fun σ H Q => ∀ p, H p = none → tPairs trs σ (upd H p (.dK [])) fun ps H2 => H2 p = some (.dK []) ∧ ∃ kvs : List (Key × V), ps = kvs.map (fun kv => (kV kv.1, kv.2)) ∧ kvs.length ≤ 15 ∧ Q (.ref p) (upd H2 p (.dK (mergeK [] kvs)))
structure M1 (X : Cx) (o : Expr) (m : Str) (apos : Pos) (e : Expr) (cpos : Pos) : Prop where
  base : attributeBase o m X.env (eval o X.env) = eval o X.env
  few : ((backTo cpos (starEach [e] X.env)).all (fun x => !x.1) && (backToKw cpos (keywordEach [] X.env)).all (fun x => x.1.isSome)
    && decide (([e] : List Expr).length + ([] : List Keyword).length + (if ([] : List Keyword).isEmpty then 0 else 1) < 30)) = true
  line : (apos.endLine == cpos.line) = true
  trees : backTo cpos (starEach [e] X.env) = [(false, eval e X.env)]
structure M2 (X : Cx) (o : Expr) (m : Str) (apos : Pos) (e f : Expr) (cpos : Pos) : Prop where
  base : attributeBase o m X.env (eval o X.env) = eval o X.env
  few : ((backTo cpos (starEach [e, f] X.env)).all (fun x => !x.1) && (backToKw cpos (keywordEach [] X.env)).all (fun x => x.1.isSome)
    && decide (([e, f] : List Expr).length + ([] : List Keyword).length + (if ([] : List Keyword).isEmpty then 0 else 1) < 30)) = true
  line : (apos.endLine == cpos.line) = true
  trees : backTo cpos (starEach [e, f] X.env) = [(false, eval e X.env), (false, eval f X.env)]
def IsD (H : Hp) (a : Addr) : Prop := (∃ kvs, Rd H a (.dK kvs)) ∨ ∃ kvs, Rd H a (.dT kvs)
theorem isD_at {X : Cx} {pins : List (Addr × Obj)} {σ : St} {H : Hp} {s : Shared} {a : Addr} (I : Inv X pins σ H s) (d : IsD H a) :
    s.TypeIs (.ref a) "dict" ∧ (∀ b, Value.ref a = .ref b → ∃ ob, s.heap.get? b = some ob ∧ ob.dict = none) ∧ (a == sysModules) = false := by
  rcases d with ⟨kvs, e⟩ | ⟨kvs, e⟩
  · obtain ⟨_, hd, vs, _, dd⟩ := dk_rd I.hok e
    refine ⟨dd.typeIs, fun b q => ?_, hd⟩
    cases q
    obtain ⟨ob, _, _, h1, h2, _⟩ := dd
    exact ⟨ob, h1, h2.2.1⟩
  · obtain ⟨_, hd, xs, _, dd⟩ := dt_rd I.hok e
    refine ⟨dd.typeIs, fun b q => ?_, hd⟩
    cases q
    obtain ⟨ob, _, _, h1, h2, _⟩ := dd
    exact ⟨ob, h1, h2.2.1⟩
section
variable {X : Cx} {pins : List (Addr × Obj)} {σ : St} {H : Hp} {s : Shared} {a : Addr} {y d : V} {u r : Value} {o : Option V} {A : Around} {E : Value → Shared → Prop}
theorem d_get2 {Q : Value → Shared → Prop} (hu : A.units + 1 < cLine) (I : Inv X pins σ H s) (g : DGet H a y o) (ry : RelV y u) (rd : RelV d r) (h : ∀ w' s', Inv X pins σ H s' → RelV (o.getD d) w' → Q w' s') :
    wpAny (model X.prog X.w) A (call (.builtin "dict.get") [.ref a, u, r]) Q E s := by
  rcases g with ⟨kvs, k, e, ey, l⟩ | ⟨kvs, k, b, e, ey, eb, l⟩
  · subst ey
    obtain ⟨z, hd, vs, rel, dd⟩ := dk_rd I.hok e
    refine call_meetsIn PySem.F.slot_dict_get dd.typeIs PySem.F.entry_dict_get (PySem.F.args_dict_get_3 _ _ _) (meets_dict_get_default (mixKind X.prog X.w) a (kV_is ry) hd r) ⟨_, dd.mapOf, h _ _ (I.tok _) ?_⟩
    rw [l]
    exact (rel.val k).getD rd
  · subst ey
    cases (show u = Value.ref b from ry)
    obtain ⟨z, hd, xs, rel, dd⟩ := dt_rd I.hok e
    refine call_meetsIn PySem.F.slot_dict_get dd.typeIs PySem.F.entry_dict_get (PySem.F.args_dict_get_3 _ _ _) (meetsH_dict_get_default (tupleKind (mixKind X.prog X.w)) a b hd r) ⟨tupleKind_room_in1 hu, k, xs, key_of I.hok eb, dd, h _ _ (I.tok _) ?_⟩
    rw [l]
    exact (rel.val k).getD rd
end
def tDGet1 (td ty : TE) : TE := fun σ H Q => td σ H fun x H1 => ∃ a, x = .ref a ∧ IsD H1 a ∧ ty σ H1 fun y H2 => ∃ o, DGet H2 a y o ∧ Q (o.getD .non) H2
def tDGet2 (td ty tx : TE) : TE := fun σ H Q => td σ H fun x H1 => ∃ a, x = .ref a ∧ IsD H1 a ∧ ty σ H1 fun y H2 => tx σ H2 fun z H3 => ∃ o, DGet H3 a y o ∧ Q (o.getD z) H3
def tDPop1 (td ty : TE) : TE := fun σ H Q => td σ H fun x H1 => ∃ a, x = .ref a ∧ IsD H1 a ∧ ty σ H1 fun y H2 => ∃ kvs k v, H2 a = some (.dK kvs) ∧ y = kV k ∧ valV kvs k = some v ∧ Q v (upd H2 a (.dK (dropK kvs k)))
def tDPop2 (td ty tx : TE) : TE := fun σ H Q => td σ H fun x H1 => ∃ a, x = .ref a ∧ IsD H1 a ∧ ty σ H1 fun y H2 => tx σ H2 fun z H3 => ∃ kvs k, H3 a = some (.dK kvs) ∧ y = kV k ∧
  (∀ v, valV kvs k = some v → Q v (upd H3 a (.dK (dropK kvs k)))) ∧ (valV kvs k = none → Q z H3)
section
variable {X : Cx} {o e f : Expr} {apos cpos : Pos} {td ty tx : TE}
theorem pe_dget2 (hu : X.A.units + 1 < cLine) (ho : PE X o td) (he : PE X e ty) (hf : PE X f tx) (m : M2 X o "get" apos e f cpos) : PE X (.Call (.Attribute o "get" apos) [e, f] [] cpos) (tDGet2 td ty tx) := by
  intro pins s σ H Q I h
  refine wpAny_Call_method m.base m.few m.line PySem.F.plainAttrs_dict PySem.F.slot_dict_get PySem.F.type_dict_get (thn (ho pins s σ H _ I h) fun u s1 ⟨x, H1, I1, rx, a, ex, d, q1⟩ => ?_)
  subst ex
  obtain rfl : u = Value.ref a := rx
  obtain ⟨t1, t2, _⟩ := isD_at I1 d
  refine ⟨t1, t2, ?_⟩
  rw [m.trees]
  refine Calls.callWith_builtin rfl (Calls.evalArgs_plain (Calls.spliced_cons (thn (he pins s1 σ H1 _ I1 q1) fun iv s2 ⟨y, H2, I2, ry, q2⟩ =>
    Calls.spliced_cons (thn (hf pins s2 σ H2 _ I2 q2) fun fv s3 ⟨z, H3, I3, rz, ov, g, q3⟩ => Calls.spliced_nil ?_))))
  exact d_get2 hu I3 g ry rz fun w' s4 I4 rw' => ⟨_, H3, I4, rw', q3⟩
end
section
variable {X : Cx} {pins : List (Addr × Obj)} {σ : St} {H : Hp} {s : Shared} {a : Addr} {kvs : List (Key × V)} {A : Around} {E : Value → Shared → Prop}
end
section
variable {X : Cx} {pins : List (Addr × Obj)} {σ : St} {H : Hp} {s : Shared} {a : Addr} {y : V} {u : Value} {A : Around} {E : Value → Shared → Prop}
end
section
variable {X : Cx}
end
section
variable {κ : Type} [DecidableEq κ]
theorem valV_not {kvs : List (κ × V)} {k : κ} (h : valV kvs k = none) : ¬ k ∈ kvs.map (·.1) := by
  intro m
  obtain ⟨p, hp, e⟩ := List.mem_map.mp m
  have q : (kvs.any fun kv => decide (kv.1 = k)) = true := List.any_eq_true.mpr ⟨p, hp, decide_eq_true e⟩
  rw [valV_any, h] at q
  exact absurd q (by simp)
theorem valV_in {kvs : List (κ × V)} {k : κ} {v : V} (h : valV kvs k = some v) : k ∈ kvs.map (·.1) := by
  have q : (kvs.any fun kv => decide (kv.1 = k)) = true := by
    rw [valV_any, h]
    all_goals rfl
  obtain ⟨p, hp, e⟩ := List.any_eq_true.mp q
  exact List.mem_map.mpr ⟨p, hp, of_decide_eq_true e⟩
end
end L2

namespace L2
open PySem PySem.Spec PyProof.Rows
structure DefOk (P : Program) (w : World) (K : PySem.W.Frag) (mg : Str → Option Value) (base : Heap) (CX : CXT) (k : Nat) (x : Str) (ps : List Str) (sp : Sp) : Prop where
  ex : ∃ (f : Addr) (fd : FuncData), FnOk P w K mg base CX k f fd ps sp ∧ Binds K fd ps [] ∧ PySem.W.keepIn K (.ref f) = true ∧ mg x = some (.ref f)
theorem DefOk.mono {P : Program} {w : World} {K : PySem.W.Frag} {mg : Str → Option Value} {base : Heap} {CX : CXT} {j k : Nat} {x : Str} {ps : List Str} {sp : Sp} (D : DefOk P w K mg base CX j x ps sp) (h : j ≤ k) : DefOk P w K mg base CX k x ps sp := by
  obtain ⟨f, fd, F, b⟩ := D.ex
  exact ⟨f, fd, F.mono h, b⟩
section
variable {X : Cx} {CX : CXT} {k : Nat} {ps : List Str} {sp : Sp} {E : XK} {x : Str} {p pos : Pos} {e : Expr} {es : List Expr} {t : TA}
theorem pe_callD (D : DefOk X.prog X.w X.K X.mg X.base CX k x ps sp) (hr : Room k X.A) (hg : Gl X x) (hx : Passes CX X E) (ha : PA X (e :: es) t) (hdb : (x == ("__debug__" : Str)) = false := by decide)
    (he : starEach (e :: es) X.env = (false, eval e X.env) :: starEach es X.env := by rfl) (hpl : (backTo pos (starEach es X.env)).any (·.1) = false := by rfl) :
    PE X (.Call (.Name x p) (e :: es) [] pos) (tCall sp [] E t) := by
  obtain ⟨f, fd, F, b, kp, m⟩ := D.ex
  exact pe_call F hr hg m kp b .nil hx ha hdb he hpl
end
def CDivW (_ j : Int) : Prop := 0 < j ∧ j < 2 ^ 64
theorem op_fdivW {X : Cx} : OpR X (binaryOp .FloorDiv) (rI CDivW fun i j => .int (i / j)) := opI fun i j _ _ _ _ _ hc q => by
  have h1 : (0 : Int) < j := hc.1
  have h2 : j < 2 ^ 64 := hc.2
  have h3 : j.natAbs.log2 < 64 := (Nat.log2_lt (by omega)).mpr (by omega)
  exact floordiv_int (by omega) (by rw [Int.fdiv_eq_ediv_of_nonneg i (by omega)]; exact q) (.inl (PyProof.noPylong_of_log2 (by omega)))
def Ch (W : List Addr) (H H' : Hp) : Prop := ∀ b o, H b = some o → b ∉ W → H' b = some o
theorem Ch.refl (W : List Addr) (H : Hp) : Ch W H H := fun _ _ h _ => h
theorem Ch.trans {W : List Addr} {H H1 H2 : Hp} (a : Ch W H H1) (b : Ch W H1 H2) : Ch W H H2 := fun c o h n => b c o (a c o h n) n
theorem Ch.get {W : List Addr} {H H' : Hp} {b : Addr} {o : HO} (c : Ch W H H') (h : H b = some o) (n : b ∉ W) : H' b = some o := c b o h n
theorem Ch.mono {W W' : List Addr} {H H' : Hp} (c : Ch W H H') (h : ∀ b ∈ W, b ∈ W') : Ch W' H H' := fun b o q n => c b o q fun z => n (h b z)
theorem Ch.wk {W : List Addr} {H H' : Hp} (c : Ch [] H H') : Ch W H H' := c.mono fun b h => nomatch h
theorem Ch.new {W : List Addr} {H : Hp} {p : Addr} (h : H p = none) (o : HO) : Ch W H (upd H p o) := fun b u q _ => by rw [upd_ne (ne_of_none q h)]; exact q
theorem Ch.put {H : Hp} {p : Addr} {o : HO} : Ch [p] H (upd H p o) := fun b u q n => by rw [upd_ne (fun z => n (by simp [z]))]; exact q
def Scr (K : PySem.W.Frag) (H : Hp) (a : Addr) (ns : List Int) : Prop :=
  ns.length ≤ 63 ∧ ((∃ o, H a = some (.frz o (.lst (ns.map V.int)))) ∨
    ∃ (o : Obj) (its : Array Value) (n : Nat), K.lookup a = some o ∧ o.cls = .type "list" ∧ o.dict = none ∧ o.data = .seq its n ∧ its.size ≤ sizeLine ∧ Vals (ns.map V.int) its.toList)
theorem Scr.sq {K : PySem.W.Frag} {H : Hp} {a : Addr} {ns : List Int} (S : Scr K H a ns) : SqL K H a (ns.map V.int) := by
  rcases S.2 with ⟨o, h⟩ | h
  · exact .inl (.inr ⟨o, h⟩)
  · exact .inr h
theorem Scr.ch {K : PySem.W.Frag} {H H' : Hp} {a b : Addr} {ns : List Int} {xs : List V} (S : Scr K H a ns) (hb : H b = some (.lst xs)) (c : Ch [b] H H') : Scr K H' a ns := by
  refine ⟨S.1, ?_⟩
  rcases S.2 with ⟨o, h⟩ | h
  · exact .inl ⟨o, c.get h (by
      intro z
      have e : a = b := by simpa using z
      subst e
      rw [h] at hb
      cases hb)⟩
  · exact .inr h
theorem Scr.same {K : PySem.W.Frag} {H H' : Hp} {a : Addr} {ns : List Int} (S : Scr K H a ns) (c : Ch [] H H') : Scr K H' a ns := by
  refine ⟨S.1, ?_⟩
  rcases S.2 with ⟨o, h⟩ | h
  · exact .inl ⟨o, c.get h (by simp)⟩
  · exact .inr h
theorem Scr.of {K : PySem.W.Frag} {H : Hp} {a : Addr} {ns : List Int} (h : SqL K H a (ns.map V.int)) (hl : ns.length ≤ 63) (hO : Only H) : Scr K H a ns := by
  refine ⟨hl, ?_⟩
  rcases h with (h | ⟨o, h⟩) | h
  · rcases hO a with z | ⟨o, xs, z⟩
    · rw [h] at z; cases z
    · rw [h] at z; cases z
  · exact .inl ⟨o, h⟩
  · exact .inr h
end L2
namespace L2
open PySem PySem.Spec PyProof.Rows
theorem g_new {H : Hp} {p q : Addr} {o u : HO} (hq : H q = none) (h : H p = some o) : upd H q u p = some o := by rw [upd_ne (ne_of_none h hq)]; exact h
theorem g_put {H : Hp} {p q : Addr} {o u : HO} (n : p ≠ q) (h : H p = some o) : upd H q u p = some o := by rw [upd_ne n]; exact h
structure Loop (J : It) (g : TG) (tb : TS) (D : Ends) (σ : St) (H : Hp) : Prop where
  ex : ∃ W : Nat → Nat → St → Hp → Prop, (∃ m, W 0 m σ H) ∧ ∀ i m σ H, W i m σ H →
    (J.stop i H ∧ D.nx σ H) ∨ (J.go i H ∧ ∃ N : St → Hp → Prop, (∀ σ' H', N σ' H' → ∃ m', m' < m ∧ W (i + 1) m' σ' H') ∧ ∀ x H', J.yld i H x H' → g x σ H' fun σ2 H2 => tb { D with nx := N, ct := N, bk := D.nx } σ2 H2)
def tLoop (wi : TI) (g : TG) (tb : TS) : TS := fun D σ H => wi σ H fun J H1 => Loop J g tb D σ H1
theorem ps_loop {X : Cx} {tg iter : Expr} {body : List Stmt} {wi : TI} {g : TG} {tb : TS} {pos : Pos} (hp : PassesOwn (model X.prog X.w) X.A X.env X.xe) (hc : X.calm = true) (hi : PI X tg iter wi) (hg : PG X tg g) (hb : PSs X body tb)
    (hs : ∀ x, foldedSetIterable iter X.env x = pure x := by intro _; rfl) : PS X (.For tg iter body [] pos) (tLoop wi g tb) := by
  have hi' : PI X tg iter (fun σ H R => ∃ R0 : It → Hp → Prop, wi σ H R0 ∧ ∀ J H1, R0 J H1 → R J H1) := by
    intro pins s σ H R I ⟨R0, h, m⟩
    refine thn (hi pins s σ H _ I h) fun v s1 h1 => thn h1 fun itv s2 h2 => ?_
    obtain ⟨it, fp, tn, J, H2, e, I2, T, st2, f2, r⟩ := h2
    exact ⟨it, fp, tn, J, H2, e, I2, T, st2, f2, m _ _ r⟩
  intro pins s σ H D I h
  exact ps_for hp hc hi' hg hb hs pins s σ H D I ⟨_, h, fun J H1 l => l.ex⟩
theorem loop_list {K : PySem.W.Frag} {a : Addr} {xs : List V} {g : TG} {tb : TS} {D : Ends} {σ : St} {H : Hp} (Pv : Nat → St → Hp → Prop) (h0 : Pv 0 σ H) (hl : ∀ i σ H, i ≤ xs.length → Pv i σ H → SqL K H a xs)
    (hs : ∀ i x σ H, xs[i]? = some x → Pv i σ H → g x σ H fun σ2 H2 => tb { D with nx := Pv (i + 1), ct := Pv (i + 1), bk := D.nx } σ2 H2) (hd : ∀ σ H, Pv xs.length σ H → D.nx σ H) : Loop (Itl K a) g tb D σ H := ⟨for_list Pv h0 hl hs hd⟩
theorem loop_tup {K : PySem.W.Frag} {a : Addr} {xs : List V} {g : TG} {tb : TS} {D : Ends} {σ : St} {H : Hp} (Pv : Nat → St → Hp → Prop) (h0 : Pv 0 σ H) (hl : ∀ i σ H, i ≤ xs.length → Pv i σ H → SqT K H a xs)
    (hs : ∀ i x σ H, xs[i]? = some x → Pv i σ H → g x σ H fun σ2 H2 => tb { D with nx := Pv (i + 1), ct := Pv (i + 1), bk := D.nx } σ2 H2) (hd : ∀ σ H, Pv xs.length σ H → D.nx σ H) : Loop (Itt K a) g tb D σ H := ⟨for_tup Pv h0 hl hs hd⟩
theorem loop_range {lo : Int} {n : Nat} {g : TG} {tb : TS} {D : Ends} {σ : St} {H : Hp} (Pv : Nat → St → Hp → Prop) (h0 : Pv 0 σ H)
    (hs : ∀ i σ H, i < n → Pv i σ H → g (.int (lo + i)) σ H fun σ2 H2 => tb { D with nx := Pv (i + 1), ct := Pv (i + 1), bk := D.nx } σ2 H2) (hd : ∀ σ H, Pv n σ H → D.nx σ H) : Loop (Itr lo n) g tb D σ H := ⟨for_range Pv h0 hs hd⟩
structure Cut (t u : TS) (D : Ends) (σ : St) (H : Hp) : Prop where
  ex : ∃ P : St → Hp → Prop, t { D with nx := P } σ H ∧ ∀ σ' H', P σ' H' → u D σ' H'
def tCut (t u : TS) : TS := fun D σ H => Cut t u D σ H
theorem pss_cut {X : Cx} {st : Stmt} {rest : List Stmt} {t u : TS} (h1 : PS X st t) (h2 : PSs X rest u) : PSs X (st :: rest) (tCut t u) := by
  intro pins s σ H D I h
  obtain ⟨P, a, b⟩ := h.ex
  have h1' : PS X st (fun D' σ' H' => ∃ P : St → Hp → Prop, t { D' with nx := P } σ' H' ∧ ∀ σ2 H2, P σ2 H2 → D'.nx σ2 H2) := by
    intro pins s σ H D I ⟨P, a, b⟩
    refine thn (h1 pins s σ H _ I a) fun f s' q => ?_
    cases f with
    | next => obtain ⟨σ7, H7, I7, n7⟩ := q; exact ⟨σ7, H7, I7, b _ _ n7⟩
    | cont => exact q
    | brk => exact q
    | ret v => exact q
  exact pss_cons h1' h2 pins s σ H D I ⟨P, a, b⟩
theorem cut_by {t u : TS} {D : Ends} {σ : St} {H : Hp} (P : St → Hp → Prop) (h1 : t { D with nx := P } σ H) (h2 : ∀ σ' H', P σ' H' → u D σ' H') : Cut t u D σ H := ⟨P, h1, h2⟩
theorem atI_ints {ns : List Int} {i : Int} (h0 : 0 ≤ i) (h1 : i < (ns.length : Int)) : ∃ n : Int, atI (ns.map V.int) i = some (.int n) := by
  have hk : i.toNat < ns.length := by omega
  have ek : i = ((i.toNat : Nat) : Int) := by omega
  have q : atI (ns.map V.int) ((i.toNat : Nat) : Int) = some (.int ns[i.toNat]) := atI_nat (by rw [List.getElem?_map, List.getElem?_eq_getElem hk]; rfl)
  rw [← ek] at q
  exact ⟨_, q⟩
end L2

namespace L2
open PySem PySem.Spec PyProof.Rows
structure Atx {α : Type} (xs : List α) (i : Int) (R : α → Prop) : Prop where
  ex : ∃ v, atI xs i = some v ∧ R v
theorem Atx.of {α : Type} {xs : List α} {i : Int} {v : α} {R : α → Prop} (h : atI xs i = some v) (r : R v) : Atx xs i R := ⟨v, h, r⟩
section
variable {X : Cx}
theorem IxR.imp {r r' : R2} (h : IxR X r) (f : ∀ x y H Q, r' x y H Q → r x y H Q) : IxR X r' := fun value slice pins s σ H x y v u Q I rx ry q hs => h value slice pins s σ H x y v u Q I rx ry (f _ _ _ _ q) hs
def aIxL (K : PySem.W.Frag) : R2 := fun x y H Q => ∃ p xs i, x = .ref p ∧ y = .int i ∧ SqL K H p xs ∧ Atx xs i fun v => Q v H
def aIxT (K : PySem.W.Frag) : R2 := fun x y H Q => ∃ p xs i, x = .ref p ∧ y = .int i ∧ SqT K H p xs ∧ Atx xs i fun v => Q v H
def aIxS : R2 := fun x y H Q => ∃ z i, x = .str z ∧ y = .int i ∧ z.length ≤ sizeLine ∧ Atx z.cps.toList i fun c => Q (.str ⟨#[c]⟩) H
theorem ixa_list : IxR X (aIxL X.K) := ix_list.imp fun x y H Q ⟨p, xs, i, e1, e2, h, a⟩ => let ⟨v, hv, q⟩ := a.ex; ⟨p, xs, i, v, e1, e2, h, hv, q⟩
theorem ixa_tup : IxR X (aIxT X.K) := ix_tup.imp fun x y H Q ⟨p, xs, i, e1, e2, h, a⟩ => let ⟨v, hv, q⟩ := a.ex; ⟨p, xs, i, v, e1, e2, h, hv, q⟩
end
end L2
namespace L2
open PySem
section
variable {es : List Expr} {env : Env}
theorem se_Name {x pos} : starEach (.Name x pos :: es) env = (false, eval (.Name x pos) env) :: starEach es env := rfl
theorem se_Constant {c k pos} : starEach (.Constant c k pos :: es) env = (false, eval (.Constant c k pos) env) :: starEach es env := rfl
theorem se_BinOp {a o b pos} : starEach (.BinOp a o b pos :: es) env = (false, eval (.BinOp a o b pos) env) :: starEach es env := rfl
theorem se_UnaryOp {a o pos} : starEach (.UnaryOp o a pos :: es) env = (false, eval (.UnaryOp o a pos) env) :: starEach es env := rfl
theorem se_Call {a o b pos} : starEach (.Call a o b pos :: es) env = (false, eval (.Call a o b pos) env) :: starEach es env := rfl
theorem se_Tuple {a k pos} : starEach (.Tuple a k pos :: es) env = (false, eval (.Tuple a k pos) env) :: starEach es env := rfl
theorem se_List {a pos} : starEach (.List a pos :: es) env = (false, eval (.List a pos) env) :: starEach es env := rfl
theorem se_Subscript {a b pos} : starEach (.Subscript a b pos :: es) env = (false, eval (.Subscript a b pos) env) :: starEach es env := rfl
theorem se_Attribute {a b pos} : starEach (.Attribute a b pos :: es) env = (false, eval (.Attribute a b pos) env) :: starEach es env := rfl
theorem se_ListComp {a b c pos} : starEach (.ListComp a b c pos :: es) env = (false, eval (.ListComp a b c pos) env) :: starEach es env := rfl
end
end L2
namespace L2
open PySem
theorem Ch.own {W : List Addr} {H H' : Hp} {p : Addr} {o : HO} (n : H p = none) (c : Ch W H H') : Ch W H (upd H' p o) := fun b u h k => by
  rw [upd_ne (ne_of_none h n)]
  exact c b u h k
end L2
namespace L2
open PySem
theorem Atx.head {α : Type} {x : α} {xs : List α} {R : α → Prop} (r : R x) : Atx (x :: xs) 0 R := ⟨x, atI_nat (j := 0) rfl, r⟩
end L2

namespace L2
open PySem PySem.Spec PyProof.Rows
inductive SK where
  | list | tuple
def SIt (k : SK) (h : Heap) (it l : Addr) (i : Nat) : Prop := match k with
  | .list => h.IsListIter it l i
  | .tuple => h.IsTupleIter it l i
def SIs (k : SK) (h : Heap) (l : Addr) (items : Array Value) : Prop := match k with
  | .list => h.IsList l items
  | .tuple => h.IsTuple l items
def Sq (k : SK) (K : PySem.W.Frag) (H : Hp) (a : Addr) (xs : List V) : Prop := match k with
  | .list => SqL K H a xs
  | .tuple => SqT K H a xs
theorem SIt.at {k : SK} {h h' : Heap} {a l i} (x : SIt k h a l i) (e : ∀ o, h.get? a = some o → h'.get? a = some o) : SIt k h' a l i := by
  cases k with
  | list => exact Heap.IsListIter.at x e
  | tuple => exact Heap.IsTupleIter.at x e
theorem SIt.obj {k : SK} {h : Heap} {a l i} (x : SIt k h a l i) : ∃ o, h.get? a = some o ∧ ∀ v, o.data ≠ .cell v := by
  cases k with
  | list => obtain ⟨o, e, c, d⟩ := (show h.IsListIter a l i from x); exact ⟨o, e, fun v z => by rw [d] at z; cases z⟩
  | tuple => obtain ⟨o, e, c, d⟩ := (show h.IsTupleIter a l i from x); exact ⟨o, e, fun v z => by rw [d] at z; cases z⟩
theorem SIs.at {k : SK} {h h' : Heap} {a items} (x : SIs k h a items) (e : ∀ o, h.get? a = some o → h'.get? a = some o) : SIs k h' a items := by
  cases k with
  | list => exact Heap.IsList.at x e
  | tuple => obtain ⟨o, ho, r⟩ := (show h.IsTuple a items from x); exact ⟨o, e _ ho, r⟩
theorem SIs.lt {k : SK} {h : Heap} {a items} (x : SIs k h a items) : a < h.objs.size := by
  cases k with
  | list => obtain ⟨_, e, _⟩ := (show h.IsList a items from x); exact Heap.lt_size e
  | tuple => obtain ⟨_, e, _⟩ := (show h.IsTuple a items from x); exact Heap.lt_size e
section
variable {prog : Program} {w : World} {A : Around} {E : Value → Shared → Prop} {s : Shared}
theorem nextOf_tuple_item {it l : Addr} {i : Nat} {items} {x : Value} {Q : Value → Shared → Prop} (hit : s.heap.IsTupleIter it l i)
    (hl : s.heap.IsTuple l items) (hx : items[i]? = some x)
    (hQ : ∀ h', h'.IsTupleIter it l (i + 1) → Heap.SameBut it s.heap h' → Q x { s with heap := h' }) :
    wpAny (model prog w) A (Builtin.SmallTypes.nextOf (.ref it)) Q E s := by
  obtain ⟨o, ho, hc, hd⟩ := id hit
  obtain ⟨ol, hol, _, nl, hdl⟩ := hl
  unfold Builtin.SmallTypes.nextOf
  refine wpAny_bind (wpAny_callSpecial?_slot (name := Str.ofString "__next__") hit.typeIs F.slot_tuple_iterator_next
    (wpAny_call_entry F.slot_tuple_iterator_next hit.typeIs F.entry_tuple_iterator_next ?_ (F.args_tuple_iterator_next_1 _)))
  show wpAny _ _ (field (.ref it) 0 >>= _) _ _ s
  refine wpAny_bind (wpAny_field ho hd (x := .ref l) rfl ?_)
  show wpAny _ _ (if (Value.ref l == Value.none) = true then _ else _) _ _ s
  rw [if_neg (show ¬ ((Value.ref l == Value.none) = true) from Bool.false_ne_true)]
  show wpAny _ _ (field (.ref it) 1 >>= _) _ _ s
  refine wpAny_bind (wpAny_field ho hd (x := .int i 0) rfl ?_)
  show wpAny _ _ (seqItems? (.ref l) >>= _) _ _ s
  refine wpAny_bind (wpAny_seqItems hol hdl ?_)
  simp only [Int.toNat_natCast, hx]
  refine wpAny_bind (wpAny_setField ho hd (by simp) (wpAny_pure ⟨x, rfl, wpAny_pure (hQ _ ?_ (Heap.SameBut.update ..))⟩))
  exact ⟨_, Heap.get?_update_self _ ho (Obj.isFreed_of_fields (Obj.data_mapFields hd _)), (Obj.cls_mapFields ..).trans hc, by
    rw [Obj.data_mapFields hd]; simp [rawInt]⟩
theorem nextOf_tuple_end {it l : Addr} {i : Nat} {items} {Q : Value → Shared → Prop} (hh : A.handled = none)
    (hit : s.heap.IsTupleIter it l i) (hl : s.heap.IsTuple l items) (hx : items[i]? = none)
    (hE : ∀ h' e, Heap.ExtBut it s.heap h' → (∃ o, h'.get? e = some o ∧ o.cls = .type "StopIteration") → E (.ref e) { s with heap := h' }) :
    wpAny (model prog w) A (Builtin.SmallTypes.nextOf (.ref it)) Q E s := by
  obtain ⟨o, ho, hc, hd⟩ := id hit
  obtain ⟨ol, hol, _, nl, hdl⟩ := hl
  unfold Builtin.SmallTypes.nextOf
  refine wpAny_bind (wpAny_callSpecial?_slot (name := Str.ofString "__next__") hit.typeIs F.slot_tuple_iterator_next
    (wpAny_call_entry F.slot_tuple_iterator_next hit.typeIs F.entry_tuple_iterator_next ?_ (F.args_tuple_iterator_next_1 _)))
  show wpAny _ _ (field (.ref it) 0 >>= _) _ _ s
  refine wpAny_bind (wpAny_field ho hd (x := .ref l) rfl ?_)
  show wpAny _ _ (if (Value.ref l == Value.none) = true then _ else _) _ _ s
  rw [if_neg (show ¬ ((Value.ref l == Value.none) = true) from Bool.false_ne_true)]
  show wpAny _ _ (field (.ref it) 1 >>= _) _ _ s
  refine wpAny_bind (wpAny_field ho hd (x := .int i 0) rfl ?_)
  show wpAny _ _ (seqItems? (.ref l) >>= _) _ _ s
  refine wpAny_bind (wpAny_seqItems hol hdl ?_)
  simp only [Int.toNat_natCast, hx]
  refine wpAny_bind (wpAny_rule (wpAny_bind (wpAny_setField ho hd (by simp) ?_)))
  show wpAny _ _ (newExc (.type "StopIteration") [] >>= _) _ _ _
  refine wpAny_bind ?_
  simp only [newExc, newTuple]
  refine wpAny_bind (wpAny_newObj_type ?_ (by size_fits))
  refine wpAny_bind (m := firstArgMember _ _) (wpAny_of_eq (a := Value.none) (by first | rfl | (simp only [firstArgMember]; rfl)) ?_)
  refine wpAny_newObj_type ?_ (by size_fits)
  simp only [raiseNew]
  refine wpAny_bind (wpAny_handled ?_)
  first | rw [show A.in1.handled = none from hh] | rw [hh]
  refine wpAny_bind (wpAny_pure (wpAny_throw ?_))
  exact hE _ _ (((Heap.SameBut.update ..).extBut.push _).push _) ⟨_, Heap.get?_push_size _ rfl, rfl⟩
theorem nextOf_item {k : SK} {it l : Addr} {i : Nat} {items} {x : Value} {Q : Value → Shared → Prop} (hit : SIt k s.heap it l i) (hl : SIs k s.heap l items) (hx : items[i]? = some x)
    (hQ : ∀ h', SIt k h' it l (i + 1) → Heap.SameBut it s.heap h' → Q x { s with heap := h' }) : wpAny (model prog w) A (Builtin.SmallTypes.nextOf (.ref it)) Q E s := by
  cases k with
  | list => exact wpAny_nextOf_list_item hit hl hx hQ
  | tuple => exact nextOf_tuple_item hit hl hx hQ
theorem nextOf_end {k : SK} {it l : Addr} {i : Nat} {items} {Q : Value → Shared → Prop} (hh : A.handled = none) (hit : SIt k s.heap it l i) (hl : SIs k s.heap l items) (hx : items[i]? = none)
    (hE : ∀ h' e, Heap.ExtBut it s.heap h' → (∃ o, h'.get? e = some o ∧ o.cls = .type "StopIteration") → E (.ref e) { s with heap := h' }) :
    wpAny (model prog w) A (Builtin.SmallTypes.nextOf (.ref it)) Q E s := by
  cases k with
  | list => exact wpAny_nextOf_list_end hh hit hl hx hE
  | tuple => exact nextOf_tuple_end hh hit hl hx hE
theorem SIt.ext {k : SK} {h h' : Heap} {a b l i} (x : SIt k h a l i) (hs : Heap.ExtBut b h h') (hab : a ≠ b) : SIt k h' a l i := x.at fun o e => hs _ _ hab e
theorem SIs.ext {k : SK} {h h' : Heap} {a b items} (x : SIs k h a items) (hs : Heap.ExtBut b h h') (hab : a ≠ b) : SIs k h' a items := x.at fun o e => hs _ _ hab e
theorem zipS_item {k1 k2 : SK} {z TI TO i1 i2 l1 l2 : Addr} {n1 n2 : Nat} {xs ys : Array Value} {x y a b : Value} {Q : Value → Shared → Prop} (D : ZipApart z TI TO i1 i2 l1 l2)
    (hz : IsZip s.heap z TI TO .none) (hTI : IsPair s.heap TI (.ref i1) (.ref i2)) (hTO : IsPair s.heap TO a b)
    (h1 : SIt k1 s.heap i1 l1 n1) (h2 : SIt k2 s.heap i2 l2 n2) (hl1 : SIs k1 s.heap l1 xs) (hl2 : SIs k2 s.heap l2 ys) (hx : xs[n1]? = some x) (hy : ys[n2]? = some y)
    (hQ : ∀ h', IsZip h' z TI TO (rawInt s.heap.objs.size) → IsPair h' TO x y → SIt k1 h' i1 l1 (n1 + 1) → SIt k2 h' i2 l2 (n2 + 1) → IsPair h' s.heap.objs.size x y → h'.objs.size = s.heap.objs.size + 1 →
      (∀ c o, c ≠ z → c ≠ TO → c ≠ i1 → c ≠ i2 → s.heap.get? c = some o → h'.get? c = some o) → Q (.ref s.heap.objs.size) { s with heap := h' }) :
    wpAny (model prog w) A (Builtin.«zip.__next__» ⟨[.ref z], []⟩) (fun fin s' => ∃ v, fin = .done (.ret v) ∧ Q v s') E s := by
  show wpAny _ _ (field (.ref z) 2 >>= _) _ _ _
  refine wpAny_bind (wpAny_field hz rfl (x := .bool false) rfl ?_)
  show wpAny _ _ (field (.ref z) 3 >>= _) _ _ _
  refine wpAny_bind (wpAny_field hz rfl (x := .ref TI) rfl ?_)
  refine wpAny_bind (wpAny_seqItems hTI rfl ?_)
  show wpAny _ _ (Builtin.SmallTypes.ownedTupleIsFree (.ref z) >>= _) _ _ _
  refine wpAny_bind ?_
  unfold Builtin.SmallTypes.ownedTupleIsFree
  refine wpAny_bind (wpAny_field hz rfl (x := .none) rfl (wpAny_pure ?_))
  simp only [if_true]
  refine wpAny_bind (wpAny_rule ?_)
  refine wpAny_bind (wpAny_field hz rfl (x := .ref TO) rfl ?_)
  refine wpAny_bind (wpAny_setField_rec hz (by simp) fun h₁ hz₁ hs₁ => ?_)
  replace hz₁ : IsZip h₁ z TI TO .ellipsis := hz₁
  refine wpAny_bind ?_
  simp only [List.zipIdx_cons, List.zipIdx_nil, List.forIn_cons, List.forIn_nil]
  refine wpAny_bind (wpAny_bind (wpAny_onRaise ?_))
  show wpAny _ _ (Builtin.SmallTypes.nextOf (.ref i1) >>= _) _ _ _
  refine wpAny_bind (nextOf_item (h1.ext hs₁.extBut D.i1z) (hl1.ext hs₁.extBut D.l1z) hx fun h₂ h1₂ hs₂ => wpAny_pure ?_)
  have hTO₂ : IsPair h₂ TO a b := hs₂.extBut _ _ D.TOi1 (hs₁.extBut _ _ D.TOz hTO)
  refine wpAny_bind (wpAny_seqItems hTO₂ rfl ?_)
  refine wpAny_bind (wpAny_updateSeq_pair hTO₂ fun h₃ hTO₃ hs₃ => ?_)
  replace hTO₃ : IsPair h₃ TO x b := hTO₃
  refine wpAny_bind (wpAny_letGo (wpAny_pure ?_))
  refine wpAny_bind (wpAny_bind (wpAny_onRaise ?_))
  show wpAny _ _ (Builtin.SmallTypes.nextOf (.ref i2) >>= _) _ _ _
  refine wpAny_bind (nextOf_item (((h2.ext hs₁.extBut D.i2z).ext hs₂.extBut D.i12.symm).ext hs₃.extBut D.TOi2.symm)
    (((hl2.ext hs₁.extBut D.l2z).ext hs₂.extBut D.l2i1).ext hs₃.extBut D.l2TO) hy fun h₄ h2₄ hs₄ => wpAny_pure ?_)
  have hTO₄ : IsPair h₄ TO x b := hs₄.extBut _ _ D.TOi2 hTO₃
  refine wpAny_bind (wpAny_seqItems hTO₄ rfl ?_)
  refine wpAny_bind (wpAny_updateSeq_pair hTO₄ fun h₅ hTO₅ hs₅ => ?_)
  replace hTO₅ : IsPair h₅ TO x y := hTO₅
  refine wpAny_bind (wpAny_letGo (wpAny_pure (wpAny_pure ?_)))
  refine wpAny_bind (wpAny_seqItems hTO₅ rfl ?_)
  refine wpAny_bind (wpAny_newTuple ?_)
  have hsz : h₅.objs.size = s.heap.objs.size := by rw [hs₅.1, hs₄.1, hs₃.1, hs₂.1, hs₁.1]
  have hz₅ : IsZip h₅ z TI TO .ellipsis := hs₅.extBut _ _ D.TOz.symm (hs₄.extBut _ _ D.i2z.symm (hs₃.extBut _ _ D.TOz.symm (hs₂.extBut _ _ D.i1z.symm hz₁)))
  have hk₅ : ∀ c o, c ≠ z → c ≠ TO → c ≠ i1 → c ≠ i2 → s.heap.get? c = some o → h₅.get? c = some o := fun c o c1 c2 c3 c4 e =>
    hs₅.extBut _ _ c2 (hs₄.extBut _ _ c4 (hs₃.extBut _ _ c2 (hs₂.extBut _ _ c3 (hs₁.extBut _ _ c1 e))))
  have h1₅ : SIt k1 h₅ i1 l1 (n1 + 1) := ((h1₂.ext hs₃.extBut D.TOi1.symm).ext hs₄.extBut D.i12).ext hs₅.extBut D.TOi1.symm
  have h2₅ : SIt k2 h₅ i2 l2 (n2 + 1) := h2₄.ext hs₅.extBut D.TOi2.symm
  have hzlt : z < h₅.objs.size := Heap.lt_size hz₅
  show wpAny _ _ (Builtin.SmallTypes.ownedTupleHandOut (.ref z) (.ref h₅.objs.size) >>= _) _ _ _
  refine wpAny_bind ?_
  unfold Builtin.SmallTypes.ownedTupleHandOut
  have hz₆ : IsZip (h₅.push { cls := .type "tuple", data := .seq #[x, y] }) z TI TO .ellipsis := Heap.get?_push_of_some _ hz₅
  refine wpAny_bind (wpAny_setField_rec hz₆ (by simp) fun h₇ hz₇ hs₇ => ?_)
  replace hz₇ : IsZip h₇ z TI TO (rawInt h₅.objs.size) := hz₇
  refine wpAny_setField_rec hz₇ (by simp) fun h₈ hz₈ hs₈ => ?_
  replace hz₈ : IsZip h₈ z TI TO (rawInt h₅.objs.size) := hz₈
  have up : ∀ c o, c ≠ z → h₅.get? c = some o → h₈.get? c = some o := fun c o c1 e => hs₈.extBut _ _ c1 (hs₇.extBut _ _ c1 (Heap.get?_push_of_some _ e))
  have hT₈ : IsPair h₈ h₅.objs.size x y := hs₈.extBut _ _ (Nat.ne_of_gt hzlt) (hs₇.extBut _ _ (Nat.ne_of_gt hzlt) (Heap.get?_push_size _ rfl))
  have hz8 : h₈.objs.size = h₅.objs.size + 1 := by rw [hs₈.1, hs₇.1, Heap.size_push]
  rw [hsz] at hz₈ hT₈ hz8
  refine wpAny_pure ⟨_, rfl, ?_⟩
  show Q (.ref h₅.objs.size) _
  rw [hsz]
  exact hQ h₈ hz₈ (up _ _ D.TOz hTO₅) (h1₅.at fun o e => up _ o D.i1z e) (h2₅.at fun o e => up _ o D.i2z e) hT₈ hz8 fun c o c1 c2 c3 c4 e => up c o c1 (hk₅ c o c1 c2 c3 c4 e)
theorem zipS_end {k1 k2 : SK} {z TI TO i1 i2 l1 l2 : Addr} {n1 n2 : Nat} {xs ys : Array Value} {a b : Value} {Q : Fin → Shared → Prop} (hh : A.handled = none) (D : ZipApart z TI TO i1 i2 l1 l2)
    (hz : IsZip s.heap z TI TO .none) (hTI : IsPair s.heap TI (.ref i1) (.ref i2)) (hTO : IsPair s.heap TO a b)
    (h1 : SIt k1 s.heap i1 l1 n1) (h2 : SIt k2 s.heap i2 l2 n2) (hl1 : SIs k1 s.heap l1 xs) (hl2 : SIs k2 s.heap l2 ys) (hend : xs[n1]? = none ∨ ys[n2]? = none)
    (hE : ∀ h' e, (∀ c o, c ≠ z → c ≠ TO → c ≠ i1 → c ≠ i2 → s.heap.get? c = some o → h'.get? c = some o) → (∃ o, h'.get? e = some o ∧ o.cls = .type "StopIteration") → E (.ref e) { s with heap := h' }) :
    wpAny (model prog w) A (Builtin.«zip.__next__» ⟨[.ref z], []⟩) Q E s := by
  show wpAny _ _ (field (.ref z) 2 >>= _) _ _ _
  refine wpAny_bind (wpAny_field hz rfl (x := .bool false) rfl ?_)
  show wpAny _ _ (field (.ref z) 3 >>= _) _ _ _
  refine wpAny_bind (wpAny_field hz rfl (x := .ref TI) rfl ?_)
  refine wpAny_bind (wpAny_seqItems hTI rfl ?_)
  show wpAny _ _ (Builtin.SmallTypes.ownedTupleIsFree (.ref z) >>= _) _ _ _
  refine wpAny_bind ?_
  unfold Builtin.SmallTypes.ownedTupleIsFree
  refine wpAny_bind (wpAny_field hz rfl (x := .none) rfl (wpAny_pure ?_))
  simp only [if_true]
  refine wpAny_bind (wpAny_rule ?_)
  refine wpAny_bind (wpAny_field hz rfl (x := .ref TO) rfl ?_)
  refine wpAny_bind (wpAny_setField_rec hz (by simp) fun h₁ hz₁ hs₁ => ?_)
  replace hz₁ : IsZip h₁ z TI TO .ellipsis := hz₁
  refine wpAny_bind ?_
  simp only [List.zipIdx_cons, List.zipIdx_nil, List.forIn_cons, List.forIn_nil]
  refine wpAny_bind (wpAny_bind (wpAny_onRaise ?_))
  show wpAny _ _ (Builtin.SmallTypes.nextOf (.ref i1) >>= _) _ _ _
  cases hx : xs[n1]? with
  | none =>
    refine wpAny_bind (nextOf_end hh (h1.ext hs₁.extBut D.i1z) (hl1.ext hs₁.extBut D.l1z) hx fun h₂ e hs₂ he => ?_)
    obtain ⟨oe, hoe, hce⟩ := he
    have hz₂ : IsZip h₂ z TI TO .ellipsis := hs₂ _ _ D.i1z.symm hz₁
    have hez : e ≠ z := fun x => by subst x; rw [hz₂] at hoe; cases hoe; simp at hce
    refine wpAny_setField_rec hz₂ (by simp) fun h₃ _ hs₃ => hE h₃ e (fun c o c1 _ c3 _ x => hs₃.extBut _ _ c1 (hs₂ _ _ c3 (hs₁.extBut _ _ c1 x))) ⟨oe, hs₃.extBut _ _ hez hoe, hce⟩
  | some x =>
    have hy : ys[n2]? = none := by rcases hend with h | h; rw [hx] at h; cases h; exact h
    refine wpAny_bind (nextOf_item (h1.ext hs₁.extBut D.i1z) (hl1.ext hs₁.extBut D.l1z) hx fun h₂ h1₂ hs₂ => wpAny_pure ?_)
    have hTO₂ : IsPair h₂ TO a b := hs₂.extBut _ _ D.TOi1 (hs₁.extBut _ _ D.TOz hTO)
    refine wpAny_bind (wpAny_seqItems hTO₂ rfl ?_)
    refine wpAny_bind (wpAny_updateSeq_pair hTO₂ fun h₃ hTO₃ hs₃ => ?_)
    refine wpAny_bind (wpAny_letGo (wpAny_pure ?_))
    refine wpAny_bind (wpAny_bind (wpAny_onRaise ?_))
    show wpAny _ _ (Builtin.SmallTypes.nextOf (.ref i2) >>= _) _ _ _
    refine wpAny_bind (nextOf_end hh (((h2.ext hs₁.extBut D.i2z).ext hs₂.extBut D.i12.symm).ext hs₃.extBut D.TOi2.symm)
      (((hl2.ext hs₁.extBut D.l2z).ext hs₂.extBut D.l2i1).ext hs₃.extBut D.l2TO) hy fun h₄ e hs₄ he => ?_)
    obtain ⟨oe, hoe, hce⟩ := he
    have hz₄ : IsZip h₄ z TI TO .ellipsis := hs₄ _ _ D.i2z.symm (hs₃.extBut _ _ D.TOz.symm (hs₂.extBut _ _ D.i1z.symm hz₁))
    have hez : e ≠ z := fun x => by subst x; rw [hz₄] at hoe; cases hoe; simp at hce
    refine wpAny_setField_rec hz₄ (by simp) fun h₅ _ hs₅ => hE h₅ e (fun c o c1 c2 c3 c4 x => hs₅.extBut _ _ c1 (hs₄ _ _ c4 (hs₃.extBut _ _ c2 (hs₂.extBut _ _ c3 (hs₁.extBut _ _ c1 x))))) ⟨oe, hs₅.extBut _ _ hez hoe, hce⟩
end
end L2
namespace L2
open PySem PySem.Spec PyProof.Rows
section
variable {X : Cx} {pins : List (Addr × Obj)} {σ : List (Option V)} {H H' : Hp} {s : Shared} {h' : Heap}
theorem Inv.turnedL {t' : Nat} {its : List Addr} (I : Inv X pins σ H s) (k : ∀ b o, b ∉ its → s.heap.get? b = some o → h'.get? b = some o) (hf : ∀ b ∈ its, FpOk X pins H b) : Inv X pins σ H { s with heap := h', toks := t' } := by
  have nit : ∀ b u, H b = some u → b ∉ its := fun b u e z => by rw [(hf b z).1] at e; cases e
  refine I.step (g' := s.gens) (d' := s.drawn) (ch := its) (fun b hb => ?_) (fun b o _ _ hc e _ => k b o hc e) (fun b o _ _ hc e _ => ⟨o.slots, k b o hc e⟩) (fun _ _ _ _ n => n)
    (fun b o hc e => ⟨o, k b o hc e⟩) (fun _ _ e => e) (fun _ _ _ e => e) (fun b ps e => ⟨#[], by rw [e]; simp⟩) (fun m hm => ?_) (fun b u e => ?_) I.bare
  · obtain ⟨f0, f1, f2, f3, f4, f5⟩ := hf b hb
    exact ⟨f3, f1, f4, f5⟩
  · obtain ⟨o, es, ep, ho, r⟩ := hm
    exact ⟨o, es, ep, k _ o (fun z => (hf _ z).2.1 rfl) ho, r⟩
  · refine (I.hok b u e).stay (fun c v hc q => k c v ?_ q) (fun _ q => q) fun _ _ q => q
    rcases hc with z | z
    · rw [z]; exact nit b u e
    · exact nit c _ z
theorem Inv.turnedNew {t' : Nat} {its : List Addr} {T : Addr} {o : HO} (I : Inv X pins σ H s) (k : ∀ b ob, b ∉ its → s.heap.get? b = some ob → h'.get? b = some ob) (hf : ∀ b ∈ its, FpOk X pins H b)
    (hT : s.heap.objs.size ≤ T) (new : ObjOk X.prog X.w (upd H T o) h' T o) : Inv X pins σ (upd H T o) { s with heap := h', toks := t' } := by
  have nit : ∀ b u, H b = some u → b ∉ its := fun b u e z => by rw [(hf b z).1] at e; cases e
  have hn : H T = none := I.hok.fresh hT
  have neT : ∀ b ob, s.heap.get? b = some ob → b ≠ T := fun b ob e => Nat.ne_of_lt (Nat.lt_of_lt_of_le (Heap.lt_size e) hT)
  have up : ∀ b u, H b = some u → upd H T o b = some u := fun b u e => by rw [upd_ne (ne_of_none e hn)]; exact e
  refine I.step (g' := s.gens) (d' := s.drawn) (ch := its) (fun b hb => ?_) (fun b ob _ _ hc e _ => k b ob hc e) (fun b ob _ _ hc e _ => ⟨ob.slots, k b ob hc e⟩) (fun b ob _ e n => by rw [upd_ne (neT b ob e)]; exact n)
    (fun b ob hc e => ⟨ob, k b ob hc e⟩) (fun b _ e => up b _ e) (fun b _ _ e => up b _ e) (fun b ps e => ⟨#[], by rw [up b _ e]; simp⟩) (fun m hm => ?_) (fun b u e => ?_) I.bare
  · obtain ⟨f0, f1, f2, f3, f4, f5⟩ := hf b hb
    exact ⟨f3, f1, f4, f5⟩
  · obtain ⟨ob, es, ep, ho, r⟩ := hm
    exact ⟨ob, es, ep, k _ ob (fun z => (hf _ z).2.1 rfl) ho, r⟩
  · by_cases hb : b = T
    · subst hb; rw [upd_same] at e; cases e; exact new
    · rw [upd_ne hb] at e
      refine (I.hok b u e).stay (fun c v hc q => k c v ?_ q) (fun c q => up c _ q) fun c xs q => up c _ q
      rcases hc with z | z
      · rw [z]; exact nit b u e
      · exact nit c _ z
end
theorem Inv.sis {X : Cx} {pins : List (Addr × Obj)} {σ : St} {H : Hp} {s : Shared} {k : SK} {a : Addr} {xs : List V} (I : Inv X pins σ H s) (h : Sq k X.K H a xs) : ∃ its : List Value, Vals xs its ∧ SIs k s.heap a its.toArray := by
  cases k with
  | list => obtain ⟨its, r, p, _⟩ := I.list h; exact ⟨its, r, p.isList⟩
  | tuple => obtain ⟨its, r, p, _⟩ := I.tuple h; exact ⟨its, r, (show s.heap.IsTuple a its.toArray from p)⟩
theorem Inv.sq_inj {X : Cx} {pins : List (Addr × Obj)} {σ : St} {H : Hp} {s : Shared} {k : SK} {a : Addr} {xs ys : List V} (I : Inv X pins σ H s) (h : Sq k X.K H a xs) (h' : Sq k X.K H a ys) : xs = ys := by
  cases k with
  | list => exact I.list_inj h h'
  | tuple => exact I.tuple_inj h h'
def Itz (K : PySem.W.Frag) (k1 k2 : SK) (a b : Addr) : It :=
  ⟨fun i H => ∃ xs ys x y, Sq k1 K H a xs ∧ Sq k2 K H b ys ∧ xs[i]? = some x ∧ ys[i]? = some y,
   fun i H v H' => ∃ T, H T = none ∧ v = .ref T ∧ ∀ xs ys, Sq k1 K H a xs → Sq k2 K H b ys → ∃ x y, xs[i]? = some x ∧ ys[i]? = some y ∧ H' = upd H T (.tup [x, y]),
   fun i H => ∃ xs ys, Sq k1 K H a xs ∧ Sq k2 K H b ys ∧ (xs.length ≤ i ∨ ys.length ≤ i)⟩
theorem turn_zip {P : Program} {w : World} {K : PySem.W.Frag} {elts : List Expr} {kk : Nat} {tpos : Pos} {k1 k2 : SK} {z TI TO i1 i2 a b : Addr} (D : ZipApart z TI TO i1 i2 a b) :
    Turn P w K (.Tuple elts kk tpos) (Itz K k1 k2 a b) [z, TI, TO, i1, i2] z (fun i h => IsZip h z TI TO .none ∧ IsPair h TI (.ref i1) (.ref i2) ∧ (∃ c d, IsPair h TO c d) ∧ SIt k1 h i1 a i ∧ SIt k2 h i2 b i) where
  mem := by simp
  obj := fun i h st b hb => by
    obtain ⟨hz, hTI, ⟨c, d, hTO⟩, h1, h2⟩ := st
    simp only [List.mem_cons, List.not_mem_nil, or_false] at hb
    rcases hb with rfl | rfl | rfl | rfl | rfl
    · exact ⟨_, hz, fun v q => nomatch q⟩
    · exact ⟨_, hTI, fun v q => nomatch q⟩
    · exact ⟨_, hTO, fun v q => nomatch q⟩
    · exact h1.obj
    · exact h2.obj
  keep := fun i h h' st k => by
    obtain ⟨hz, hTI, ⟨c, d, hTO⟩, h1, h2⟩ := st
    exact ⟨k _ (by simp) _ hz, k _ (by simp) _ hTI, ⟨c, d, k _ (by simp) _ hTO⟩, h1.at fun o e => k _ (by simp) o e, h2.at fun o e => k _ (by simp) o e⟩
  item := by
    intro X hP hw hK hc i pins s σ H E I hf st hg
    subst hP hw hK
    obtain ⟨hz, hTI, ⟨c, d, hTO⟩, h1, h2⟩ := st
    obtain ⟨xs, ys, x, y, q1, q2, hx, hy⟩ := hg
    obtain ⟨ix, rx, px⟩ := I.sis q1
    obtain ⟨iy, ry, py⟩ := I.sis q2
    obtain ⟨u, hu, ru⟩ := rx.get hx
    obtain ⟨v, hv, rv⟩ := ry.get hy
    have hT : s.TypeIs (.ref z) "zip" := ⟨_, hz, rfl⟩
    unfold pyNext
    refine wpAny_bind (wpAny_attempt (wpAny_callSpecial?_slot (name := Str.ofString "__next__") hT F.slot_zip_next
      (wpAny_call_entry F.slot_zip_next hT F.entry_zip_next
        (zipS_item D hz hTI hTO h1 h2 px py (x := u) (y := v) (by simpa using hu) (by simpa using hv) fun h' a1 a2 a3 a4 a5 a6 a7 => wpAny_pure ?_) (F.args_zip_next_1 _))))
    refine ⟨_, rfl, wpAny_letOwnedTupleGo_zip (s := { s with heap := h' }) a1 fun h'' b1 b2 => ?_⟩
    have zlt : z < s.heap.objs.size := Heap.lt_size hz
    have k2 : ∀ c o, c ∉ [z, TI, TO, i1, i2] → s.heap.get? c = some o → h''.get? c = some o := fun c o hc e => by
      simp only [List.mem_cons, List.not_mem_nil, or_false, not_or] at hc
      exact b2.extBut _ _ hc.1 (a7 c o hc.1 hc.2.2.1 hc.2.2.2.1 hc.2.2.2.2 e)
    have hT2 : IsPair h'' s.heap.objs.size u v := b2.extBut _ _ (Nat.ne_of_gt zlt) a5
    refine ⟨.ref s.heap.objs.size, upd H s.heap.objs.size (.tup [x, y]), I.turnedNew (t' := s.toks) (o := .tup [x, y]) k2 hf (Nat.le_refl _) ⟨by show 2 ≤ sizeLine; decide, [u, v], .cons ru (.cons rv .nil), ⟨_, hT2, rfl, _, rfl⟩⟩, rfl,
      ⟨_, I.hok.fresh (Nat.le_refl _), rfl, fun xs' ys' e1 e2 => ?_⟩, ⟨b1, ?_, ⟨_, _, b2.extBut _ _ D.TOz a2⟩, a3.at fun o e => b2.extBut _ _ D.i1z e, a4.at fun o e => b2.extBut _ _ D.i2z e⟩, fun b hb => ?_⟩
    · rw [I.sq_inj e1 q1, I.sq_inj e2 q2]
      exact ⟨x, y, hx, hy, rfl⟩
    · exact b2.extBut _ _ D.TIz (a7 _ _ D.TIz D.TITO D.TIi1 D.TIi2 hTI)
    · have blt : b < s.heap.objs.size := by
        simp only [List.mem_cons, List.not_mem_nil, or_false] at hb
        rcases hb with rfl | rfl | rfl | rfl | rfl
        · exact zlt
        · exact Heap.lt_size hTI
        · exact Heap.lt_size hTO
        · obtain ⟨o, e, _⟩ := h1.obj; exact Heap.lt_size e
        · obtain ⟨o, e, _⟩ := h2.obj; exact Heap.lt_size e
      rw [upd_ne (Nat.ne_of_lt blt)]
      exact (hf b hb).1
  done := by
    intro X hP hw hK hc i pins s σ H E I hf st hg
    subst hP hw hK
    obtain ⟨hz, hTI, ⟨c, d, hTO⟩, h1, h2⟩ := st
    obtain ⟨xs, ys, q1, q2, hl⟩ := hg
    obtain ⟨ix, rx, px⟩ := I.sis q1
    obtain ⟨iy, ry, py⟩ := I.sis q2
    have l1 := rx.length
    have l2 := ry.length
    have hend : ix.toArray[i]? = none ∨ iy.toArray[i]? = none := by
      rcases hl with h | h
      · exact .inl (by simp; omega)
      · exact .inr (by simp; omega)
    have hT : s.TypeIs (.ref z) "zip" := ⟨_, hz, rfl⟩
    unfold pyNext
    refine wpAny_bind (wpAny_attempt (wpAny_callSpecial?_slot (name := Str.ofString "__next__") hT F.slot_zip_next
      (wpAny_call_entry F.slot_zip_next hT F.entry_zip_next (zipS_end (I.ok.hd hc) D hz hTI hTO h1 h2 px py hend fun h' e hk he => ?_) (F.args_zip_next_1 _))))
    obtain ⟨o, ho, hc'⟩ := he
    refine wpAny_bind (wpAny_isInstance (T := "StopIteration") (b := true) ⟨o, ho, hc'⟩ isSubtype_stop ?_)
    refine wpAny_pure ⟨rfl, I.turnedL (t' := s.toks) (its := [z, TI, TO, i1, i2]) (fun b o hb e => ?_) hf⟩
    simp only [List.mem_cons, List.not_mem_nil, or_false, not_or] at hb
    exact hk b o hb.1 hb.2.2.1 hb.2.2.2.1 hb.2.2.2.2 e
  self := fun _ _ _ _ _ st h => wpAny_pyIter_zip st.1 h
end L2
namespace L2
open PySem PySem.Spec PyProof.Rows
def itObj (k : SK) (l : Addr) : Obj := match k with
  | .list => { cls := .type "list_iterator", data := .fields #[.ref l, .int 0 0] }
  | .tuple => { cls := .type "tuple_iterator", data := .fields #[.ref l, .int 0 0] }
theorem itObj_it {k : SK} {l it : Addr} {h : Heap} (e : h.get? it = some (itObj k l)) : SIt k h it l 0 := by
  cases k with
  | list => exact ⟨_, e, rfl, rfl⟩
  | tuple => exact ⟨_, e, rfl, rfl⟩
abbrev zS1 (h : Heap) (k1 : SK) (l1 : Addr) : Heap := h.push (itObj k1 l1)
abbrev zS2 (h : Heap) (k1 k2 : SK) (l1 l2 : Addr) : Heap := (zS1 h k1 l1).push (itObj k2 l2)
abbrev zS3 (h : Heap) (k1 k2 : SK) (l1 l2 : Addr) : Heap := (zS2 h k1 k2 l1 l2).push { cls := .type "tuple", data := .seq #[.ref h.objs.size, .ref (zS1 h k1 l1).objs.size] }
abbrev zS4 (h : Heap) (k1 k2 : SK) (l1 l2 : Addr) : Heap := (zS3 h k1 k2 l1 l2).push { cls := .type "tuple", data := .seq #[.none, .none] }
abbrev zS5 (h : Heap) (k1 k2 : SK) (l1 l2 : Addr) : Heap := (zS4 h k1 k2 l1 l2).push { cls := .type "zip", data := .fields #[.none, .bool false, .bool false, .ref (zS2 h k1 k2 l1 l2).objs.size, .ref (zS3 h k1 k2 l1 l2).objs.size] }
set_option maxHeartbeats 4000000 in
theorem meets_zipS_new (k1 k2 : SK) (l1 l2 : Addr) (xs ys : Array Value) :
    Meets (Builtin.«zip.__new__» ⟨[.type "zip", .ref l1, .ref l2], []⟩) (fun _ R s => SIs k1 s.heap l1 xs ∧ SIs k2 s.heap l2 ys ∧
      R (.ok (.ret (.ref (zS4 s.heap k1 k2 l1 l2).objs.size))) { s with heap := zS5 s.heap k1 k2 l1 l2 }) := by
  cases k1 with
  | list =>
    cases k2 with
    | list =>
      exact .of_wp fun prog w A R s h => by
        obtain ⟨hp, g, d, tk, os⟩ := s; obtain ⟨hl1, hl2, h⟩ := h
        have hsub := sub_zip
        have hL1 : Heap.IsList (Shared.heap ⟨hp, g, d, tk, os⟩) l1 xs := hl1
        have hL2 : Heap.IsList (Shared.heap ⟨hp.push { cls := .type "list_iterator", data := .fields #[.ref l1, .int 0 0] }, g, d, tk, os⟩) l2 ys := Heap.IsList.push hl2 _
        wp_walk using wpAny_pyIter_list hL1, wpAny_pyIter_list hL2
        exact ⟨_, rfl, h⟩
    | tuple =>
      exact .of_wp fun prog w A R s h => by
        obtain ⟨hp, g, d, tk, os⟩ := s; obtain ⟨hl1, hl2, h⟩ := h
        have hsub := sub_zip
        have hL1 : Heap.IsList (Shared.heap ⟨hp, g, d, tk, os⟩) l1 xs := hl1
        have hL2 : Heap.IsTuple (Shared.heap ⟨hp.push { cls := .type "list_iterator", data := .fields #[.ref l1, .int 0 0] }, g, d, tk, os⟩) l2 ys := SIs.at (k := .tuple) hl2 fun o e => Heap.get?_push_of_some _ e
        wp_walk using wpAny_pyIter_list hL1, wpAny_pyIter_tuple hL2
        exact ⟨_, rfl, h⟩
  | tuple =>
    cases k2 with
    | list =>
      exact .of_wp fun prog w A R s h => by
        obtain ⟨hp, g, d, tk, os⟩ := s; obtain ⟨hl1, hl2, h⟩ := h
        have hsub := sub_zip
        have hL1 : Heap.IsTuple (Shared.heap ⟨hp, g, d, tk, os⟩) l1 xs := hl1
        have hL2 : Heap.IsList (Shared.heap ⟨hp.push { cls := .type "tuple_iterator", data := .fields #[.ref l1, .int 0 0] }, g, d, tk, os⟩) l2 ys := SIs.at (k := .list) hl2 fun o e => Heap.get?_push_of_some _ e
        wp_walk using wpAny_pyIter_tuple hL1, wpAny_pyIter_list hL2
        exact ⟨_, rfl, h⟩
    | tuple =>
      exact .of_wp fun prog w A R s h => by
        obtain ⟨hp, g, d, tk, os⟩ := s; obtain ⟨hl1, hl2, h⟩ := h
        have hsub := sub_zip
        have hL1 : Heap.IsTuple (Shared.heap ⟨hp, g, d, tk, os⟩) l1 xs := hl1
        have hL2 : Heap.IsTuple (Shared.heap ⟨hp.push { cls := .type "tuple_iterator", data := .fields #[.ref l1, .int 0 0] }, g, d, tk, os⟩) l2 ys := SIs.at (k := .tuple) hl2 fun o e => Heap.get?_push_of_some _ e
        wp_walk using wpAny_pyIter_tuple hL1, wpAny_pyIter_tuple hL2
        exact ⟨_, rfl, h⟩
section
variable {prog : Program} {w : World} {A : Around} {E : Value → Shared → Prop} {s : Shared}
theorem call_zipS {k1 k2 : SK} {l1 l2 : Addr} {xs ys : Array Value} {Q : Value → Shared → Prop} (hl1 : SIs k1 s.heap l1 xs) (hl2 : SIs k2 s.heap l2 ys)
    (h : ∀ h', IsZip h' (s.heap.objs.size + 4) (s.heap.objs.size + 2) (s.heap.objs.size + 3) .none → IsPair h' (s.heap.objs.size + 2) (.ref s.heap.objs.size) (.ref (s.heap.objs.size + 1)) →
      IsPair h' (s.heap.objs.size + 3) .none .none → SIt k1 h' s.heap.objs.size l1 0 → SIt k2 h' (s.heap.objs.size + 1) l2 0 →
      (∀ c o, s.heap.get? c = some o → h'.get? c = some o) → Q (.ref (s.heap.objs.size + 4)) { s with heap := h' }) :
    wpAny (model prog w) A (call (.type "zip") [.ref l1, .ref l2]) Q E s := by
  refine callType_new F.called_zip (by decide) (F.typeCall_zip_2 _ _) (F.newCall_zip_2 _ _) (fun obj => F.args_object_init_3 obj _ _) F.entry_zip_new
    (meets_zipS_new k1 k2 l1 l2 xs ys) ⟨hl1, hl2, ?_⟩
  have z1 : (zS1 s.heap k1 l1).objs.size = s.heap.objs.size + 1 := Heap.size_push ..
  have z2 : (zS2 s.heap k1 k2 l1 l2).objs.size = s.heap.objs.size + 2 := by rw [Heap.size_push, z1]
  have z3 : (zS3 s.heap k1 k2 l1 l2).objs.size = s.heap.objs.size + 3 := by rw [Heap.size_push, z2]
  have z4 : (zS4 s.heap k1 k2 l1 l2).objs.size = s.heap.objs.size + 4 := by rw [Heap.size_push, z3]
  have r1 : (itObj k1 l1).isFreed = false := by cases k1 <;> rfl
  have r2 : (itObj k2 l2).isFreed = false := by cases k2 <;> rfl
  have g5 : (zS5 s.heap k1 k2 l1 l2).get? (zS4 s.heap k1 k2 l1 l2).objs.size = some _ := Heap.get?_push_size _ rfl
  have g4 : (zS5 s.heap k1 k2 l1 l2).get? (zS3 s.heap k1 k2 l1 l2).objs.size = some _ := Heap.get?_push_of_some _ (Heap.get?_push_size _ rfl)
  have g3 : (zS5 s.heap k1 k2 l1 l2).get? (zS2 s.heap k1 k2 l1 l2).objs.size = some _ := Heap.get?_push_of_some _ (Heap.get?_push_of_some _ (Heap.get?_push_size _ rfl))
  have g2 : (zS5 s.heap k1 k2 l1 l2).get? (zS1 s.heap k1 l1).objs.size = some _ := Heap.get?_push_of_some _ (Heap.get?_push_of_some _ (Heap.get?_push_of_some _ (Heap.get?_push_size _ r2)))
  have g1 : (zS5 s.heap k1 k2 l1 l2).get? s.heap.objs.size = some _ := Heap.get?_push_of_some _ (Heap.get?_push_of_some _ (Heap.get?_push_of_some _ (Heap.get?_push_of_some _ (Heap.get?_push_size _ r1))))
  show _ ∧ _
  rw [z2, z3, z4] at g5
  rw [z1, z2] at g3
  rw [z3] at g4
  rw [z1] at g2
  rw [z4]
  exact ⟨⟨_, g5, rfl⟩, h _ g5 g3 g4 (itObj_it g1) (itObj_it g2) fun c o x =>
    Heap.get?_push_of_some _ (Heap.get?_push_of_some _ (Heap.get?_push_of_some _ (Heap.get?_push_of_some _ (Heap.get?_push_of_some _ x))))⟩
end
section
variable {X : Cx} {elts : List Expr} {kk : Nat} {tpos : Pos}
def iZip (K : PySem.W.Frag) (k1 k2 : SK) (ta : TA) : TI := fun σ H R => ta σ H fun vs H1 => ∃ a b, vs = [.ref a, .ref b] ∧ (∃ xs, Sq k1 K H1 a xs) ∧ (∃ ys, Sq k2 K H1 b ys) ∧ R (Itz K k1 k2 a b) H1
theorem pi_zip (k1 k2 : SK) {a b : Expr} {ta : TA} {p pos : Pos} (hg : Gl X "zip") (hm : X.mg "zip" = none) (ha : PA X [a, b] ta) (hs : starEach [a, b] X.env = [(false, eval a X.env), (false, eval b X.env)] := by rfl) (hs2 : starEach [b] X.env = [(false, eval b X.env)] := by rfl) :
    PI X (.Tuple elts kk tpos) (.Call (.Name "zip" p) [a, b] [] pos) (iZip X.K k1 k2 ta) := by
  intro pins s σ H R I h
  refine Call_ (ld_blt I hg hm boot_zip (PyProof.Rows.callWith_type1 (thn (ha pos pins s σ H _ I h) fun us s1 ⟨vs, H1, I1, r1, q1⟩ => ?_) (by rw [hs, hs2]) (by rw [hs2]; rfl)))
  obtain ⟨a', b', e, ⟨xs, qx⟩, ⟨ys, qy⟩, q⟩ := q1
  subst e
  obtain ⟨u, v, rfl, ru, rv⟩ := vals2 r1
  cases ru
  cases rv
  obtain ⟨ix, rx, px⟩ := I1.sis qx
  obtain ⟨iy, ry, py⟩ := I1.sis qy
  refine call_zipS px py fun h' b1 b2 b3 b4 b5 b6 => wpAny_pyIter_zip (s := { s1 with heap := h' }) b1 ?_
  have nn : ∀ b, s1.heap.objs.size ≤ b → FpOk X pins H1 b := fun b hb => I1.fpOk hb (I1.hok.fresh hb)
  refine ⟨_, [s1.heap.objs.size + 4, s1.heap.objs.size + 2, s1.heap.objs.size + 3, s1.heap.objs.size, s1.heap.objs.size + 1], _, _, H1, rfl, I1.kept (t' := s1.toks) b6, turn_zip (k1 := k1) (k2 := k2) (zipApart_new px.lt py.lt), ⟨b1, b2, ⟨_, _, b3⟩, b4, b5⟩, fun b hb => ?_, q⟩
  simp only [List.mem_cons, List.not_mem_nil, or_false] at hb
  rcases hb with rfl | rfl | rfl | rfl | rfl
  · exact nn _ (Nat.le_add_right _ _)
  · exact nn _ (Nat.le_add_right _ _)
  · exact nn _ (Nat.le_add_right _ _)
  · exact nn _ (Nat.le_refl _)
  · exact nn _ (Nat.le_add_right _ _)
end
end L2

namespace L2
open PySem PySem.Spec PyProof.Rows PySem.Builtin PySem.Builtin.Str
section
variable {X : Cx}
def rSlS : V → Option Int → Option Int → Hp → VK → Prop := fun x lo hi H Q => ∃ z, x = .str z ∧ z.length ≤ sizeLine ∧ Q (.str (Txt.slice z lo hi)) H
def rMulS : R2 := fun x y H Q => ∃ c n, x = .str ⟨#[c]⟩ ∧ y = .int n ∧ 1 ≤ n ∧ n ≤ 1000 ∧ ∀ z : Str, z.cps.toList = List.replicate n.toNat c → Q (.str z) H
def rJoin (K : PySem.W.Frag) : V → List V → Hp → VK → Prop := fun x vs H Q => ∃ sep p ys, x = .str sep ∧ vs = [.ref p] ∧ SqL K H p (ys.map V.str) ∧ (ys.map (·.length)).sum + ys.length * sep.length ≤ 16777216 ∧ Q (.str (Str.join sep ys)) H
def rSplit : V → List V → Hp → VK → Prop := fun x vs H Q => ∃ z y, x = .str z ∧ vs = [.str y] ∧ y.length ≠ 0 ∧ z.length + 2 ≤ sizeLine ∧ ∀ p, H p = none → Q (.ref p) (upd H p (.lst ((Txt.split z y).map V.str)))
def rIsT (K : PySem.W.Frag) : List V → Hp → VK → Prop := fun xs H Q => ∃ x T t b, xs = [x, .ty T] ∧ TyOf K H x t ∧ PySem.W.kitOne K t (.type T) = some b ∧ Q (.bl b) H
theorem call_isT : CallR X (.builtin "isinstance") (rIsT X.K) := by
  intro pins s σ H xs us Q I r h
  obtain ⟨x, T, t, b, rfl, ty, e, q⟩ := h
  obtain ⟨u, v, rfl, ru, rv⟩ := vals2 r
  cases rv
  exact isinst_ok I ru ty e fun tk => ⟨.bl b, H, I.tok _, rfl, q⟩
example (K : PySem.W.Frag) : PySem.W.kitOne K (.type "int") (.type "int") = some true := rfl
example (K : PySem.W.Frag) : PySem.W.kitOne K (.type "str") (.type "int") = some false := rfl
example (K : PySem.W.Frag) : PySem.W.kitOne K (.type "tuple") (.type "int") = some false := rfl
example (K : PySem.W.Frag) : PySem.W.kitOne K (.type "bool") (.type "int") = some true := rfl
end
end L2
namespace L2
open PySem PySem.Spec PyProof.Rows
end L2

namespace L2
open PySem PySem.Spec PyProof.Rows
def ent (w : World) (x : Str × Tok × Value) : DictEntry := ⟨hashStr w x.1, .str x.1 x.2.1, x.2.2⟩
structure KD (P : Program) (w : World) (K : PySem.W.Frag) (a : Addr) (kvs : List (Key × V)) : Prop where
  ex : ∃ (o : Obj) (es : Array DictEntry) (ep : Nat) (vs : List (Key × Value)), K.lookup a = some o ∧ o.ExactDict ∧ o.data = .dict es ep ∧ KeysOf (mixKind P w) es ∧ Pairs (mixKind P w) es.toList vs ∧ (vs.map (·.1)).Nodup ∧ KV kvs vs
  ns : (a == sysModules) = false
def DK (P : Program) (w : World) (K : PySem.W.Frag) (H : Hp) (a : Addr) (kvs : List (Key × V)) : Prop := Rd H a (.dK kvs) ∨ KD P w K a kvs
section
variable {X : Cx}
def rIxD (X : Cx) : R2 := fun x y H Q => ∃ a kvs k v, x = .ref a ∧ y = kV k ∧ DK X.prog X.w X.K H a kvs ∧ valV kvs k = some v ∧ Q v H
def rInD (X : Cx) (neg : Bool) : R2 := fun x y H Q => ∃ a kvs k, y = .ref a ∧ x = kV k ∧ DK X.prog X.w X.K H a kvs ∧ Q (.bl (if neg then !(valV kvs k).isSome else (valV kvs k).isSome)) H
end
end L2

namespace L2
open PySem PySem.Spec PyProof.Rows
structure Pr (p : Prop) : Prop where
  h : p
section
variable {X : Cx}
theorem qpe_var {i : Nat} {x : Str} {pos : Pos} (hN : X.N[i]? = some x) (hv : Vis X.env.scope x) (hd : (x == ("__debug__" : Str)) = false := by decide) (hcd : (x == ("__classdict__" : Str)) = false := by decide) : Pr (PE X (.Name x pos) (tVar i)) := ⟨pe_var hN hv hd hcd⟩
end
section
variable {X : Cx}
theorem qpe_int {i j pos} : Pr (PE X (.Constant (.int i) j pos) (tC (.int i))) := ⟨pe_int⟩
end
section
variable {X : Cx}
theorem qpe_bl {b j pos} : Pr (PE X (.Constant (.bool b) j pos) (tC (.bl b))) := ⟨pe_bl⟩
end
section
variable {X : Cx}
theorem qpe_non {j pos} : Pr (PE X (.Constant .none j pos) (tC .non)) := ⟨pe_non⟩
end
section
variable {X : Cx}
theorem qpe_str {x j pos} : Pr (PE X (.Constant (.str x) j pos) (tC (.str x))) := ⟨pe_str⟩
end
section
variable {X : Cx}
end
section
variable {X : Cx}
theorem qpe_bltn {x : Str} {v : V} {u : Value} {pos : Pos} (hg : Gl X x) (hm : X.mg x = none) (hv : bootBuiltins x = some u) (r : RelV v u) (hn : x ≠ "__name__" := by decide) (hd : (x == ("__debug__" : Str)) = false := by decide) : Pr (PE X (.Name x pos) (tC v)) := ⟨pe_bltn hg hm hv r hn hd⟩
end
section
variable {X : Cx} {a b c : Expr} {ta tb tc : TE} {pos : Pos}
theorem qpe_op {op : Operator} {r : R2} (ho : OpR X (binaryOp op) r) (ha : Pr (PE X a ta)) (hb : Pr (PE X b tb)) : Pr (PE X (.BinOp a op b pos) (tOp r ta tb)) := ⟨pe_op ho ha.h hb.h⟩
end
section
variable {X : Cx} {a b c : Expr} {ta tb tc : TE} {pos : Pos}
theorem qpe_un {op : UnaryOp} {r : V → Hp → VK → Prop} (ho : UnR X (unaryOp op) r) (ha : Pr (PE X a ta)) : Pr (PE X (.UnaryOp op a pos) (tUn r ta)) := ⟨pe_un ho ha.h⟩
end
section
variable {X : Cx} {a b c : Expr} {ta tb tc : TE} {pos : Pos}
theorem qpe_cmpR {op : CmpOp} {r : R2} (ho : OpR X (compareOp op) r) (ha : Pr (PE X a ta)) (hb : Pr (PE X b tb)) (hm : behindInMarks op b = false) : Pr (PE X (.Compare a [op] [b] pos) (tOp r ta tb)) := ⟨pe_cmpR ho ha.h hb.h hm⟩
end
section
variable {X : Cx} {a b c : Expr} {ta tb tc : TE} {pos : Pos}
theorem qpe_chain {op op' : CmpOp} {r r' : R2} (ho : OpR X (compareOp op) r) (ho' : OpR X (compareOp op') r') (ha : Pr (PE X a ta)) (hb : Pr (PE X b tb)) (hc : Pr (PE X c tc)) (hm : lastMarks [op, op'] [b, c] = false := by with_unfolding_all rfl) : Pr (PE X (.Compare a [op, op'] [b, c] pos) (tChain r r' ta tb tc)) := ⟨pe_chain ho ho' ha.h hb.h hc.h hm⟩
end
section
variable {X : Cx}
variable {a b : Expr} {ta tb : TE} {pos : Pos}
variable {tA tB' : TT} {rest : List Expr}
theorem qpe_and (ha : Pr (PE X a ta)) (hb : Pr (PE X (.BoolOp .And (b :: rest) pos) tb)) : Pr (PE X (.BoolOp .And (a :: b :: rest) pos) (tAndV ta tb)) := ⟨pe_and ha.h hb.h⟩
end
section
variable {X : Cx}
variable {a b : Expr} {ta tb : TE} {pos : Pos}
variable {tA tB' : TT} {rest : List Expr}
end
section
variable {X : Cx}
variable {a b : Expr} {ta tb : TE} {pos : Pos}
variable {tA tB' : TT} {rest : List Expr}
theorem qpe_one {op} {t : TE} (h : Pr (PE X a t)) : Pr (PE X (.BoolOp op [a] pos) t) := ⟨pe_one h.h⟩
end
section
variable {X : Cx}
variable {a b : Expr} {ta tb : TE} {pos : Pos}
variable {tA tB' : TT} {rest : List Expr}
theorem qpe_not (ha : Pr (PE X a ta)) : Pr (PE X (.UnaryOp .Not a pos) (tNotV ta)) := ⟨pe_not ha.h⟩
end
section
variable {X : Cx}
variable {a b : Expr} {ta tb : TE} {pos : Pos}
variable {tA tB' : TT} {rest : List Expr}
end
section
variable {X : Cx} {e : Expr} {es : List Expr} {te : TE} {t : TA} {pos : Pos}
theorem qpe_tup {x1} (h : Pr (PA X es t)) : Pr (PE X (.Tuple es x1 pos) (tTup t)) := ⟨pe_tup h.h⟩
end
section
variable {X : Cx} {e : Expr} {es : List Expr} {te : TE} {t : TA} {pos : Pos}
theorem qpe_lst (h : Pr (PA X es t)) : Pr (PE X (.List es pos) (tLst t)) := ⟨pe_lst h.h⟩
end
section
variable {X : Cx} {e : Expr} {te : TE} {lo hi : Option Expr} {tl th : TO} {pos p2 : Pos}
end
section
variable {X : Cx} {a b : Expr} {ta tb : TE} {pos : Pos}
theorem qpe_ix {r : R2} (hr : IxR X r) (ha : Pr (PE X a ta)) (hb : Pr (PE X b tb)) (hs : PlainIx b) : Pr (PE X (.Subscript a b pos) (tOp r ta tb)) := ⟨pe_ix hr ha.h hb.h hs⟩
end
section
variable {X : Cx}
end
section
variable {X : Cx} {o e value : Expr} {f : Str} {pos pos' tpos : Pos} {ta tv : TE}
theorem qpe_fld (he : Pr (PE X e ta)) (hb : attributeBase e f X.env (eval e X.env) = eval e X.env) : Pr (PE X (.Attribute e f pos) (tFld X.K ta f)) := ⟨pe_fld he.h hb⟩
end
section
variable {X : Cx} {CX : CXT} {k : Nat} {ps : List Str} {sp : Sp} {E : XK} {x : Str} {p pos : Pos} {e : Expr} {es : List Expr} {t : TA}
theorem qpe_callD (D : DefOk X.prog X.w X.K X.mg X.base CX k x ps sp) (hr : Room k X.A) (hg : Gl X x) (hx : Passes CX X E) (ha : Pr (PA X (e :: es) t)) (hdb : (x == ("__debug__" : Str)) = false := by decide) (he : starEach (e :: es) X.env = (false, eval e X.env) :: starEach es X.env := by rfl) (hpl : (backTo pos (starEach es X.env)).any (·.1) = false := by rfl) : Pr (PE X (.Call (.Name x p) (e :: es) [] pos) (tCall sp [] E t)) := ⟨pe_callD D hr hg hx ha.h hdb he hpl⟩
end
section
variable {X : Cx} {CX : CXT} {k : Nat} {ps : List Str} {sp : Sp} {E : XK} {x : Str} {p pos : Pos} {e : Expr} {es : List Expr} {t : TA}
end
section
variable {X : Cx} {x : Str} {p pos : Pos} {e : Expr} {es : List Expr} {t : TA} {id T : String} {r : List V → Hp → VK → Prop}
theorem qpe_callB (hc : CallR X (.builtin id) r) (hg : Gl X x) (hm : X.mg x = none) (hv : bootBuiltins x = some (.builtin id)) (ha : Pr (PA X (e :: es) t)) (hn : x ≠ "__name__" := by decide) (hdb : (x == ("__debug__" : Str)) = false := by decide) (he : starEach (e :: es) X.env = (false, eval e X.env) :: starEach es X.env := by rfl) (hpl : (backTo pos (starEach es X.env)).any (·.1) = false := by rfl) : Pr (PE X (.Call (.Name x p) (e :: es) [] pos) (tCB r t)) := ⟨pe_callB hc hg hm hv ha.h hn hdb he hpl⟩
end
section
variable {X : Cx} {x : Str} {p pos : Pos} {e : Expr} {es : List Expr} {t : TA} {id T : String} {r : List V → Hp → VK → Prop}
theorem qpe_callTy (hc : CallR X (.type T) r) (hg : Gl X x) (hm : X.mg x = none) (hv : bootBuiltins x = some (.type T)) (ha : Pr (PA X (e :: es) t)) (hn : x ≠ "__name__" := by decide) (hdb : (x == ("__debug__" : Str)) = false := by decide) (he : starEach (e :: es) X.env = (false, eval e X.env) :: starEach es X.env := by rfl) (hpl : (backTo pos (starEach es X.env)).any (·.1) = false := by rfl) : Pr (PE X (.Call (.Name x p) (e :: es) [] pos) (tCB r t)) := ⟨pe_callTy hc hg hm hv ha.h hn hdb he hpl⟩
end
section
variable {X : Cx} {a b : Expr} {ta tb : TE} {pos : Pos}
variable {o e : Expr} {es : List Expr} {to : TE} {t : TA} {name : Str} {apos cpos : Pos} {T id : String} {r : V → List V → Hp → VK → Prop}
theorem qpe_bm (pa : PlainAttrs T) (slot : Slot T name id) (hty : typeOf (.builtin id) = pure (.type "method_descriptor")) (hm : MtR X id r) (ho : Pr (PE X o to)) (ha : Pr (PA X (e :: es) t)) (hbase : attributeBase o name X.env (eval o X.env) = eval o X.env := by rfl) (hfew : ((backTo cpos (starEach (e :: es) X.env)).all (fun x => !x.1) && (backToKw cpos (keywordEach [] X.env)).all (fun x => x.1.isSome)
      && decide ((e :: es).length + ([] : List Keyword).length + (if ([] : List Keyword).isEmpty then 0 else 1) < 30)) = true := by rfl) (hline : (apos.endLine == cpos.line) = true := by rfl) (hs : starEach (e :: es) X.env = (false, eval e X.env) :: starEach es X.env := by rfl) (hplain : (backTo cpos (starEach es X.env)).any (·.1) = false := by rfl) : Pr (PE X (.Call (.Attribute o name apos) (e :: es) [] cpos) (tBM X.K T r to t)) := ⟨pe_bm pa slot hty hm ho.h ha.h hbase hfew hline hs hplain⟩
end
section
variable {X : Cx} {a b c : Expr} {ta tb tc : TE} {pos : Pos}
theorem qpt_cmpR {op : CmpOp} {r : R2} (ho : OpR X (compareOp op) r) (ha : Pr (PE X a ta)) (hb : Pr (PE X b tb)) (hm : behindInMarks op b = false) : Pr (PT X (.Compare a [op] [b] pos) (tTest (tOp r ta tb))) := ⟨pt_cmpR ho ha.h hb.h hm⟩
end
section
variable {X : Cx} {a b c : Expr} {ta tb tc : TE} {pos : Pos}
theorem qpt_chain {op op' : CmpOp} {r r' : R2} (ho : OpR X (compareOp op) r) (ho' : OpR X (compareOp op') r') (ha : Pr (PE X a ta)) (hb : Pr (PE X b tb)) (hc : Pr (PE X c tc)) (hm : lastMarks [op, op'] [b, c] = false := by with_unfolding_all rfl) : Pr (PT X (.Compare a [op, op'] [b, c] pos) (tTest (tChain r r' ta tb tc))) := ⟨pt_chain ho ho' ha.h hb.h hc.h hm⟩
end
section
variable {X : Cx}
variable {a b : Expr} {ta tb : TE} {pos : Pos}
variable {tA tB' : TT} {rest : List Expr}
theorem qpt_not (ha : Pr (PT X a tA)) : Pr (PT X (.UnaryOp .Not a pos) (tNot tA)) := ⟨pt_not ha.h⟩
end
section
variable {X : Cx}
variable {a b : Expr} {ta tb : TE} {pos : Pos}
theorem qpt_val {e : Expr} {t : TE} (h : Pr (PE X e t)) (he : ∀ whole, isTrue e X.env whole = (do let v ← whole; standAt e.pos; holding [v] (truthy v)) := by intro _; rfl) : Pr (PT X e (tB t)) := ⟨pt_val h.h he⟩
end
section
theorem qPW_pt {X : Cx} {e : Expr} {t : TT} (h : Pr (PW X e t)) : Pr (PT X e t) := ⟨PW.pt h.h⟩
end
section
variable {X : Cx}
variable {a b : Expr} {ta tb : TE} {pos : Pos}
variable {tA tB' : TT} {rest : List Expr}
theorem qpw_and (ha : Pr (PT X a tA)) (hb : Pr (PW X (.BoolOp .And (b :: rest) pos) tB')) : Pr (PW X (.BoolOp .And (a :: b :: rest) pos) (tAnd tA tB')) := ⟨pw_and ha.h hb.h⟩
end
section
variable {X : Cx}
variable {a b : Expr} {ta tb : TE} {pos : Pos}
variable {tA tB' : TT} {rest : List Expr}
theorem qpw_and1 (ha : Pr (PT X a tA)) : Pr (PW X (.BoolOp .And [a] pos) tA) := ⟨pw_and1 ha.h⟩
end
section
variable {X : Cx}
variable {a b : Expr} {ta tb : TE} {pos : Pos}
variable {tA tB' : TT} {rest : List Expr}
theorem qpw_or (ha : Pr (PT X a tA)) (hb : Pr (PW X (.BoolOp .Or (b :: rest) pos) tB')) : Pr (PW X (.BoolOp .Or (a :: b :: rest) pos) (tOr tA tB')) := ⟨pw_or ha.h hb.h⟩
end
section
variable {X : Cx}
variable {a b : Expr} {ta tb : TE} {pos : Pos}
variable {tA tB' : TT} {rest : List Expr}
theorem qpw_or1 (ha : Pr (PT X a tA)) : Pr (PW X (.BoolOp .Or [a] pos) tA) := ⟨pw_or1 ha.h⟩
end
section
variable {X : Cx} {e : Expr} {es : List Expr} {te : TE} {t : TA} {pos : Pos}
theorem qpa_nil  : Pr (PA X [] tNil) := ⟨pa_nil⟩
end
section
variable {X : Cx} {e : Expr} {es : List Expr} {te : TE} {t : TA} {pos : Pos}
theorem qpa_cons (ha : Pr (PE X e te)) (hr : Pr (PA X es t)) (hs : starEach (e :: es) X.env = (false, eval e X.env) :: starEach es X.env := by rfl) : Pr (PA X (e :: es) (tCons te t)) := ⟨pa_cons ha.h hr.h hs⟩
end
section
variable {X : Cx} {e : Expr} {te : TE} {lo hi : Option Expr} {tl th : TO} {pos p2 : Pos}
end
section
variable {X : Cx} {e : Expr} {te : TE} {lo hi : Option Expr} {tl th : TO} {pos p2 : Pos}
end
section
variable {X : Cx} {tg : Expr}
theorem qpi_list {l : Expr} {tl : TE} (hl : Pr (PE X l tl)) : Pr (PI X tg l (iList X.K tl)) := ⟨pi_list hl.h⟩
end
section
variable {X : Cx} {tg : Expr}
theorem qpi_tup {l : Expr} {tl : TE} (hl : Pr (PE X l tl)) : Pr (PI X tg l (iTup X.K tl)) := ⟨pi_tup hl.h⟩
end
section
variable {X : Cx} {tg : Expr}
theorem qpi_range1 {a : Expr} {ta : TA} {p pos : Pos} (hg : Gl X "range") (hm : X.mg "range" = none) (ha : Pr (PA X [a] ta)) (hs : starEach [a] X.env = [(false, eval a X.env)] := by rfl) : Pr (PI X tg (.Call (.Name "range" p) [a] [] pos) (iRng1 ta)) := ⟨pi_range1 hg hm ha.h hs⟩
end
section
variable {X : Cx} {tg : Expr}
end
section
variable {X : Cx} {elts : List Expr} {kk : Nat} {tpos : Pos}
theorem qpi_zip (k1 k2 : SK) {a b : Expr} {ta : TA} {p pos : Pos} (hg : Gl X "zip") (hm : X.mg "zip" = none) (ha : Pr (PA X [a, b] ta)) (hs : starEach [a, b] X.env = [(false, eval a X.env), (false, eval b X.env)] := by rfl) (hs2 : starEach [b] X.env = [(false, eval b X.env)] := by rfl) : Pr (PI X (.Tuple elts kk tpos) (.Call (.Name "zip" p) [a, b] [] pos) (iZip X.K k1 k2 ta)) := ⟨pi_zip k1 k2 hg hm ha.h hs hs2⟩
end
section
variable {X : Cx} {pos : Pos}
theorem qpg_name {i : Nat} {x : Str} (hN : X.N.Nodup) (hi : X.N[i]? = some x) (hx : Loc X.env.scope x) (hf : X.fn x = true ∨ X.env.scope.names.lookup x = some .local := by first | exact .inl rfl | exact .inr rfl | assumption) : Pr (PG X (.Name x pos) (gName i)) := ⟨pg_name hN hi hx hf⟩
end
section
variable {X : Cx} {pos : Pos}
theorem qpgs_nil  : Pr (PGs X [] gNil) := ⟨pgs_nil⟩
end
section
variable {X : Cx} {pos : Pos}
theorem qpgs_cons {e : Expr} {es : List Expr} {t : TG} {u : TGs} (h1 : Pr (PG X e t)) (h2 : Pr (PGs X es u)) (hs : (assignEach (e :: es) X.env).map (·.2) = assign e X.env :: (assignEach es X.env).map (·.2) := by rfl) : Pr (PGs X (e :: es) (gCons t u)) := ⟨pgs_cons h1.h h2.h hs⟩
end
section
variable {X : Cx} {pos : Pos}
theorem qpg_tup {es : List Expr} {k : Nat} {t : TGs} {n : Nat} (hc : X.calm = true) (h : Pr (PGs X es t)) (hn : (assignEach es X.env).length = n := by rfl) (hst : (assignEach es X.env).findIdx? (·.1) = none := by rfl) : Pr (PG X (.Tuple es k pos) (gTup X.K n t)) := ⟨pg_tup hc h.h hn hst⟩
end
section
variable {X : Cx} {pos : Pos}
theorem qpg_sub {o i : Expr} {to ti : TE} {t : TSet} (ho : Pr (PE X o to)) (hi : Pr (PE X i ti)) (hs : PSet X t) (ha : ∀ v, assign (.Subscript o i pos) X.env v = (do
      let ov ← holding [v] (eval o X.env)
      let iv ← holding [v, ov] (eval i X.env)
      standAt pos
      holding [v, ov, iv] (setItem ov iv v)
      release [v, ov, iv] []) := by intro _; rfl) : Pr (PG X (.Subscript o i pos) (gSub to ti t)) := ⟨pg_sub ho.h hi.h hs ha⟩
end
section
variable {X : Cx} {st : Stmt} {rest : List Stmt} {t u : TS} {e : Expr} {te : TE} {pos : Pos}
theorem qps_ret (he : Pr (PE X e te)) : Pr (PS X (.Return (some e) pos) (tRet te)) := ⟨ps_ret he.h⟩
end
section
variable {X : Cx} {st : Stmt} {rest : List Stmt} {t u : TS} {e : Expr} {te : TE} {pos : Pos}
end
section
variable {X : Cx} {pos : Pos}
theorem qps_set {i : Nat} {x : Str} {e : Expr} {te : TE} {pos' : Pos} (hN : X.N.Nodup) (hi : X.N[i]? = some x) (hx : Loc X.env.scope x) (he : Pr (PE X e te)) (hs : swapsWith e (some (.Name x pos')) pos.line X.env = pure false := by rfl) (hf : X.fn x = true ∨ X.env.scope.names.lookup x = some .local := by first | exact .inl rfl | exact .inr rfl | assumption) : Pr (PS X (.Assign [.Name x pos'] e pos) (tAsg te (gName i))) := ⟨ps_set hN hi hx he.h hs hf⟩
end
section
variable {X : Cx} {pos : Pos}
theorem qps_asg {tg e : Expr} {te : TE} {g : TG} (he : Pr (PE X e te)) (hg : Pr (PG X tg g)) (hs : swapsWithSole [tg] e pos.line X.env = pure false := by rfl) (hw : swappedStores [tg] e X.env = pure none := by rfl) (h1 : (assignEach [tg] X.env).map (·.2) = [assign tg X.env] := by rfl) : Pr (PS X (.Assign [tg] e pos) (tAsg te g)) := ⟨ps_asg he.h hg.h hs hw h1⟩
end
section
variable {X : Cx} {pos : Pos}
theorem qps_aug {i : Nat} {x : Str} {e : Expr} {te : TE} {op : Operator} {ti : TIp} {pos' : Pos} (hN : X.N.Nodup) (hi : X.N[i]? = some x) (hx : Loc X.env.scope x) (he : Pr (PE X e te)) (ho : PIp X op ti) (hf : X.fn x = true ∨ X.env.scope.names.lookup x = some .local := by first | exact .inl rfl | exact .inr rfl | assumption) : Pr (PS X (.AugAssign (.Name x pos') op e pos) (tAug i te ti)) := ⟨ps_aug hN hi hx he.h ho hf⟩
end
section
variable {X : Cx} {st : Stmt} {rest : List Stmt} {t u : TS} {e : Expr} {te : TE} {pos : Pos}
theorem qps_if {c : Expr} {a b : List Stmt} {tc : TT} (hc : Pr (PT X c tc)) (ha : Pr (PSs X a t)) (hb : Pr (PSs X b u)) : Pr (PS X (.If c a b pos) (tIfS tc t u)) := ⟨ps_if hc.h ha.h hb.h⟩
end
section
theorem qps_loop {X : Cx} {tg iter : Expr} {body : List Stmt} {wi : TI} {g : TG} {tb : TS} {pos : Pos} (hp : PassesOwn (model X.prog X.w) X.A X.env X.xe) (hc : X.calm = true) (hi : Pr (PI X tg iter wi)) (hg : Pr (PG X tg g)) (hb : Pr (PSs X body tb)) (hs : ∀ x, foldedSetIterable iter X.env x = pure x := by intro _; rfl) : Pr (PS X (.For tg iter body [] pos) (tLoop wi g tb)) := ⟨ps_loop hp hc hi.h hg.h hb.h hs⟩
end
section
variable {X : Cx} {pos : Pos}
theorem qps_while {c : Expr} {body : List Stmt} {tc : TT} {tb : TS} (hp : PassesOwn (model X.prog X.w) X.A X.env X.xe) (hc : Pr (PT X c tc)) (hb : Pr (PSs X body tb)) : Pr (PS X (.While c body [] pos) (tWhile tc tb)) := ⟨ps_while hp hc.h hb.h⟩
end
section
variable {X : Cx} {st : Stmt} {rest : List Stmt} {t u : TS} {e : Expr} {te : TE} {pos : Pos}
theorem qps_expr (he : Pr (PE X e te)) (hs : swapsWith e none pos.line X.env = pure false := by rfl) : Pr (PS X (.Expr e pos) (tDrop te)) := ⟨ps_expr he.h hs⟩
end
section
variable {X : Cx} {st : Stmt} {rest : List Stmt} {t u : TS} {e : Expr} {te : TE} {pos : Pos}
end
section
variable {X : Cx} {st : Stmt} {rest : List Stmt} {t u : TS} {e : Expr} {te : TE} {pos : Pos}
end
section
variable {X : Cx} {st : Stmt} {rest : List Stmt} {t u : TS} {e : Expr} {te : TE} {pos : Pos}
end
section
variable {X : Cx} {st : Stmt} {rest : List Stmt} {t u : TS} {e : Expr} {te : TE} {pos : Pos}
theorem qpss_nil  : Pr (PSs X [] tNext) := ⟨pss_nil⟩
end
section
variable {X : Cx} {st : Stmt} {rest : List Stmt} {t u : TS} {e : Expr} {te : TE} {pos : Pos}
theorem qpss_one (h1 : Pr (PS X st t)) : Pr (PSs X [st] t) := ⟨pss_one h1.h⟩
end
section
variable {X : Cx} {st : Stmt} {rest : List Stmt} {t u : TS} {e : Expr} {te : TE} {pos : Pos}
theorem qpss_cons (h1 : Pr (PS X st t)) (h2 : Pr (PSs X rest u)) : Pr (PSs X (st :: rest) (tSeq t u)) := ⟨pss_cons h1.h h2.h⟩
end
section
theorem qpss_cut {X : Cx} {st : Stmt} {rest : List Stmt} {t u : TS} (h1 : Pr (PS X st t)) (h2 : Pr (PSs X rest u)) : Pr (PSs X (st :: rest) (tCut t u)) := ⟨pss_cut h1.h h2.h⟩
end
section
variable {X : Cx} {st : Stmt} {rest : List Stmt} {t u : TS} {e : Expr} {te : TE} {pos : Pos}
end
section
variable {X : Cx} {o e value : Expr} {f : Str} {pos pos' tpos : Pos} {ta tv : TE}
theorem qps_fld (ha : Pr (PE X o ta)) (hv : Pr (PE X value tv)) (hs : swapsWith value (some (.Attribute o f pos')) pos.line X.env = pure false) : Pr (PS X (.Assign [.Attribute o f pos'] value pos) (sFld X.K ta tv f)) := ⟨ps_fld ha.h hv.h hs⟩
end
end L2

namespace L2
open PySem PySem.Spec PyProof.Rows
def relab (sc outer : Scope) : Scope :=
  { sc with names := sc.names.map fun (n, k) => if (k == .free && outer.kind == .function && outer.names.lookup n == some .cell) then (n, .cell) else (n, k) }
structure CompOk (sc outer : Scope) (own : List Str) (N : List Str) (fr : List Nat) (N' : List Str) : Prop where
  kind : sc.kind = .function
  nocell : ∀ y ∈ sc.names, y.2 ≠ .cell
  loc : ∀ y ∈ sc.names, y.2 = .local → sc.names.lookup y.1 = some .local
  fre : ∀ y ∈ sc.names, y.2 = .free → outer.names.lookup y.1 = some .cell ∨ outer.names.lookup y.1 = some .free
  nd : N'.Nodup
  all : N'.map some = own.map some ++ fr.map fun j => N[j]?
  frk : ∀ j ∈ fr, ∀ x, N[j]? = some x → sc.names.lookup x = some .free ∧ (outer.names.lookup x = some .cell ∨ outer.names.lookup x = some .free)
def cst (n : Nat) (fr : List Nat) (σ : St) : St := List.replicate n none ++ fr.map fun j => (σ[j]?).join
theorem closure_has {env : Env} {sc : Scope} (h : ∀ y ∈ sc.names, y.2 = .free → ∃ c, env.cells.lookup y.1 = some c) :
    ∃ cl, closureFor sc env = pure cl ∧ (∀ x c, cl.lookup x = some c → env.cells.lookup x = some c) ∧ ∀ y ∈ sc.names, y.2 = .free → ∃ c, cl.lookup y.1 = some c := by
  have key : ∀ (l : List (Str × NameKind)) (cs : List (Str × Addr)), (∀ y ∈ l, y.2 = .free → ∃ c, env.cells.lookup y.1 = some c) → (∀ x c, cs.lookup x = some c → env.cells.lookup x = some c) →
      ∃ cl, (forIn l cs fun x r => if (x.2 == NameKind.free) = true then do let a ← cellOf env x.1; pure (ForInStep.yield ((x.1, a) :: r)) else pure (ForInStep.yield r)) = (pure cl : Sem _) ∧ (∀ x c, cl.lookup x = some c → env.cells.lookup x = some c) ∧
        (∀ x, (∃ c, cs.lookup x = some c) → ∃ c, cl.lookup x = some c) ∧ ∀ y ∈ l, y.2 = .free → ∃ c, cl.lookup y.1 = some c := by
    intro l
    induction l with
    | nil => intro cs _ h2; exact ⟨cs, rfl, h2, fun _ z => z, fun y hy => nomatch hy⟩
    | cons y l ih =>
      intro cs h1 h2
      obtain ⟨n, k⟩ := y
      by_cases hk : k = .free
      · subst hk
        obtain ⟨c, hc⟩ := h1 (n, .free) List.mem_cons_self rfl
        obtain ⟨cl, e, a, b, d⟩ := ih ((n, c) :: cs) (fun y hy => h1 y (List.mem_cons_of_mem _ hy)) (fun x c' hx => by
          rw [List.lookup_cons] at hx
          split at hx
          · rename_i q
            have : x = n := by simpa using q
            cases hx; subst this; exact hc
          · exact h2 x c' hx)
        refine ⟨cl, ?_, a, fun x ⟨c', hx⟩ => b x ?_, fun y hy hf => ?_⟩
        · rw [List.forIn_cons]
          have e1 : cellOf env n = pure c := by unfold cellOf; rw [hc]
          simp only [beq_self_eq_true, if_true, e1, pure_bind]
          exact e
        · rw [List.lookup_cons]
          split
          · exact ⟨_, rfl⟩
          · exact ⟨c', hx⟩
        · rcases List.mem_cons.mp hy with rfl | hy
          · exact b n ⟨c, by simp [List.lookup_cons]⟩
          · exact d y hy hf
      · obtain ⟨cl, e, a, b, d⟩ := ih cs (fun y hy => h1 y (List.mem_cons_of_mem _ hy)) h2
        refine ⟨cl, ?_, a, b, fun y hy hf => ?_⟩
        · rw [List.forIn_cons]
          have hb : (k == NameKind.free) = false := by simpa using hk
          simp only [hb, Bool.false_eq_true, if_false, pure_bind]
          exact e
        · rcases List.mem_cons.mp hy with rfl | hy
          · exact absurd hf hk
          · exact d y hy hf
  obtain ⟨cl, e, a, _, d⟩ := key sc.names [] h (fun x c hx => by simp at hx)
  refine ⟨cl, ?_, a, d⟩
  unfold closureFor
  simp only [e, pure_bind]
def cxC (X : Cx) (sc : Scope) (cl : List (Str × Addr)) (N' : List Str) (C : Addr) (s : Shared) (H : Hp) (fp : List Addr) : Cx :=
  { X with N := N', s₀ := s, H₀ := H, env := compEnvC sc cl C X.env, outer := X.stack, stack := X.stack, ex := fp, fn := fun _ => false, pn := [], xe := fun _ _ => False }
theorem relab_lookup {outer : Scope} : ∀ {names : List (Str × NameKind)} {x : Str} {k : NameKind},
    (names.map fun (n, k) => if (k == NameKind.free && outer.kind == .function && outer.names.lookup n == some .cell) then (n, NameKind.cell) else (n, k)).lookup x = some k →
      names.lookup x = some k ∨ (names.lookup x = some .free ∧ k = .cell)
  | [], x, k, h => by simp at h
  | (n, k') :: r, x, k, h => by
    rw [List.map_cons] at h
    by_cases hc : (k' == NameKind.free && outer.kind == .function && outer.names.lookup n == some .cell) = true
    · simp only [hc, if_true] at h
      rw [List.lookup_cons] at h ⊢
      cases hx : x == n with
      | true =>
        rw [hx] at h
        simp only [Option.some.injEq] at h
        have hf : k' = .free := by
          have := (Bool.and_eq_true_iff.mp (Bool.and_eq_true_iff.mp hc).1).1
          simpa using this
        exact .inr ⟨by simp [hf], h.symm⟩
      | false => rw [hx] at h; exact relab_lookup h
    · simp only [hc, Bool.false_eq_true, if_false] at h
      rw [List.lookup_cons] at h ⊢
      cases hx : x == n with
      | true => rw [hx] at h; exact .inl (by simpa using h)
      | false => rw [hx] at h; exact relab_lookup h
theorem relab_free {outer : Scope} : ∀ {names : List (Str × NameKind)} {x : Str}, names.lookup x = some .free →
    (names.map fun (n, k) => if (k == NameKind.free && outer.kind == .function && outer.names.lookup n == some .cell) then (n, NameKind.cell) else (n, k)).lookup x = some .cell ∨
    (names.map fun (n, k) => if (k == NameKind.free && outer.kind == .function && outer.names.lookup n == some .cell) then (n, NameKind.cell) else (n, k)).lookup x = some .free
  | [], x, h => by simp at h
  | (n, k') :: r, x, h => by
    rw [List.lookup_cons] at h
    rw [List.map_cons]
    by_cases hc : (k' == NameKind.free && outer.kind == .function && outer.names.lookup n == some .cell) = true
    · simp only [hc, if_true]
      rw [List.lookup_cons]
      cases hx : x == n with
      | true => exact .inl rfl
      | false => rw [hx] at h; exact relab_free h
    · simp only [hc, Bool.false_eq_true, if_false]
      rw [List.lookup_cons]
      cases hx : x == n with
      | true => rw [hx] at h; exact .inr h
      | false => rw [hx] at h; exact relab_free h
theorem lookup_mem' {α : Type} : ∀ {l : List (Str × α)} {x : Str} {k : α}, l.lookup x = some k → (x, k) ∈ l
  | [], _, _, h => by simp at h
  | (n, k') :: r, x, k, h => by
    rw [List.lookup_cons] at h
    cases hx : x == n with
    | true =>
      rw [hx] at h
      have e : x = n := by simpa using hx
      have e2 : k' = k := by simpa using h
      rw [e, e2]; exact List.mem_cons_self
    | false => rw [hx] at h; exact List.mem_cons_of_mem _ (lookup_mem' h)
section
variable {X : Cx} {pins : List (Addr × Obj)} {σ : St} {H : Hp} {s : Shared} {sc : Scope} {own : List Str} {fr : List Nat} {N' : List Str} {cl : List (Str × Addr)}
theorem block_start (I : Inv X pins σ H s) (cs : CompOk sc X.env.scope own X.N fr N') (h1 : ∀ x c, cl.lookup x = some c → X.env.cells.lookup x = some c) (h2 : ∀ y ∈ sc.names, y.2 = .free → ∃ c, cl.lookup y.1 = some c)
    {fp : List Addr} (hf : ∀ b ∈ fp, FpOk X pins H b ∧ ∃ o, s.heap.get? b = some o) {h' : Heap} {t' : Nat} {C D : Addr} {o : Obj} (hC : s.heap.objs.size ≤ C) (hD : s.heap.objs.size ≤ D) (hDC : D ≠ C)
    (k : ∀ b u, s.heap.get? b = some u → h'.get? b = some u) (hn : h'.Ns C fun _ => none) (hDo : h'.get? D = some o) (hd : ∀ v, o.data ≠ .cell v) :
    Inv (cxC X sc cl N' C s H fp) [(D, o)] (cst own.length fr σ) H { s with heap := h', toks := t' } := by
  have lt : ∀ b u, s.heap.get? b = some u → b < s.heap.objs.size := fun b u e => Heap.lt_size e
  have fpC : ∀ b ∈ fp, b ≠ C := fun b hb z => by
    obtain ⟨_, o, e⟩ := hf b hb
    have := lt b o e
    rw [z] at this
    exact absurd (Nat.lt_of_lt_of_le this hC) (Nat.lt_irrefl _)
  have lenN : N'.length = own.length + fr.length := by
    have := congrArg List.length cs.all
    simpa using this
  refine ⟨⟨I.ok.mod, cs.kind, I.ok.glob, I.ok.blt, hC, fun x y c e1 e2 => I.ok.inj x y c (h1 x c e1) (h1 y c e2), fun x hx => ?_, fun x c z => absurd z Bool.false_ne_true, I.ok.hd, I.ok.frames, .inl rfl, fun b hb => ⟨fpC b hb, fun x c e => (hf b hb).1.2.2.2.2.1 x c (h1 x c e)⟩,
      I.bs, Nat.le_trans I.ok.bsz I.sz, fun b o' e hb => ?_, fun b hb z => ?_, I.stack, I.stkFree⟩,
    rfl, I.bare, Un.kept k, ⟨_, hn, fun i x v e1 e2 e3 => ?_⟩, fun x c e => ?_, I.hok.fresh hC, fun x c e => I.freeC x c (h1 x c e), fun p hp => ?_, I.hok.kept k, ?_⟩
  · have hx' : (relab sc X.env.scope).names.lookup x = some .cell ∨ (relab sc X.env.scope).names.lookup x = some .free := hx
    have hfree : sc.names.lookup x = some .free := by
      rcases hx' with z | z
      · rcases relab_lookup z with q | q
        · exact absurd rfl (cs.nocell _ (lookup_mem' q))
        · exact q.1
      · rcases relab_lookup z with q | q
        · exact q
        · exact q.1
    exact h2 (x, .free) (lookup_mem' hfree) rfl
  · have q := (hf b hb).1.2.2.2.1
    rcases q with q | q
    · exact I.ok.noex b o' e q
    · exact absurd (Nat.lt_of_lt_of_le (Heap.lt_size (I.ok.bs b o' e).1) q) (Nat.lt_irrefl _)
  · have z' : b ∈ frs X.stack := z
    rcases List.mem_cons.mp (I.stkSub b z') with q | q
    · exact (hf b hb).1.2.1 q
    · exact (hf b hb).1.2.2.1 q
  · -- a name of the block at its entry is one of the def's
    have hi : own.length ≤ i := by
      by_cases hi : i < own.length
      · have e2' : (cst own.length fr σ)[i]? = some none := by
          unfold cst
          rw [List.getElem?_append_left (by simpa using hi), List.getElem?_replicate, if_pos hi]
        rw [e2'] at e2; cases e2
      · omega
    have e2' : (fr.map fun j => (σ[j]?).join)[i - own.length]? = some (some v) := by
      unfold cst at e2
      rwa [List.getElem?_append_right (by simpa using hi), List.length_replicate] at e2
    rw [List.getElem?_map] at e2'
    have e1a : (N'.map some)[i]? = some (some x) := by
      have e1 : N'[i]? = some x := e1
      rw [List.getElem?_map, e1]; rfl
    rw [cs.all, List.getElem?_append_right (by simpa using hi), List.length_map, List.getElem?_map] at e1a
    cases ej : fr[i - own.length]? with
    | none => rw [ej] at e2'; cases e2'
    | some j =>
      rw [ej] at e2' e1a
      have hj : j ∈ fr := List.mem_of_getElem? ej
      have nj : X.N[j]? = some x := by simpa using e1a
      have sj : σ[j]? = some (some v) := by
        have : (σ[j]?).join = some v := by simpa using e2'
        cases q : σ[j]? with
        | none => rw [q] at this; cases this
        | some y => rw [q] at this; simp at this; rw [this]
      obtain ⟨kf, ko⟩ := cs.frk j hj x nj
      obtain ⟨m, hm, hl⟩ := I.loc
      obtain ⟨u, r, l⟩ := hl j x v nj sj (.inr ko)
      refine ⟨u, r, .inr ?_⟩
      have lk : X.env.kindOf x = some .cell ∨ X.env.kindOf x = some .free := ko
      rcases l with ⟨z, _⟩ | ⟨_, c, ec, ic⟩
      · rcases lk with q | q <;> rw [z] at q <;> cases q
      · obtain ⟨c', hc'⟩ := h2 (x, .free) (lookup_mem' kf) rfl
        have : c' = c := by
          have := h1 x c' hc'
          rw [ec] at this; exact (Option.some.inj this).symm
        subst this
        refine ⟨relab_free kf, c', hc', ?_⟩
        obtain ⟨oc, hoc, hcd⟩ := ic
        exact ⟨oc, k c' oc hoc, hcd⟩
  · obtain ⟨v, oc, hoc, hcd⟩ := I.cell x c (h1 x c e)
    exact ⟨v, oc, k c oc hoc, hcd⟩
  · have hp' : p ∈ [(D, o)] := hp
    have e : p = (D, o) := by simpa using hp'
    subst e
    refine ⟨hDo, I.hok.fresh hD, hDC, fun z => ?_, hd⟩
    have z' : D ∈ frs X.stack := z
    obtain ⟨_, o2, ho2, _⟩ := I.stack.mem z'
    exact absurd (Nat.lt_of_lt_of_le (Heap.lt_size ho2) hD) (Nat.lt_irrefl _)
  · show (cst own.length fr σ).length = N'.length
    unfold cst
    rw [List.length_append, List.length_replicate, List.length_map, lenN]
theorem block_end (I : Inv X pins σ H s) {fp : List Addr} (hf : ∀ b ∈ fp, FpOk X pins H b ∧ ∃ o, s.heap.get? b = some o) {C D : Addr} {its : List Value} {ys : List V} {n : Nat} {σ' : St} {H' : Hp} {s' : Shared}
    (hD : s.heap.objs.size ≤ D) (J : Inv (cxC X sc cl N' C s H fp) [(D, { cls := .type "list", data := .seq its.toArray n })] σ' H' s') (r : Vals ys its) (hz : ys.length ≤ sizeLine) : Inv X pins σ (upd H' D (.lst ys)) s' := by
  obtain ⟨hDo, hDn, hDC, hDf, hDc⟩ := J.pin (D, { cls := .type "list", data := .seq its.toArray n }) (List.mem_append_right _ List.mem_cons_self)
  have u : Un (frs X.stack) fp H H' s.heap s'.heap := J.base
  have os : s'.os = s.os := J.os
  have lt : ∀ b ob, s.heap.get? b = some ob → b ≠ D := fun b ob e z => by
    have := Heap.lt_size e
    rw [z] at this
    exact absurd (Nat.lt_of_lt_of_le this hD) (Nat.lt_irrefl _)
  refine I.call' (ch := fp) os ⟨u.keep, u.slot, fun b ob e n hx => ?_, u.there, fun b xs e => ?_, fun b ob x e => ?_, fun b ps e => ?_⟩ ?_ J.bare (fun b hb => ?_)
  · rw [upd_ne (lt b ob e)]; exact u.free b ob e n hx
  · have := u.tups b xs e
    rw [upd_ne (ne_of_none this hDn)]; exact this
  · have := u.frzs b ob x e
    rw [upd_ne (ne_of_none this hDn)]; exact this
  · obtain ⟨m, q⟩ := u.tbls b ps e
    exact ⟨m, by rw [upd_ne (ne_of_none q hDn)]; exact q⟩
  · intro b ob e
    by_cases hb : b = D
    · subst hb
      rw [upd_same] at e; cases e
      exact ⟨hz, its, n, r, hDo⟩
    · rw [upd_ne hb] at e
      exact (J.hok b ob e).stay (fun c v _ q => q) (fun c q => by rw [upd_ne (ne_of_none q hDn)]; exact q) fun c xs q => by rw [upd_ne (ne_of_none q hDn)]; exact q
  · obtain ⟨_, f1, _, f3, f4, f5⟩ := (hf b hb).1
    exact ⟨f3, f1, f4, f5⟩
end
def PIf (X : Cx) (ifs : List Expr) (t : TT) : Prop :=
  ∀ (pins : List (Addr × Obj)) (s : Shared) (σ : St) (H : Hp) (Q : Bool → Hp → Prop), Inv X pins σ H s → t σ H Q →
    wpAny (model X.prog X.w) X.A (forIn ifs true fun c r => if r = true then do let ok ← isTrue c X.env (eval c X.env); pure (ForInStep.yield ok) else pure (ForInStep.yield r)) (TP X pins σ Q) X.xe s
def tYes : TT := fun _ H Q => Q true H
theorem pif_nil {X : Cx} : PIf X [] tYes := fun _ _ _ H _ I h => wpAny_tests_nil ⟨H, I, h⟩
structure Comp (J : It) (g : TG) (tt : TT) (te : TE) (Q : List V → Hp → Prop) (σ : St) (H : Hp) : Prop where
  ex : ∃ W : Nat → Nat → List V → St → Hp → Prop, (∃ m, W 0 m [] σ H) ∧ ∀ i m ys σ H, W i m ys σ H → ys.length < sizeLine ∧
    ((J.stop i H ∧ Q ys H) ∨ (J.go i H ∧ ∃ N : List V → St → Hp → Prop, (∀ ys' σ' H', N ys' σ' H' → ∃ m', m' < m ∧ W (i + 1) m' ys' σ' H') ∧
      ∀ x H', J.yld i H x H' → g x σ H' fun σ2 H2 => tt σ2 H2 fun b H3 => if b = true then te σ2 H3 fun y H4 => N (ys ++ [y]) σ2 H4 else N ys σ2 H3))
section
variable {prog : Program} {w : World} {A : Around} {R : Result → Shared → Prop} {s : Shared}
theorem compLoop_own {elt target iter : Expr} {ifs : List Expr} {scope : Scope} {pos : Pos} {it acc : Value} {env : Env} (I : Nat → Shared → Prop)
    (turn : ∀ n s, I n s → wpAny (model prog w) A (pyNext it) (fun r s₁ => match r with
      | none => R (.ok .next) s₁
      | some v => wpAny (model prog w) A (letOwnedTupleGo target it v) (fun _ s₁ => wpAny (model prog w) A (assign target env v) (fun _ s₂ =>
          wpAny (model prog w) A (forIn ifs true fun c r => if r = true then do let ok ← isTrue c env (eval c env); pure (ForInStep.yield ok) else pure (ForInStep.yield r)) (fun ok s₃ =>
            if ok = true then wpAny (model prog w) A (eval elt env) (fun x s₄ =>
              wpAny (model prog w) A (call (.builtin "list.append") [acc, x]) (fun _ s₅ => ∃ m, m < n ∧ I m s₅) (fun _ _ => False) s₄) (fun _ _ => False) s₃
            else ∃ m, m < n ∧ I m s₃) (fun _ _ => False) s₂) (fun _ _ => False) s₁) (fun _ _ => False) s₁) (fun _ _ => False) s)
    (n : Nat) (h : I n s) : codeAny (model prog w) A (.compLoop (.ListComp elt [⟨target, iter, ifs, 0⟩] scope pos) 0 it acc env) R s := by
  refine codeAny_loop rfl I (fun n s hI => ?_) n h
  show wpAny _ A ((compTurn (.ListComp elt [⟨target, iter, ifs, 0⟩] scope pos) 0 it acc env).onRaise (fun x => do noteFrame x env; theTreesLotGoes x)) _ _ s
  refine wpAny_noted (wpAny_noRaise ?_)
  rw [compTurn_list]
  refine wpAny_bind (wpAny_standAt (wpAny_bind (wpAny_mono (turn n s hI) (fun r s₁ h₁ => ?_) fun _ _ h' => h')))
  cases r with
  | none => exact wpAny_pure h₁
  | some v =>
    refine wpAny_bind (wpAny_mono h₁ (fun _ s₁ h₁ => ?_) fun _ _ h' => h')
    refine wpAny_bind (wpAny_mono h₁ (fun _ s₂ h₂ => wpAny_bind (wpAny_mono h₂ (fun ok s₃ h₃ => ?_) fun _ _ h' => h')) fun _ _ h' => h')
    cases ok with
    | false => exact wpAny_pure ⟨rfl, h₃⟩
    | true =>
      exact wpAny_bind (wpAny_bind (wpAny_mono h₃ (fun x s₄ h₄ => wpAny_bind (wpAny_mono h₄ (fun _ s₅ h₅ => wpAny_pure (wpAny_pure ⟨rfl, h₅⟩)) fun _ _ h' => h')) fun _ _ h' => h'))
end
end L2

namespace L2
open PySem PySem.Spec PyProof.Rows
structure TurnX (G : Cx → Prop) (P : Program) (w : World) (K : PySem.W.Frag) (tg : Expr) (J : It) (fp : List Addr) (it : Addr) (tn : Nat → Heap → Prop) : Prop where
  obj : ∀ i h, tn i h → ∀ b ∈ fp, ∃ o, h.get? b = some o ∧ ∀ v, o.data ≠ .cell v
  keep : ∀ i h h', tn i h → (∀ b ∈ fp, ∀ o, h.get? b = some o → h'.get? b = some o) → tn i h'
  item : ∀ (X : Cx), X.prog = P → X.w = w → X.K = K → G X → ∀ (i : Nat) (pins : List (Addr × Obj)) (s : Shared) (σ : St) (H : Hp) (E : Value → Shared → Prop), Inv X pins σ H s → (∀ b ∈ fp, FpOk X pins H b) → tn i s.heap → J.go i H →
    wpAny (model P w) X.A (pyNext (.ref it)) (fun r s1 => ∃ u, r = some u ∧
      wpAny (model P w) X.A (letOwnedTupleGo tg (.ref it) u) (fun _ s2 => ∃ x H', Inv X pins σ H' s2 ∧ RelV x u ∧ J.yld i H x H' ∧ tn (i + 1) s2.heap ∧ ∀ b ∈ fp, H' b = none) E s1) E s
  done : ∀ (X : Cx), X.prog = P → X.w = w → X.K = K → G X → ∀ (i : Nat) (pins : List (Addr × Obj)) (s : Shared) (σ : St) (H : Hp) (E : Value → Shared → Prop), Inv X pins σ H s → (∀ b ∈ fp, FpOk X pins H b) → tn i s.heap → J.stop i H →
    wpAny (model P w) X.A (pyNext (.ref it)) (fun r s1 => r = none ∧ Inv X pins σ H s1) E s
  self : ∀ (A : Around) (i : Nat) (s : Shared) (Q : Value → Shared → Prop) (E : Value → Shared → Prop), tn i s.heap → Q (.ref it) s → wpAny (model P w) A (pyIter (.ref it)) Q E s
theorem Turn.x {P : Program} {w : World} {K : PySem.W.Frag} {tg : Expr} {J : It} {fp : List Addr} {it : Addr} {tn : Nat → Heap → Prop} (T : Turn P w K tg J fp it tn) : TurnX (fun X => X.calm = true) P w K tg J fp it tn := ⟨T.obj, T.keep, T.item, T.done, T.self⟩
section
variable {X : Cx} {sc : Scope} {own : List Str} {fr : List Nat} {N' : List Str} {tg elt iter : Expr} {ifs : List Expr} {g : TG} {tt : TT} {te : TE} {wi : TI} {pos : Pos}
theorem comp_block {G : Cx → Prop} {pins : List (Addr × Obj)} {σ : St} {H : Hp} {s2 : Shared} {it : Addr} {fp : List Addr} {tn : Nat → Heap → Prop} {J : It} {QQ : List V → Hp → Prop} {cl : List (Str × Addr)} {RR : Value → Addr → Result → Shared → Prop} {E : Value → Shared → Prop}
    (I2 : Inv X pins σ H s2) (hc : ∀ cl C s H fp, G (cxC X sc cl N' C s H fp)) (T : TurnX G X.prog X.w X.K tg J fp it tn) (st : tn 0 s2.heap) (f2 : ∀ b ∈ fp, FpOk X pins H b) (cs : CompOk sc X.env.scope own X.N fr N')
    (h1 : ∀ x c, cl.lookup x = some c → X.env.cells.lookup x = some c) (h2 : ∀ y ∈ sc.names, y.2 = .free → ∃ c, cl.lookup y.1 = some c)
    (hg : ∀ cl C s H fp, PG (cxC X sc cl N' C s H fp) tg g) (hif : ∀ cl C s H fp, PIf (cxC X sc cl N' C s H fp) ifs tt) (he : ∀ cl C s H fp, PE (cxC X sc cl N' C s H fp) elt te)
    (KK : Comp J g tt te QQ (cst own.length fr σ) H)
    (hRR : ∀ D C m H' ys s', s2.heap.objs.size ≤ C → s'.heap.Ns C m → H' D = none → (upd H' D (.lst ys)) C = none → QQ ys H' → Inv X pins σ (upd H' D (.lst ys)) s' → RR (.ref D) C (.ok .next) s') :
    wpAny (model X.prog X.w) X.A (newList []) (fun acc s₃ => wpAny (model X.prog X.w) X.A (newFunctionEnv sc X.env.globals cl [] X.env.qual none .none (some X.env)) (fun cenv s₄ =>
      codeAny (model X.prog X.w) X.A (.compStart (.ListComp elt [⟨tg, iter, ifs, 0⟩] sc pos) 0 (.ref it) acc { cenv with scope := relabel sc X.env }) (RR acc cenv.locals) s₄) E s₃) E s2 := by
  refine wpAny_newObj_type (wpAny_newFunctionEnv cs.nocell (by intro y hy; simp at hy) (fun h₁ hns₁ hsb₁ => ?_) cs.kind)
  dsimp only at hns₁ hsb₁ ⊢
  generalize hH2 : s2.heap.push { cls := .type "list", dict := none, data := .seq ([] : List Value).toArray } = H2 at hns₁ hsb₁ ⊢
  have hC : H2.objs.size = s2.heap.objs.size + 1 := by rw [← hH2, Heap.size_push]
  have hDC : s2.heap.objs.size ≠ H2.objs.size := by rw [hC]; exact Nat.ne_of_lt (Nat.lt_succ_self _)
  have hCle : s2.heap.objs.size ≤ H2.objs.size := by rw [hC]; exact Nat.le_succ _
  have below : ∀ b, b < s2.heap.objs.size → b ≠ H2.objs.size ∧ b ≠ s2.heap.objs.size := fun b hb => ⟨by rw [hC]; exact Nat.ne_of_lt (Nat.lt_succ_of_lt hb), Nat.ne_of_lt hb⟩
  have old : ∀ b o, s2.heap.get? b = some o → h₁.get? b = some o := fun b o e => hsb₁.extBut b o (below b (Heap.lt_size e)).1 (Heap.get?_push_of_some _ (hH2 ▸ Heap.get?_push_of_some _ e))
  have hacc : h₁.get? s2.heap.objs.size = some { cls := .type "list", data := .seq ([] : List Value).toArray 0 } := hsb₁.extBut _ _ hDC (Heap.get?_push_of_some _ (hH2 ▸ Heap.get?_push_size _ rfl))
  have fpo : ∀ b ∈ fp, FpOk X pins H b ∧ ∃ o, s2.heap.get? b = some o := fun b hb => ⟨f2 b hb, let ⟨o, e, _⟩ := T.obj 0 _ st b hb; ⟨o, e⟩⟩
  have st1 : tn 0 h₁ := T.keep _ _ _ st fun b hb o e => old b o e
  have hns : h₁.Ns H2.objs.size fun _ => none := by simpa using hns₁
  obtain ⟨W, ⟨m0, w0⟩, turn⟩ := KK.ex
  have loop : ∀ s₃ : Shared, s₃ = { s2 with heap := h₁, toks := s2.toks + ([] : List (Str × Value)).length } →
      codeAny (model X.prog X.w) X.A (.compLoop (.ListComp elt [⟨tg, iter, ifs, 0⟩] sc pos) 0 (.ref it) (.ref s2.heap.objs.size) (compEnvC sc cl H2.objs.size X.env)) (RR (.ref s2.heap.objs.size) H2.objs.size) s₃ := by
    rintro s₃ rfl
    have J0 : Inv (cxC X sc cl N' H2.objs.size s2 H fp) [(s2.heap.objs.size, { cls := .type "list", data := .seq ([] : List Value).toArray 0 })] (cst own.length fr σ) H { s2 with heap := h₁, toks := s2.toks + ([] : List (Str × Value)).length } :=
      block_start I2 cs h1 h2 fpo hCle (Nat.le_refl _) hDC old hns hacc (fun v z => by cases z)
    have stat : ∀ {pl : List (Addr × Obj)} {H' : Hp}, (∀ p ∈ pl, p.1 = s2.heap.objs.size) → (∀ b ∈ fp, H' b = none) → ∀ b ∈ fp, FpOk (cxC X sc cl N' H2.objs.size s2 H fp) pl H' b := fun {pl H'} hpl hn b hb => by
      obtain ⟨f, ob, e⟩ := fpo b hb
      refine ⟨hn b hb, (below b (Heap.lt_size e)).1, fun z => ?_, .inl hb, fun x c ec => f.2.2.2.2.1 x c (h1 x c ec), fun p hp => ?_⟩
      · have z' : b ∈ frs X.stack := z
        rcases List.mem_cons.mp (I2.stkSub b z') with q | q
        · exact f.2.1 q
        · exact f.2.2.1 q
      · have hp' : p ∈ pl := hp
        rw [hpl p hp']
        exact Ne.symm (below b (Heap.lt_size e)).2
    have one : ∀ (o : Obj), ∀ p ∈ [(s2.heap.objs.size, o)], p.1 = s2.heap.objs.size := fun o p hp => by
      have : p = (s2.heap.objs.size, o) := by simpa using hp
      rw [this]
    refine compLoop_own (env := compEnvC sc cl H2.objs.size X.env) (fun n s' => ∃ i ys its k σ' H', Inv (cxC X sc cl N' H2.objs.size s2 H fp) [(s2.heap.objs.size, { cls := .type "list", data := .seq (its : List Value).toArray k })] σ' H' s' ∧ tn i s'.heap ∧ (∀ b ∈ fp, H' b = none) ∧ Vals ys its ∧ W i n ys σ' H')
      ?_ m0 ⟨0, [], [], 0, _, H, J0, st1, fun b hb => (f2 b hb).1, .nil, w0⟩
    rintro n s3 ⟨i, ys, its, k, σ3, H3, I3, st3, fr3, rv, w3⟩
    obtain ⟨hlen, alt⟩ := turn i n ys σ3 H3 w3
    rcases alt with ⟨stop, qn⟩ | ⟨go, N, hN, step⟩
    · refine wpAny_mono (T.done (cxC X sc cl N' H2.objs.size s2 H fp) rfl rfl rfl (hc _ _ _ _ _) i _ s3 σ3 H3 (fun _ _ => False) I3 (stat (one _) fr3) st3 stop) (fun r s4 ⟨hr, I4⟩ => ?_) fun _ _ z => z
      subst hr
      obtain ⟨m, hm, _⟩ := I4.loc
      have hDn : H3 s2.heap.objs.size = none := (I4.pin (s2.heap.objs.size, { cls := .type "list", data := .seq its.toArray k }) (List.mem_append_right _ List.mem_cons_self)).2.1
      exact hRR _ _ m H3 ys s4 hCle hm hDn (by rw [upd_ne (Ne.symm hDC)]; exact I4.free) qn (block_end I2 fpo (Nat.le_refl _) I4 rv (Nat.le_of_lt hlen))
    · refine wpAny_mono (T.item (cxC X sc cl N' H2.objs.size s2 H fp) rfl rfl rfl (hc _ _ _ _ _) i _ s3 σ3 H3 (fun _ _ => False) I3 (stat (one _) fr3) st3 go) (fun r s4 ⟨u, hr, h4⟩ => ?_) fun _ _ z => z
      subst hr
      refine wpAny_mono h4 (fun _ s5 ⟨x, H5, I5, r5, y5, st5, fr5⟩ => ?_) fun _ _ z => z
      have I5' := I5.pinned (stat (one _) fr5) (T.obj _ _ st5)
      refine wpAny_mono (hg cl H2.objs.size s2 H fp _ s5 σ3 H5 x u _ I5' r5 (step x H5 y5)) (fun _ s6 ⟨σ6, H6, I6, q6⟩ => ?_) fun _ _ z => z
      refine wpAny_mono (hif cl H2.objs.size s2 H fp _ s6 σ6 H6 _ I6 q6) (fun b s7 ⟨H7, I7, q7⟩ => ?_) fun _ _ z => z
      have fps : ∀ {σ8 : St} {H8 : Hp} {s8 : Shared}, Inv (cxC X sc cl N' H2.objs.size s2 H fp) ([(s2.heap.objs.size, { cls := .type "list", data := .seq its.toArray k })] ++ pinsAt fp s5.heap) σ8 H8 s8 →
          tn (i + 1) s8.heap ∧ ∀ b ∈ fp, H8 b = none := fun {σ8 H8 s8} I8 => by
        refine ⟨T.keep _ _ _ st5 fun b hb o e => (I8.pin (b, o) (List.mem_append_right _ (List.mem_append_right _ (mem_pinsAt hb e)))).1, fun b hb => ?_⟩
        obtain ⟨o, e, d⟩ := T.obj _ _ st5 b hb
        exact (I8.pin (b, o) (List.mem_append_right _ (List.mem_append_right _ (mem_pinsAt hb e)))).2.1
      cases b with
      | false =>
        obtain ⟨m', hm, w7⟩ := hN ys σ6 H7 q7
        exact ⟨m', hm, i + 1, ys, its, k, σ6, H7, I7.unpinned, (fps I7).1, (fps I7).2, rv, w7⟩
      | true =>
        have q7' : te σ6 H7 fun y H4 => N (ys ++ [y]) σ6 H4 := q7
        refine wpAny_mono (he cl H2.objs.size s2 H fp _ s7 σ6 H7 _ I7 q7') (fun uy s8 ⟨y, H8, I8, r8, n8⟩ => ?_) fun _ _ z => z
        obtain ⟨m', hm, w8⟩ := hN _ _ _ n8
        obtain ⟨hDo, hDn, hDL, hDf, _⟩ := I8.pin (s2.heap.objs.size, { cls := .type "list", data := .seq its.toArray k }) (List.mem_append_right _ (List.mem_append_left _ List.mem_cons_self))
        have hys : its.toArray.size ≤ sizeLine := by rw [List.size_toArray, ← rv.length]; exact Nat.le_of_lt hlen
        refine wpAny_list_append_plain (hsz := hys) (⟨k, hDo⟩ : s8.heap.PlainList s2.heap.objs.size its.toArray) fun h9 ⟨k', hl9⟩ hs9 => ?_
        have hDp : ∀ p ∈ (cxC X sc cl N' H2.objs.size s2 H fp).pn ++ pinsAt fp s5.heap, p.1 ≠ s2.heap.objs.size := fun p hp => by
          have hp' : p ∈ pinsAt fp s5.heap := by
            have hp2 : p ∈ ([] : List (Addr × Obj)) ++ pinsAt fp s5.heap := hp
            simpa using hp2
          obtain ⟨hb, _⟩ := of_pinsAt hp'
          obtain ⟨_, ob, e⟩ := fpo p.1 hb
          exact (below p.1 (Heap.lt_size e)).2
        have I8' : Inv (cxC X sc cl N' H2.objs.size s2 H fp) (pinsAt fp s5.heap) σ6 H8 s8 := I8.pins_of fun p hp => I8.pin p (List.mem_append_right _ (List.mem_append_right _ hp))
        have I9 : Inv (cxC X sc cl N' H2.objs.size s2 H fp) (pinsAt fp s5.heap) σ6 H8 { s8 with heap := h9 } := I8'.turned (t' := s8.toks) (it := s2.heap.objs.size) (fun b o hb e => (hs9.2 b hb).trans e) hDn hDL (.inr (Nat.le_refl _))
          (fun x c e z => by
            obtain ⟨v, q⟩ := I2.cell x c (h1 x c e)
            have := q.lt
            rw [z] at this
            exact absurd this (Nat.lt_irrefl _)) hDp
        have key := fps I8
        refine ⟨m', hm, i + 1, ys ++ [y], its ++ [uy], k', σ6, H8, I9.pins_of fun p hp => ?_, T.keep _ _ _ key.1 fun b hb o e => ?_, key.2, rv.append (.cons r8 .nil), w8⟩
        · have e : p = (s2.heap.objs.size, { cls := .type "list", data := .seq (its ++ [uy]).toArray k' }) := by simpa using hp
          subst e
          refine ⟨?_, hDn, hDL, hDf, fun v z => by cases z⟩
          have : (its ++ [uy]).toArray = its.toArray.push uy := by simp
          rw [this]; exact hl9
        · obtain ⟨_, ob, e2⟩ := fpo b hb
          exact (hs9.2 b (below b (Heap.lt_size e2)).2).trans e
  exact codeAny_compStart_list (loop _ rfl) (wpAny_mono (T.self X.A 0 _ (fun it' s' => it' = .ref it ∧ s' = { s2 with heap := h₁, toks := s2.toks + ([] : List (Str × Value)).length }) _ st1 ⟨rfl, rfl⟩) (fun it' s' ⟨e1, e2⟩ => by subst e1 e2; exact loop _ rfl) fun _ _ z => z)
def tComp (n : Nat) (fr : List Nat) (wi : TI) (g : TG) (tt : TT) (te : TE) : TE := fun σ H Q => wi σ H fun J H1 => Comp J g tt te (fun ys H2 => ∀ D, H2 D = none → Q (.ref D) (upd H2 D (.lst ys))) (cst n fr σ) H1
theorem pe_comp (hc : X.calm = true) (cs : CompOk sc X.env.scope own X.N fr N') (hi : PI X tg iter wi) (hg : ∀ cl C s H fp, PG (cxC X sc cl N' C s H fp) tg g) (hif : ∀ cl C s H fp, PIf (cxC X sc cl N' C s H fp) ifs tt)
    (he : ∀ cl C s H fp, PE (cxC X sc cl N' C s H fp) elt te) (hs : ∀ x, foldedSetIterable iter X.env x = pure x := by intro _; rfl) : PE X (.ListComp elt [⟨tg, iter, ifs, 0⟩] sc pos) (tComp own.length fr wi g tt te) := by
  intro pins s σ H Q I h
  obtain ⟨cl, ecl, h1, h2⟩ := closure_has (env := X.env) (sc := sc) fun y hy hf => I.ok.has y.1 (cs.fre y hy hf)
  rw [eval_ListComp]
  refine wpAny_comprehension_free (use := none) rfl hs ecl cs.kind cs.loc (thn (hi pins s σ H _ I h) fun v s1 q1 => thn q1 fun itv s2 q2 => ?_)
  obtain ⟨it, fp, tn, J, H2, rfl, I2, T, st, f2, KK⟩ := q2
  refine comp_block (RR := fun acc C => compPost (model X.prog X.w) X.A X.xe none (EP X pins σ Q) acc C) I2 (fun _ _ _ _ _ => hc) T.x st f2 cs h1 h2 hg hif he KK fun D C m H' ys s' hC hn hD hCn hq I' => ?_
  refine ⟨m, hn, fun h' hs' => ⟨.ref D, upd H' D (.lst ys), ?_, rfl, hq D hD⟩⟩
  obtain ⟨f0, f1, f2, f3, f4, f5⟩ := I2.fpOk hC hCn
  exact I'.turned (t' := s'.toks) (it := C) (fun b o hb e => (hs'.2 b hb).trans e) f0 (Ne.symm (Ne.symm f1)) f3 f4 f5
def tSetC (i n : Nat) (fr : List Nat) (wi : TI) (g : TG) (tt : TT) (te : TE) : TS := fun D σ H => wi σ H fun J H1 => Comp J g tt te (fun ys H2 => ∀ p, H2 p = none → D.nx (σ.set i (some (.ref p))) (upd H2 p (.lst ys))) (cst n fr σ) H1
theorem ps_setC {i : Nat} {y : Str} {py spos : Pos} (hN : X.N.Nodup) (hy : X.N[i]? = some y) (hx : Loc X.env.scope y) (hc : X.calm = true) (cs : CompOk sc X.env.scope own X.N fr N') (hi : PI X tg iter wi)
    (hg : ∀ cl C s H fp, PG (cxC X sc cl N' C s H fp) tg g) (hif : ∀ cl C s H fp, PIf (cxC X sc cl N' C s H fp) ifs tt) (he : ∀ cl C s H fp, PE (cxC X sc cl N' C s H fp) elt te)
    (hsw : swapsWith (.ListComp elt [⟨tg, iter, ifs, 0⟩] sc pos) (some (.Name y py)) spos.line X.env = pure true) (hfn : X.fn y = true ∨ X.env.scope.names.lookup y = some .local := by first | exact .inl rfl | exact .inr rfl | assumption) (hs : ∀ x, foldedSetIterable iter X.env x = pure x := by intro _; rfl) :
    PS X (.Assign [.Name y py] (.ListComp elt [⟨tg, iter, ifs, 0⟩] sc pos) spos) (tSetC i own.length fr wi g tt te) := by
  intro pins s σ H D I h
  obtain ⟨cl, ecl, h1, h2⟩ := closure_has (env := X.env) (sc := sc) fun y hy hf => I.ok.has y.1 (cs.fre y hy hf)
  rw [exec_Assign_Name_used _ _ _ _ hsw]
  refine wpAny_bind (wpAny_standAt (wpAny_bind ?_))
  show wpAny _ X.A (do let _ ← comprehension (.ListComp elt [⟨tg, iter, ifs, 0⟩] sc pos) sc X.env _ (newList []) false (eval iter X.env) (some (assign (.Name y py) X.env))) _ _ s
  refine wpAny_bind (wpAny_mono (wpAny_comprehension_free (use := some (assign (.Name y py) X.env)) (Q := fun _ s' => ∃ σ' H', Inv X pins σ' H' s' ∧ D.nx σ' H') rfl hs ecl cs.kind cs.loc (thn (hi pins s σ H _ I h) fun v s1 q1 => thn q1 fun itv s2 q2 => ?_))
    (fun _ s' hq => wpAny_pure (wpAny_pure hq)) fun _ _ e => e)
  obtain ⟨it, fp, tn, J, H2, rfl, I2, T, st, f2, KK⟩ := q2
  refine comp_block (RR := fun acc C => compPost (model X.prog X.w) X.A X.xe (some (assign (.Name y py) X.env)) (fun _ s' => ∃ σ' H', Inv X pins σ' H' s' ∧ D.nx σ' H') acc C) I2 (fun _ _ _ _ _ => hc) T.x st f2 cs h1 h2 hg hif he KK fun p C m H' ys s' hC hn hD hCn hq I' => ?_
  obtain ⟨f0, f1, f2, f3, f4, f5⟩ := I2.fpOk hC hCn
  show wpAny _ X.A (assign (.Name y py) X.env (.ref p)) _ _ _
  refine wpAny_assign_Name (store_ok2 (v := .ref p) I' hN hy hx rfl (fun s'' I'' ⟨a, hsa, ha⟩ => ?_) hfn)
  have hCa : C ≠ a := by
    rcases ha with z | z
    · rw [z]; exact f1
    · exact Ne.symm (f4 y a z)
  refine ⟨m, hn.sameBut hsa hCa, fun h' hs' => ⟨_, _, ?_, hq p hD⟩⟩
  exact I''.turned (t' := s''.toks) (it := C) (fun b o hb e => (hs'.2 b hb).trans e) f0 f1 f3 f4 f5
end
theorem comp_by {J : It} {g : TG} {tt : TT} {te : TE} {Q : List V → Hp → Prop} {σ : St} {H : Hp} (n : Nat) (Pv : Nat → List V → St → Hp → Prop) (h0 : Pv 0 [] σ H) (hl : ∀ i ys σ H, i ≤ n → Pv i ys σ H → ys.length < sizeLine)
    (go : ∀ i ys σ H, i < n → Pv i ys σ H → J.go i H) (stop : ∀ ys σ H, Pv n ys σ H → J.stop n H)
    (turn : ∀ i ys σ H, i < n → Pv i ys σ H → ∀ x H', J.yld i H x H' → g x σ H' fun σ2 H2 => tt σ2 H2 fun b H3 => if b = true then te σ2 H3 fun y H4 => Pv (i + 1) (ys ++ [y]) σ2 H4 else Pv (i + 1) ys σ2 H3)
    (after : ∀ ys σ H, Pv n ys σ H → Q ys H) : Comp J g tt te Q σ H := by
  refine ⟨fun i m ys σ H => i ≤ n ∧ m = n - i ∧ Pv i ys σ H, ⟨n, Nat.zero_le _, rfl, h0⟩, fun i m ys σ H ⟨hi, hm, p⟩ => ⟨hl i ys σ H hi p, ?_⟩⟩
  rcases Nat.lt_or_ge i n with h | h
  · exact .inr ⟨go i ys σ H h p, Pv (i + 1), fun ys' σ' H' q => ⟨n - (i + 1), by omega, h, rfl, q⟩, turn i ys σ H h p⟩
  · have e : i = n := Nat.le_antisymm hi h
    subst e
    exact .inl ⟨stop ys σ H p, after ys σ H p⟩
theorem comp_range {lo : Int} {n : Nat} {g : TG} {tt : TT} {te : TE} {Q : List V → Hp → Prop} {σ : St} {H : Hp} (Pv : Nat → List V → St → Hp → Prop) (hn : n < sizeLine) (h0 : Pv 0 [] σ H) (hl : ∀ i ys σ H, i ≤ n → Pv i ys σ H → ys.length ≤ i)
    (turn : ∀ i ys σ H, i < n → Pv i ys σ H → g (.int (lo + i)) σ H fun σ2 H2 => tt σ2 H2 fun b H3 => if b = true then te σ2 H3 fun y H4 => Pv (i + 1) (ys ++ [y]) σ2 H4 else Pv (i + 1) ys σ2 H3)
    (after : ∀ ys σ H, Pv n ys σ H → Q ys H) : Comp (Itr lo n) g tt te Q σ H :=
  comp_by n Pv h0 (fun i ys σ H hi p => Nat.lt_of_le_of_lt (Nat.le_trans (hl i ys σ H hi p) hi) hn) (fun i _ _ _ hi _ => hi) (fun _ _ _ _ => Nat.le_refl _) (fun i ys σ H hi p x H' y => by obtain ⟨rfl, rfl⟩ := y; exact turn i ys σ _ hi p) after
theorem comp_list {K : PySem.W.Frag} {a : Addr} (xs : List V) {g : TG} {tt : TT} {te : TE} {Q : List V → Hp → Prop} {σ : St} {H : Hp} (Pv : Nat → List V → St → Hp → Prop) (hn : xs.length < sizeLine) (h0 : Pv 0 [] σ H) (hl : ∀ i ys σ H, i ≤ xs.length → Pv i ys σ H → ys.length ≤ i ∧ SqL K H a xs)
    (turn : ∀ i ys σ H x, xs[i]? = some x → Pv i ys σ H → g x σ H fun σ2 H2 => tt σ2 H2 fun b H3 => if b = true then te σ2 H3 fun y H4 => Pv (i + 1) (ys ++ [y]) σ2 H4 else Pv (i + 1) ys σ2 H3)
    (after : ∀ ys σ H, Pv xs.length ys σ H → Q ys H) : Comp (Itl K a) g tt te Q σ H :=
  comp_by xs.length Pv h0 (fun i ys σ H hi p => Nat.lt_of_le_of_lt (Nat.le_trans (hl i ys σ H hi p).1 hi) hn) (fun i ys σ H hi p => ⟨xs, xs[i], (hl i ys σ H (Nat.le_of_lt hi) p).2, List.getElem?_eq_getElem hi⟩)
    (fun ys σ H p => ⟨xs, (hl _ ys σ H (Nat.le_refl _) p).2, Nat.le_refl _⟩) (fun i ys σ H hi p x H' y => by obtain ⟨rfl, y⟩ := y; exact turn i ys σ _ x (y xs (hl i ys σ _ (Nat.le_of_lt hi) p).2) p) after
theorem comp_tup {K : PySem.W.Frag} {a : Addr} (xs : List V) {g : TG} {tt : TT} {te : TE} {Q : List V → Hp → Prop} {σ : St} {H : Hp} (Pv : Nat → List V → St → Hp → Prop) (hn : xs.length < sizeLine) (h0 : Pv 0 [] σ H) (hl : ∀ i ys σ H, i ≤ xs.length → Pv i ys σ H → ys.length ≤ i ∧ SqT K H a xs)
    (turn : ∀ i ys σ H x, xs[i]? = some x → Pv i ys σ H → g x σ H fun σ2 H2 => tt σ2 H2 fun b H3 => if b = true then te σ2 H3 fun y H4 => Pv (i + 1) (ys ++ [y]) σ2 H4 else Pv (i + 1) ys σ2 H3)
    (after : ∀ ys σ H, Pv xs.length ys σ H → Q ys H) : Comp (Itt K a) g tt te Q σ H :=
  comp_by xs.length Pv h0 (fun i ys σ H hi p => Nat.lt_of_le_of_lt (Nat.le_trans (hl i ys σ H hi p).1 hi) hn) (fun i ys σ H hi p => ⟨xs, xs[i], (hl i ys σ H (Nat.le_of_lt hi) p).2, List.getElem?_eq_getElem hi⟩)
    (fun ys σ H p => ⟨xs, (hl _ ys σ H (Nat.le_refl _) p).2, Nat.le_refl _⟩) (fun i ys σ H hi p x H' y => by obtain ⟨rfl, y⟩ := y; exact turn i ys σ _ x (y xs (hl i ys σ _ (Nat.le_of_lt hi) p).2) p) after
end L2

namespace L2
open PySem PySem.Spec PyProof.Rows
section
variable {prog : Program} {w : World} {A : Around} {E : Value → Shared → Prop} {s : Shared}
end
def Itn (K : PySem.W.Frag) (k : SK) (a : Addr) : It :=
  ⟨fun i H => ∃ xs x, Sq k K H a xs ∧ xs[i]? = some x,
   fun i H v H' => ∃ T, H T = none ∧ v = .ref T ∧ ∀ xs, Sq k K H a xs → ∃ x, xs[i]? = some x ∧ H' = upd H T (.tup [.int i, x]),
   fun i H => ∃ xs, Sq k K H a xs ∧ xs.length ≤ i⟩
section
variable {X : Cx} {elts : List Expr} {kk : Nat} {tpos : Pos}
def iEnum (K : PySem.W.Frag) (k : SK) (ta : TA) : TI := fun σ H R => ta σ H fun vs H1 => ∃ a, vs = [.ref a] ∧ (∃ xs, Sq k K H1 a xs) ∧ R (Itn K k a) H1
end
theorem comp_zip {K : PySem.W.Frag} {k1 k2 : SK} {a b : Addr} (xs zs : List V) {g : TG} {tt : TT} {te : TE} {Q : List V → Hp → Prop} {σ : St} {H : Hp} (Pv : Nat → List V → St → Hp → Prop) (hn : xs.length < sizeLine) (hz : xs.length = zs.length) (h0 : Pv 0 [] σ H) (hl : ∀ i ys σ H, i ≤ xs.length → Pv i ys σ H → ys.length ≤ i ∧ Sq k1 K H a xs ∧ Sq k2 K H b zs)
    (turn : ∀ i ys σ H x z T, xs[i]? = some x → zs[i]? = some z → Pv i ys σ H → H T = none → g (.ref T) σ (upd H T (.tup [x, z])) fun σ2 H2 => tt σ2 H2 fun b H3 => if b = true then te σ2 H3 fun y H4 => Pv (i + 1) (ys ++ [y]) σ2 H4 else Pv (i + 1) ys σ2 H3)
    (after : ∀ ys σ H, Pv xs.length ys σ H → Q ys H) : Comp (Itz K k1 k2 a b) g tt te Q σ H :=
  comp_by xs.length Pv h0 (fun i ys σ H hi p => Nat.lt_of_le_of_lt (Nat.le_trans (hl i ys σ H hi p).1 hi) hn)
    (fun i ys σ H hi p => ⟨xs, zs, xs[i], zs[i]'(hz ▸ hi), (hl i ys σ H (Nat.le_of_lt hi) p).2.1, (hl i ys σ H (Nat.le_of_lt hi) p).2.2, List.getElem?_eq_getElem hi, List.getElem?_eq_getElem (hz ▸ hi)⟩)
    (fun ys σ H p => ⟨xs, zs, (hl _ ys σ H (Nat.le_refl _) p).2.1, (hl _ ys σ H (Nat.le_refl _) p).2.2, .inl (Nat.le_refl _)⟩) (fun i ys σ H hi p x H' y => by
      obtain ⟨T, hT, rfl, y⟩ := y
      obtain ⟨u, v, e1, e2, rfl⟩ := y xs zs (hl i ys σ _ (Nat.le_of_lt hi) p).2.1 (hl i ys σ _ (Nat.le_of_lt hi) p).2.2
      exact turn i ys σ _ u v T e1 e2 p hT) after
end L2

namespace L2
open PySem PySem.Spec PyProof.Rows
section
variable {prog : Program} {w : World} {A : Around} {E : Value → Shared → Prop} {s : Shared}
end
section
variable {prog : Program} {w : World} {K : Type} [DecidableEq K] {knd : KeyKind prog w K} {A : Around} {R : Result → Shared → Prop}
end
section
variable {prog : Program} {w : World} {K : Type} [DecidableEq K] {knd : KeyKind prog w K} {A : Around} {E : Value → Shared → Prop} {s : Shared}
end
end L2

namespace L2
open PySem PySem.Spec PyProof.Rows
abbrev IsZipK (h : Heap) (z TI TO : Addr) (T : Addr) (f1 : Bool) : Prop :=
  h.get? z = some { cls := .type "zip", dict := none, data := .fields #[rawInt T, .bool f1, .bool false, .ref TI, .ref TO], slots := #[] }
section
variable {prog : Program} {w : World} {A : Around} {E : Value → Shared → Prop} {s : Shared}
end
def PairsAt (h : Heap) (us : List Value) (xs ys : List Value) : Prop := us.length ≤ xs.length ∧ us.length ≤ ys.length ∧ ∀ (j : Nat) (u : Value), us[j]? = some u → ∃ (t : Addr) (x y : Value), u = .ref t ∧ xs[j]? = some x ∧ ys[j]? = some y ∧ IsPair h t x y
section
variable {prog : Program} {w : World} {A : Around} {R : Result → Shared → Prop}
end
section
variable {prog : Program} {w : World} {A : Around} {E : Value → Shared → Prop} {s : Shared}
end
end L2

namespace L2
open PySem PySem.Spec PyProof.Rows
section
variable {X : Cx} {pins : List (Addr × Obj)} {σ : List (Option V)} {H H' : Hp} {s : Shared} {h' : Heap}
end
section
variable {X : Cx}
def tLZ (K : PySem.W.Frag) (k1 k2 : SK) (ta : TA) : TE := fun σ H Q => ta σ H fun vs H1 => ∃ a b xs ys, vs = [.ref a, .ref b] ∧ Sq k1 K H1 a xs ∧ Sq k2 K H1 b ys ∧ xs.length = ys.length ∧ xs.length ≤ sizeLine ∧
  ∀ (p : Addr) (ts : List Addr) (H' : Hp), Ch [] H1 H' → H1 p = none → H' p = some (.lst (ts.map V.ref)) → ts.length = xs.length →
    (∀ (i : Nat) (t : Addr) (x y : V), ts[i]? = some t → xs[i]? = some x → ys[i]? = some y → H' t = some (.tup [x, y])) → Q (.ref p) H'
def adr : Value → Addr
  | .ref a => a
  | _ => 0
theorem bools_truth {prog : Program} {w : World} {A : Around} {bs : List Bool} : TruthOf prog w A (fun i v => (bs.map fun b => Value.bool b).toArray[i]? = some v) (fun i => bs.getD i false) := by
  intro i v s Q E hP hQ
  have hP' : (bs.map fun b => Value.bool b)[i]? = some v := by simpa using hP
  rw [List.getElem?_map] at hP'
  cases e : bs[i]? with
  | none => rw [e] at hP'; cases hP'
  | some b =>
    rw [e] at hP'
    cases hP'
    have : bs.getD i false = b := by rw [List.getD_eq_getElem?_getD, e]; rfl
    have hQ : Q (bs.getD i false) s := hQ
    rw [this] at hQ
    exact wpAny_pure hQ
theorem range_all (bs : List Bool) : ((List.range bs.length).all fun i => bs.getD i false) = bs.all id := by
  rw [Bool.eq_iff_iff, List.all_eq_true, List.all_eq_true]
  constructor
  · intro h b hb
    obtain ⟨i, hi, rfl⟩ := List.mem_iff_getElem.mp hb
    have := h i (List.mem_range.mpr hi)
    rw [List.getD_eq_getElem?_getD, List.getElem?_eq_getElem hi] at this
    exact this
  · intro h i hi
    have hi := List.mem_range.mp hi
    rw [List.getD_eq_getElem?_getD, List.getElem?_eq_getElem hi]
    exact h _ (List.getElem_mem hi)
theorem vals_bools : ∀ {bs : List Bool} {its : List Value}, Vals (bs.map V.bl) its → its = bs.map fun b => Value.bool b
  | [], _, .nil => rfl
  | b :: bs, _, .cons r t => by rw [List.map_cons, vals_bools t]; cases r; rfl
theorem call_all (hc : X.calm = true) : CallR X (.builtin "all") (fun xs H Q => ∃ (p : Addr) (bs : List Bool), xs = [.ref p] ∧ H p = some (.lst (bs.map V.bl)) ∧ Q (.bl (bs.all id)) H) := by
  intro pins s σ H xs us Q I r h
  obtain ⟨p, bs, rfl, hp, q⟩ := h
  obtain ⟨u, rfl, ru⟩ := vals1 r
  cases ru
  obtain ⟨z, its, n, rv, e⟩ := I.hok p _ hp
  have ei := vals_bools rv
  subst ei
  have hl : s.heap.IsList p (bs.map fun b => Value.bool b).toArray := ⟨_, e, rfl, n, rfl⟩
  refine call_all_walk (wpAny_pyIter_list hl ?_)
  have hne : p ≠ s.heap.objs.size := Nat.ne_of_lt (Heap.lt_size e)
  refine ⟨s.heap.objs.size, _, _, _, _, _, _, rfl, Walks.list (by first | exact I.ok.hd hc | (show X.A.in1.handled = none; exact I.ok.hd hc)) s.heap.objs.size p hne (bs.map fun b => Value.bool b).toArray,
    ⟨⟨_, Heap.get?_push_size _ rfl, rfl, rfl⟩, ⟨_, Heap.get?_push_of_some _ e, rfl, n, rfl⟩⟩, bools_truth, fun h' tk hk => ?_⟩
  have sz : (bs.map fun b => Value.bool b).toArray.size = bs.length := by simp
  rw [sz, range_all]
  exact ⟨.bl (bs.all id), H, I.kept (t' := tk) fun b o eb => hk b o (by simp; exact Nat.ne_of_lt (Heap.lt_size eb)) (Heap.get?_push_of_some _ eb), rfl, q⟩
end
end L2

namespace L2
open PySem PySem.Spec PyProof.Rows
section
variable {X : Cx} {pins : List (Addr × Obj)} {σ : St} {H : Hp} {s : Shared} {A : Around} {E : Value → Shared → Prop} {Q : Value → Shared → Prop} {b : Bool}
theorem isinsts_ok {x : V} {u t : Value} {tp : Addr} {its : List Value} {o : Obj} {n : Nat} (I : Inv X pins σ H s) (rx : RelV x u) (ty : TyOf X.K H x t) (ho : s.heap.get? tp = some o) (hoc : o.cls = .type "tuple") (hod : o.data = .seq its.toArray n)
    (e : PySem.W.kitAny X.K t its = some b) (h : ∀ tk, Q (.bool b) { s with toks := tk }) :
    wpAny (model X.prog X.w) A (call (.builtin "isinstance") [u, .ref tp]) Q E s := by
  obtain ⟨c0, d0, t0, l0⟩ := o
  replace hoc : c0 = .type "tuple" := hoc
  replace hod : t0 = .seq its.toArray n := hod
  subst hoc hod
  cases ty with
  | non => cases (show u = Value.none from rx); exact PySem.W.kia_tup PySem.W.kitx_none I.kIn True.intro ho e (fun z => nomatch z) h
  | bl y => cases (show u = Value.bool y from rx); exact PySem.W.kia_tup PySem.W.kitx_bool I.kIn True.intro ho e (fun z => nomatch z) h
  | int i => obtain ⟨t, q⟩ := (show ∃ t, u = Value.int i t from rx); cases q; exact PySem.W.kia_tup PySem.W.kitx_int I.kIn True.intro ho e (fun z => nomatch z) h
  | str y => obtain ⟨t, q⟩ := (show ∃ t, u = Value.str y t from rx); cases q; exact PySem.W.kia_tup PySem.W.kitx_str I.kIn True.intro ho e (fun z => nomatch z) h
  | flt y => obtain ⟨t, q⟩ := (show ∃ t, u = Value.float y t from rx); cases q; exact PySem.W.kia_tup PySem.W.kitx_float I.kIn True.intro ho e (fun z => nomatch z) h
  | @lst a xs ea =>
    cases (show u = Value.ref a from rx)
    obtain ⟨_, _, n, _, h1⟩ := (show ObjOk X.prog X.w H s.heap a (.lst xs) from I.hok a _ ea)
    exact PySem.W.kia_tup PySem.W.kitx_list I.kIn ⟨_, h1, rfl⟩ ho e (fun z => nomatch z) h
  | @frz a ob xs ea =>
    cases (show u = Value.ref a from rx)
    obtain ⟨_, _, _, n, _, h1⟩ := (show ObjOk X.prog X.w H s.heap a (.frz ob (.lst xs)) from I.hok a _ ea)
    exact PySem.W.kia_tup PySem.W.kitx_list I.kIn ⟨_, h1, rfl⟩ ho e (fun z => nomatch z) h
  | @tup a xs ea =>
    cases (show u = Value.ref a from rx)
    obtain ⟨_, _, _, p⟩ := (show ObjOk X.prog X.w H s.heap a (.tup xs) from I.hok a _ ea)
    obtain ⟨o, h1, h2, _⟩ := p
    exact PySem.W.kia_tup PySem.W.kitx_tuple I.kIn ⟨o, h1, h2⟩ ho e (fun z => nomatch z) h
  | @dK a kvs ea =>
    cases (show u = Value.ref a from rx)
    obtain ⟨_, _, vs, _, p⟩ := (show ObjOk X.prog X.w H s.heap a (.dK kvs) from I.hok a _ ea)
    obtain ⟨o, es, ep, h1, h2, _⟩ := p
    exact PySem.W.kia_tup PySem.W.kitx_dict I.kIn ⟨o, h1, h2.1⟩ ho e (fun z => nomatch z) h
  | @dT a kvs ea =>
    cases (show u = Value.ref a from rx)
    obtain ⟨_, _, xs, _, o, es, ep, h1, h2, _⟩ := (show ObjOk X.prog X.w H s.heap a (.dT kvs) from I.hok a _ ea)
    exact PySem.W.kia_tup PySem.W.kitx_dict I.kIn ⟨o, h1, h2.1⟩ ho e (fun z => nomatch z) h
  | @ins a C dx fs ea cl ha hn htk hm =>
    cases (show u = Value.ref a from rx)
    obtain ⟨mA, O, _⟩ := ins_get I.hok ea
    obtain ⟨od, J, _⟩ := O.look
    exact PySem.W.kia_tup (PySem.W.kitx_own (cl.get _) cl.hd ha hn htk hm) I.kIn J ho e (fun z => nomatch z) h
end
def rIsTs (K : PySem.W.Frag) : List V → Hp → VK → Prop := fun xs H Q => ∃ (x : V) (p : Addr) (Ts : List String) (t : Value) (b : Bool), xs = [x, .ref p] ∧ H p = some (.tup (Ts.map V.ty)) ∧ TyOf K H x t ∧ PySem.W.kitAny K t (Ts.map Value.type) = some b ∧ Q (.bl b) H
theorem vals_tys : ∀ {Ts : List String} {us : List Value}, Vals (Ts.map V.ty) us → us = Ts.map Value.type
  | [], _, .nil => rfl
  | T :: Ts, _, .cons r t => by rw [List.map_cons, vals_tys t]; cases r; rfl
theorem call_isTs {X : Cx} : CallR X (.builtin "isinstance") (rIsTs X.K) := by
  intro pins s σ H xs us Q I r h
  obtain ⟨x, p, Ts, t, b, rfl, hp, ty, e, q⟩ := h
  obtain ⟨u, v, rfl, ru, rv⟩ := vals2 r
  cases rv
  obtain ⟨_, its, rt, o, ho, hoc, n, hod⟩ := I.hok p _ hp
  have := vals_tys rt
  subst this
  exact isinsts_ok I ru ty ho hoc hod e fun tk => ⟨.bl b, H, I.tok _, rfl, q⟩
example (K : PySem.W.Frag) : PySem.W.kitAny K (.type "list") [.type "list", .type "tuple"] = some true := rfl
example (K : PySem.W.Frag) : PySem.W.kitAny K (.type "tuple") [.type "list", .type "tuple"] = some true := rfl
example (K : PySem.W.Frag) : PySem.W.kitAny K (.type "int") [.type "list", .type "tuple"] = some false := rfl
end L2

namespace L2
open PySem PySem.Spec PyProof.Rows
structure MethOk (P : Program) (w : World) (K : PySem.W.Frag) (mg : Str → Option Value) (base : Heap) (CX : CXT) (k : Nat) (C : Addr) (m : Str) (ps : List Str) (sp : Sp) : Prop where
  cl : Cls K C
  ex : ∃ (f : Addr) (fd : FuncData), FnOk P w K mg base CX k f fd ps sp ∧ Binds K fd ps [] ∧ Meth K C m f
structure MakeOk (P : Program) (w : World) (K : PySem.W.Frag) (mg : Str → Option Value) (base : Heap) (CX : CXT) (k : Nat) (C : Addr) (x : Str) (ps : List Str) (sp : Sp) : Prop where
  ex : ∃ (f : Addr) (fd : FuncData), FnOk P w K mg base CX k f fd ps sp ∧ Binds K fd ps [] ∧ Mk K C f ∧ mg x = some (.ref C)
theorem MakeOk.mono {P : Program} {w : World} {K : PySem.W.Frag} {mg : Str → Option Value} {base : Heap} {CX : CXT} {j k : Nat} {C : Addr} {x : Str} {ps : List Str} {sp : Sp} (D : MakeOk P w K mg base CX j C x ps sp) (h : j ≤ k) : MakeOk P w K mg base CX k C x ps sp := by
  obtain ⟨f, fd, F, b⟩ := D.ex
  exact ⟨f, fd, F.mono h, b⟩
section
variable {X : Cx} {CX : CXT} {k : Nat} {C : Addr} {ps : List Str} {sp : Sp} {E : XK} {x m : Str} {p pos apos : Pos} {e o : Expr} {es : List Expr} {ta : TE} {t : TA}
theorem qpe_makeD (D : MakeOk X.prog X.w X.K X.mg X.base CX k C x ps sp) (hr : Room (k + 1) X.A) (hg : Gl X x) (hx : Passes CX X E)
    (ha : Pr (PA X (e :: es) t)) (hdb : (x == ("__debug__" : Str)) = false := by decide) (he : starEach (e :: es) X.env = (false, eval e X.env) :: starEach es X.env := by rfl) (hpl : (backTo pos (starEach es X.env)).any (·.1) = false := by rfl) :
    Pr (PE X (.Call (.Name x p) (e :: es) [] pos) (tMake C sp [] E t)) := by
  obtain ⟨f, fd, F, b, M, hm⟩ := D.ex
  exact ⟨pe_make M F hr hg hm b .nil hx ha.h hdb he hpl⟩
end
section
variable {X : Cx} {sc : Scope} {own : List Str} {fr : List Nat} {N' : List Str} {tg elt iter : Expr} {ifs : List Expr} {g : TG} {tt : TT} {te : TE} {wi : TI} {pos : Pos}
theorem qpif_nil : Pr (PIf X [] tYes) := ⟨pif_nil⟩
theorem qpe_comp (hc : X.calm = true) (cs : CompOk sc X.env.scope own X.N fr N') (hi : Pr (PI X tg iter wi)) (hg : ∀ cl C s H fp, Pr (PG (cxC X sc cl N' C s H fp) tg g)) (hif : ∀ cl C s H fp, Pr (PIf (cxC X sc cl N' C s H fp) ifs tt))
    (he : ∀ cl C s H fp, Pr (PE (cxC X sc cl N' C s H fp) elt te)) (hs : ∀ x, foldedSetIterable iter X.env x = pure x := by intro _; rfl) : Pr (PE X (.ListComp elt [⟨tg, iter, ifs, 0⟩] sc pos) (tComp own.length fr wi g tt te)) :=
  ⟨pe_comp hc cs hi.h (fun a b c d e => (hg a b c d e).h) (fun a b c d e => (hif a b c d e).h) (fun a b c d e => (he a b c d e).h) hs⟩
theorem qps_setC {i : Nat} {y : Str} {py spos : Pos} (hN : X.N.Nodup) (hy : X.N[i]? = some y) (hx : Loc X.env.scope y) (hc : X.calm = true) (cs : CompOk sc X.env.scope own X.N fr N') (hi : Pr (PI X tg iter wi))
    (hg : ∀ cl C s H fp, Pr (PG (cxC X sc cl N' C s H fp) tg g)) (hif : ∀ cl C s H fp, Pr (PIf (cxC X sc cl N' C s H fp) ifs tt)) (he : ∀ cl C s H fp, Pr (PE (cxC X sc cl N' C s H fp) elt te))
    (hsw : swapsWith (.ListComp elt [⟨tg, iter, ifs, 0⟩] sc pos) (some (.Name y py)) spos.line X.env = pure true) (hfn : X.fn y = true ∨ X.env.scope.names.lookup y = some .local := by first | exact .inl rfl | exact .inr rfl | assumption) (hs : ∀ x, foldedSetIterable iter X.env x = pure x := by intro _; rfl) :
    Pr (PS X (.Assign [.Name y py] (.ListComp elt [⟨tg, iter, ifs, 0⟩] sc pos) spos) (tSetC i own.length fr wi g tt te)) :=
  ⟨ps_setC hN hy hx hc cs hi.h (fun a b c d e => (hg a b c d e).h) (fun a b c d e => (hif a b c d e).h) (fun a b c d e => (he a b c d e).h) hsw hfn hs⟩
theorem qpe_dget2 {o e f : Expr} {td ty tx : TE} {apos cpos : Pos} (hu : X.A.units + 1 < cLine) (ho : Pr (PE X o td)) (he : Pr (PE X e ty)) (hf : Pr (PE X f tx)) (m : M2 X o "get" apos e f cpos) : Pr (PE X (.Call (.Attribute o "get" apos) [e, f] [] cpos) (tDGet2 td ty tx)) := ⟨pe_dget2 hu ho.h he.h hf.h m⟩
theorem qps_never {st : Stmt} : Pr (PS X st tNever) := ⟨ps_never⟩
theorem compOk {sc outer : Scope} {own N : List Str} {fr : List Nat} {N' : List Str} (h1 : sc.kind = .function) (h2 : ∀ y ∈ sc.names, y.2 ≠ .cell) (h3 : ∀ y ∈ sc.names, y.2 = .local → sc.names.lookup y.1 = some .local)
    (h4 : ∀ y ∈ sc.names, y.2 = .free → outer.names.lookup y.1 = some .cell ∨ outer.names.lookup y.1 = some .free) (h5 : N'.Nodup) (h6 : N'.map some = own.map some ++ fr.map fun j => N[j]?)
    (h7 : ∀ x ∈ fr.filterMap (fun j => N[j]?), sc.names.lookup x = some .free ∧ (outer.names.lookup x = some .cell ∨ outer.names.lookup x = some .free)) : CompOk sc outer own N fr N' :=
  ⟨h1, h2, h3, h4, h5, h6, fun j hj x hx => h7 x (List.mem_filterMap.mpr ⟨j, hj, hx⟩)⟩
end
def rIsT2 (K : PySem.W.Frag) : List V → Hp → VK → Prop := fun xs H Q => ∃ (x : V) (p : Addr) (T1 T2 : String) (t : Value) (b : Bool), xs = [x, .ref p] ∧ H p = some (.tup [.ty T1, .ty T2]) ∧ TyOf K H x t ∧ PySem.W.kitAny K t [.type T1, .type T2] = some b ∧ Q (.bl b) H
theorem call_isT2 {X : Cx} : CallR X (.builtin "isinstance") (rIsT2 X.K) := fun pins s σ H xs us Q I r h => by
  obtain ⟨x, p, T1, T2, t, b, e, hp, ty, k, q⟩ := h
  exact call_isTs pins s σ H xs us Q I r ⟨x, p, [T1, T2], t, b, e, hp, ty, k, q⟩
theorem iteD {c : Prop} [Decidable c] {A B : Prop} (hc : c) (h : A) : if decide c = true then A else B := by rw [if_pos (decide_eq_true hc)]; exact h
theorem iteNn {c : Prop} [Decidable c] {A B : Prop} (hc : c) (h : B) : if (!decide c) = true then A else B := by rw [if_neg (by simp [hc])]; exact h
def Tu (H H' : Hp) : Prop := ∀ b xs, H b = some (.tup xs) → H' b = some (.tup xs)
end L2

namespace L2
open PySem PySem.Spec PyProof.Rows
section
variable {X : Cx} {a b o e value : Expr} {es : List Expr} {f : Str} {ta tb te : TE} {pos : Pos} {tg l : Expr}
theorem ixaK_list (K : PySem.W.Frag) (hK : X.K = K) : IxR X (aIxL K) := hK ▸ ixa_list
theorem ixaK_tup (K : PySem.W.Frag) (hK : X.K = K) : IxR X (aIxT K) := hK ▸ ixa_tup
theorem callK_len_seq (K : PySem.W.Frag) (hK : X.K = K) : CallR X (.builtin "len") (fun xs H Q => ∃ p ys, xs = [.ref p] ∧ (SqL K H p ys ∨ SqT K H p ys) ∧ Q (.int ys.length) H) := hK ▸ call_len_seq
theorem opK_in_seq (K : PySem.W.Frag) (hK : X.K = K) : OpR X (compareOp .In) (rIn K false) := hK ▸ op_in_seq
theorem qpi_listK (K : PySem.W.Frag) (hK : X.K = K) {tl : TE} (hl : Pr (PE X l tl)) : Pr (PI X tg l (iList K tl)) := hK ▸ ⟨pi_list hl.h⟩
theorem qpi_tupK (K : PySem.W.Frag) (hK : X.K = K) {tl : TE} (hl : Pr (PE X l tl)) : Pr (PI X tg l (iTup K tl)) := hK ▸ ⟨pi_tup hl.h⟩
theorem qpg_tupK (K : PySem.W.Frag) (n : Nat) (hK : X.K = K) {k : Nat} {t : TGs} (hc : X.calm = true) (h : Pr (PGs X es t)) (hn : (assignEach es X.env).length = n := by rfl) (hst : (assignEach es X.env).findIdx? (·.1) = none := by rfl) :
    Pr (PG X (.Tuple es k pos) (gTup K n t)) := hK ▸ ⟨pg_tup hc h.h hn hst⟩
end
end L2

namespace L2
open PySem PySem.Spec PyProof.Rows
structure Fl (h : Heap) (e C T : Addr) (fl : Value) : Prop where
  ob : ∃ oe vs, h.get? e = some oe ∧ (oe.cls = .ref C ∧ oe.dict = none) ∧ oe.data = .fields vs ∧ vs[1]? = some (.ref T) ∧ vs[2]? = some .none
  tb : ∃ oT ts, h.get? T = some oT ∧ oT.data = .fields ts ∧ ts[3]? = some fl
  ne : T ≠ e
def KB (ex fs : List Addr) (h h' : Heap) : Prop := ∀ b o, h.get? b = some o → b ∉ ex → (b ∉ fs → h'.get? b = some o) ∧ ∃ sl, h'.get? b = some { o with slots := sl }
section
variable {M : Model} {A : Around} {E : Value → Shared → Prop} {s : Shared} {base : Heap} {env : Env} {outer : List Env} {L e C T : Addr} {Q : Unit → Shared → Prop}
end
end L2

namespace L2
open PySem PySem.Spec PyProof.Rows
def CXE (P : Program) (w : World) : CXT := fun outer H s E e s' => ∃ (ea C T : Addr) (H' : Hp), e = .ref ea ∧ s'.os = s.os ∧ AllBare s'.gens ∧ Un (frs outer) [] H H' s.heap s'.heap ∧ HOk P w H' s'.heap ∧ Fl s'.heap ea C T .none ∧
  s.heap.get? ea = none ∧ s.heap.get? T = none ∧ H' ea = none ∧ H' T = none ∧ E (.ref C) none H'
section
variable {X : Cx} {pins : List (Addr × Obj)} {σ : St} {H H' : Hp} {s s' : Shared}
end
section
variable {P : Program} {w : World} {K : PySem.W.Frag} {mg : Str → Option Value} {base : Heap} {N : List Str} {qual : Str} {scope : Scope} {f : Addr} {cd : Value} {A : Around} {outer : List Env} {s₀ : Shared} {H₀ : Hp} {E : XK}
abbrev cxE (P : Program) (w : World) (K : PySem.W.Frag) (mg : Str → Option Value) (base : Heap) (N : List Str) (qual : Str) (scope : Scope) (f : Addr) (cd : Value) (A : Around) (outer : List Env) (s₀ : Shared) (H₀ : Hp) (E : XK) : Cx :=
  cxOf (CXE P w) P w K mg base N qual scope f cd A outer s₀ H₀ E
end
end L2

namespace L2
open PySem PySem.Spec PyProof.Rows
abbrev bmV : List Value := [.type "ValueError", .type "Exception", .type "BaseException", .type "object"]
def XC (K : PySem.W.Frag) (C : Addr) : Prop := PySem.W.excIn K C bmV "ValueError.__new__" = true
def tRaise (C : Addr) (E : XK) (t : TA) : TS := fun _ σ H => t σ H fun vs H1 => vs.length ≤ sizeLine ∧ E (.ref C) none H1
section
variable {P : Program} {w : World} {K : PySem.W.Frag} {mg : Str → Option Value} {base : Heap} {N : List Str} {qual : Str} {scope : Scope} {f : Addr} {cd : Value} {A : Around} {outer : List Env} {s₀ : Shared} {H₀ : Hp} {E : XK}
end
section
variable {P : Program} {w : World} {K : PySem.W.Frag} {mg : Str → Option Value} {base : Heap}
end
end L2

namespace L2
open PySem PySem.Spec PyProof.Rows
def Cx.hand (X : Cx) (v : Value) : Cx := { X with A := X.A.mark (some v), calm := false }
section
variable {X : Cx} {pins : List (Addr × Obj)} {σ : St} {H H' : Hp} {s s' : Shared} {v : Value}
def exO (a C : Addr) : HO := .ext fun h => ∃ o vs, h.get? a = some o ∧ (o.cls = .ref C ∧ o.dict = none) ∧ o.data = .fields vs ∧ vs[2]? = some .none
end
def XSub (K : PySem.W.Frag) (C CF : Addr) : Prop := (match K.lookup C with
  | some ⟨_, _, .cls cd, _⟩ => cd.mro.contains (.ref CF)
  | _ => false) = true
section
variable {M : Model} {A : Around} {E : Value → Shared → Prop} {s : Shared} {K : PySem.W.Frag} {C CF e : Addr}
end
end L2

namespace L2
open PySem PySem.Spec PyProof.Rows
abbrev XW := Value → Hp → Prop
abbrev XD := St → Value → Hp → Prop
def XE (X : Cx) (pins : List (Addr × Obj)) (σ : St) (Ew : XW) (e : Value) (s' : Shared) : Prop := ∃ H1 s1, Inv X pins σ H1 s1 ∧ CXE X.prog X.w X.stack H1 s1 (fun c _ H' => Ew c H') e s'
def XPs (X : Cx) (pins : List (Addr × Obj)) (Dx : XD) (e : Value) (s' : Shared) : Prop := ∃ σ1, XE X pins σ1 (Dx σ1) e s'
abbrev TEX := St → Hp → VK → XW → Prop
abbrev TSX := Ends → XD → St → Hp → Prop
def PEX (X : Cx) (e : Expr) (t : TEX) : Prop :=
  ∀ (pins : List (Addr × Obj)) (s : Shared) (σ : St) (H : Hp) (Q : VK) (Ew : XW), Inv X pins σ H s → t σ H Q Ew → wpAny (model X.prog X.w) X.A (eval e X.env) (EP X pins σ Q) (XE X pins σ Ew) s
def PSX (X : Cx) (st : Stmt) (t : TSX) : Prop :=
  ∀ (pins : List (Addr × Obj)) (s : Shared) (σ : St) (H : Hp) (D : Ends) (Dx : XD), Inv X pins σ H s → t D Dx σ H → wpAny (model X.prog X.w) X.A (exec st X.env) (SP X pins D) (XPs X pins Dx) s
def PSXs (X : Cx) (st : List Stmt) (t : TSX) : Prop :=
  ∀ (pins : List (Addr × Obj)) (s : Shared) (σ : St) (H : Hp) (D : Ends) (Dx : XD), Inv X pins σ H s → t D Dx σ H → wpAny (model X.prog X.w) X.A (execs st X.env) (SP X pins D) (XPs X pins Dx) s
def Nox (X : Cx) : Prop := ∀ e s, X.xe e s → False
def tCallX (sp : Sp) (t : TA) : TEX := fun σ H Q Ew => t σ H fun vs H1 => sp vs H1 Q fun c _ H' => Ew c H'
def tMethX (C : Addr) (m : Str) (sp : Sp) (ta : TE) (t : TA) : TEX := fun σ H Q Ew => ta σ H fun x H1 => ∃ a dx fs, x = .ref a ∧ H1 a = some (.ins C dx fs) ∧ fs.lookup m = none ∧ t σ H1 fun vs H2 => sp (x :: vs) H2 Q fun c _ H' => Ew c H'
def tDropX (t : TEX) : TSX := fun D Dx σ H => t σ H (fun _ H1 => D.nx σ H1) (Dx σ)
def tIfX (tc : TT) (a b : TSX) : TSX := fun D Dx σ H => tc σ H fun c H1 => if c = true then a D Dx σ H1 else b D Dx σ H1
section
variable {X : Cx} {k : Nat} {f C : Addr} {fd : FuncData} {ps : List Str} {sp : Sp} {x m : Str} {p pos apos : Pos} {e o : Expr} {es : List Expr} {ta : TE} {t : TA}
end
def tTry (K : PySem.W.Frag) (CF : Addr) (i : Nat) (tb : TSX) (ts : Addr → TS) : TS := fun D σ H => tb D (fun σ1 c H' => ∃ C, c = .ref C ∧ XC K C ∧ XSub K C CF ∧ ∀ ea, H' ea = none →
  ts ea { nx := fun σ2 H2 => D.nx (σ2.set i none) H2, rt := D.rt, bk := fun σ2 H2 => D.bk (σ2.set i none) H2, ct := fun σ2 H2 => D.ct (σ2.set i none) H2 } (σ1.set i (some (.ref ea))) (upd H' ea (exO ea C))) σ H
section
variable {X : Cx}
end
end L2

namespace L2
open PySem PySem.Spec PyProof.Rows
section
variable {prog : Program} {w : World} {A : Around} {E : Value → Shared → Prop} {s : Shared}
end
def ItrH (ea : Addr) (lo : Int) (n : Nat) : It := ⟨fun i _ => i < n, fun i H x H' => H' = H ∧ x = .int (lo + i), fun i H => n ≤ i ∧ ∃ C, H ea = some (exO ea C)⟩
def PIG (G : Cx → Prop) (X : Cx) (tg iter : Expr) (wi : TI) : Prop :=
  ∀ (pins : List (Addr × Obj)) (s : Shared) (σ : St) (H : Hp) (R : It → Hp → Prop), Inv X pins σ H s → wi σ H R →
    wpAny (model X.prog X.w) X.A (eval iter X.env) (fun v s1 => wpAny (model X.prog X.w) X.A (pyIter v) (fun itv s2 => ∃ (it : Addr) (fp : List Addr) (tn : Nat → Heap → Prop) (J : It) (H' : Hp), itv = .ref it ∧ Inv X pins σ H' s2 ∧ TurnX G X.prog X.w X.K tg J fp it tn ∧ tn 0 s2.heap ∧ (∀ b ∈ fp, FpOk X pins H' b) ∧ R J H') X.xe s1) X.xe s
def iRngH (ea : Addr) (ta : TA) : TI := fun σ H R => ta σ H fun vs H1 => ∃ j : Int, vs = [.int j] ∧ -(2 ^ 62) ≤ j ∧ j < 2 ^ 62 ∧ R (ItrH ea 0 j.toNat) H1
section
variable {X : Cx} {tg : Expr}
end
end L2

namespace L2
open PySem PySem.Spec PyProof.Rows PySem.W
structure XA (K : PySem.W.Frag) (C : Addr) : Prop where
  xc : XC K C
  ga : findIn K (.ref C) "__getattribute__" = some (some (.builtin "BaseException.__getattribute__"))
  gt : findIn K (.ref C) "__getattr__" = some none
  cl : findIn K (.ref C) "__class__" = some (some (.builtin "object.__class__"))
  sg : specialIn K (.builtin "object.__class__") "__get__" = some (some (.builtin "getset_descriptor.__get__"))
  tk : takesIn K (.builtin "object.__class__") = some true
  mo : mroIn K C (.type "object") = some true
  cs : (clsIn K C).isSome = true
section
variable {prog : Program} {w : World} {A : Around} {E : Value → Shared → Prop} {s : Shared} {K : Frag} {x C : Addr} {ox : Obj}
end
def rIsX (K : Frag) : List V → Hp → VK → Prop := fun xs H Q => ∃ (ea C : Addr) (c : V) (b : Bool), xs = [.ref ea, c] ∧ H ea = some (exO ea C) ∧ XA K C ∧ ((∃ CF, c = .ref CF ∧ kitOne K (.ref C) (.ref CF) = some b) ∨ ∃ T, c = .ty T ∧ kitOne K (.ref C) (.type T) = some b) ∧ Q (.bl b) H
end L2

namespace L2
open PySem PySem.Spec PyProof.Rows
structure RoomH (ea : Addr) (k : Nat) (A : Around) : Prop where
  hd : A.handled = some (.ref ea)
  dp : A.depth + 3 * k + 5 < recursionLimit
  un : A.units + 16 * k + 200 < cLine
structure FnOkH (P : Program) (w : World) (K : PySem.W.Frag) (mg : Str → Option Value) (base : Heap) (k : Nat) (f : Addr) (fd : FuncData) (ps : List Str) (sp : Addr → Sp) : Prop where
  len : ∀ ea vs H Q E, sp ea vs H Q E → vs.length = ps.length
  run : ∀ (ea : Addr) (A : Around) (outer : List Env) (s : Shared) (H : Hp) (args : Args) (us : List Value) (vs : List V) (Q : VK), RoomH ea k A → Env0 P w K mg base A outer s H → BindsTo s fd args (ps.zip us) → Vals vs us → sp ea vs H Q E0 →
    codeAny (model P w) A (.call (.ref f) args) (CR CX0 outer P w H s Q E0) s
structure DefOkH (P : Program) (w : World) (K : PySem.W.Frag) (mg : Str → Option Value) (base : Heap) (k : Nat) (x : Str) (ps : List Str) (sp : Addr → Sp) : Prop where
  ex : ∃ (f : Addr) (fd : FuncData), FnOkH P w K mg base k f fd ps sp ∧ Binds K fd ps [] ∧ PySem.W.keepIn K (.ref f) = true ∧ mg x = some (.ref f)
def tCallH (ea : Addr) (sp : Addr → Sp) (t : TA) : TE := fun σ H Q => t σ H fun vs H1 => sp ea vs H1 Q E0
section
variable {X : Cx} {k : Nat} {x : Str} {ps : List Str} {p pos : Pos} {e : Expr} {es : List Expr} {t : TA}
end
def cxH (P : Program) (w : World) (K : PySem.W.Frag) (mg : Str → Option Value) (base : Heap) (N : List Str) (qual : Str) (scope : Scope) (f : Addr) (cd : Value) (A : Around) (outer : List Env) (s : Shared) (H : Hp) : Cx :=
  { cxOf CX0 P w K mg base N qual scope f cd { A with handled := none } outer s H E0 with A := A.deeper (envOfC qual scope s.heap.objs.size f cd), calm := false, xe := fun _ _ => False }
section
variable {X : Cx} {sc : Scope} {own : List Str} {fr : List Nat} {N' : List Str} {tg elt iter : Expr} {ifs : List Expr} {g : TG} {tt : TT} {te : TE} {wi : TI} {pos : Pos} {G : Cx → Prop}
end
section
variable {X : Cx}
end
end L2

namespace L2
open PySem PySem.Spec PyProof.Rows PySem.SeqAt
section
variable {X : Cx}
end
def Itv (K : PySem.W.Frag) (a : Addr) (xs : List V) : It :=
  ⟨fun i H => SqL K H a xs ∧ i < xs.length, fun i H x H' => H' = H ∧ xs.reverse[i]? = some x, fun i H => SqL K H a xs ∧ xs.length ≤ i⟩
section
variable {X : Cx} {tg : Expr}
def iRev (K : PySem.W.Frag) (ta : TA) : TI := fun σ H R => ta σ H fun vs H1 => ∃ a xs, vs = [.ref a] ∧ SqL K H1 a xs ∧ R (Itv K a xs) H1
theorem boot_reversed : bootBuiltins "reversed" = some (.type "reversed") := by decide +kernel
end
def Eq0 (x y : V) : Prop := x = y ∧ ((∃ i, x = .int i) ∨ ∃ a, x = .ref a)
def Eq1 (H : Hp) (x y : V) : Prop := ∃ (p q : Addr) (zs : List V), x = .ref p ∧ y = .ref q ∧ p ≠ q ∧ H p = some (.lst zs) ∧ H q = some (.lst zs) ∧ ∀ z ∈ zs, Eq0 z z
section
variable {X : Cx}
def rNeL : R2 := fun x y H Q => ∃ (a b : Addr) (xs ys : List V), x = .ref a ∧ y = .ref b ∧ H a = some (.lst xs) ∧ H b = some (.lst ys) ∧ xs.length = ys.length ∧ (∀ (i : Nat) (x y : V), xs[i]? = some x → ys[i]? = some y → Eq1 H x y) ∧ Q (.bl false) H
end
end L2

namespace L2
open PySem PySem.Spec PyProof.Rows PySem.SeqAt
def Sca (x : V) : Prop := (∃ i, x = .int i) ∨ ∃ t, x = .str t
structure ScaL (xs : List V) : Prop where
  h : ∀ z ∈ xs, Sca z
theorem dec_beq {α : Type} [BEq α] [LawfulBEq α] [DecidableEq α] (a b : α) : (a == b) = decide (a = b) := by
  by_cases h : a = b
  · subst h; simp
  · rw [decide_eq_false h]; exact beq_eq_false_iff_ne.mpr h
theorem sca_at {A : Around} {s : Shared} {x y : V} {u v : Value} (hx : Sca x) (hy : Sca y) (ru : RelV x u) (rv : RelV y v) : EqAt A s u v (decide (x = y)) := by
  rcases hx with ⟨i, rfl⟩ | ⟨i, rfl⟩ <;> rcases hy with ⟨j, rfl⟩ | ⟨j, rfl⟩ <;> obtain ⟨t, rfl⟩ := ru <;> obtain ⟨t', rfl⟩ := rv
  · have := EqAt.int_int (A := A) (s := s) i t j t'
    rw [dec_beq] at this
    rwa [show decide (V.int i = V.int j) = decide (i = j) from by by_cases h : i = j <;> simp [h]]
  · rw [show decide (V.int i = V.str j) = false from by simp]
    exact EqAt.int_str i t j t'
  · rw [show decide (V.str i = V.int j) = false from by simp]
    exact EqAt.str_int i t j t'
  · have := EqAt.str_str (A := A) (s := s) i t j t'
    rw [show decide (V.str i = V.str j) = (i == j) from by
      by_cases h : i = j
      · subst h; simp
      · rw [decide_eq_false (fun z => h (V.str.inj z))]; exact (beq_eq_false_iff_ne.mpr h).symm]
    exact this
section
variable {X : Cx}
def rEqT : R2 := fun x y H Q => ∃ (a b : Addr) (xs ys : List V), x = .ref a ∧ y = .ref b ∧ H a = some (.tup xs) ∧ H b = some (.tup ys) ∧ ScaL xs ∧ ScaL ys ∧ Q (.bl (decide (xs = ys))) H
def rNeT : R2 := fun x y H Q => ∃ (a b : Addr) (xs ys : List V), x = .ref a ∧ y = .ref b ∧ H a = some (.tup xs) ∧ H b = some (.tup ys) ∧ ScaL xs ∧ ScaL ys ∧ Q (.bl (!decide (xs = ys))) H
def rEqS : R2 := fun x y H Q => ∃ (a b : Addr) (xs ys : List V), x = .ref a ∧ y = .ref b ∧ H a = some (.lst xs) ∧ H b = some (.lst ys) ∧ ScaL xs ∧ ScaL ys ∧ Q (.bl (decide (xs = ys))) H
def rNeS : R2 := fun x y H Q => ∃ (a b : Addr) (xs ys : List V), x = .ref a ∧ y = .ref b ∧ H a = some (.lst xs) ∧ H b = some (.lst ys) ∧ ScaL xs ∧ ScaL ys ∧ Q (.bl (!decide (xs = ys))) H
def rInN : R2 := fun x y H Q => ∃ (b : Addr) (ys : List V), x = .non ∧ y = .ref b ∧ H b = some (.lst ys) ∧ (∀ z ∈ ys, ∃ p, z = .ref p ∧ ((∃ zs, H p = some (.lst zs)) ∨ ∃ zs, H p = some (.tup zs))) ∧ Q (.bl false) H
end
end L2


namespace L2
open PySem PySem.W PyProof.Rows
structure Pm (n : Nat) (p : Array Nat) : Prop where
  perm : p.toList.Perm (List.range n)
theorem Pm.size {n : Nat} {p : Array Nat} (P : Pm n p) : p.size = n := by
  have := P.perm.length_eq
  simpa using this
theorem Pm.some {n : Nat} {p : Array Nat} (P : Pm n p) {i : Nat} (h : i < n) : p[i]? = some (p.getD i 0) := by
  have hs : i < p.size := by rw [P.size]; exact h
  simp [Array.getD, hs]
theorem Pm.lt {n : Nat} {p : Array Nat} (P : Pm n p) {i : Nat} (h : i < n) : p.getD i 0 < n := by
  have hm : p.getD i 0 ∈ p.toList := by
    have := P.some h
    exact Array.mem_def.mp (Array.mem_of_getElem? this)
  exact List.mem_range.mp (P.perm.mem_iff.mp hm)
theorem Pm.inj {n : Nat} {p : Array Nat} (P : Pm n p) {i j : Nat} (hi : i < n) (hj : j < n) (e : p.getD i 0 = p.getD j 0) : i = j := by
  have nd : p.toList.Nodup := P.perm.nodup_iff.mpr List.nodup_range
  have a := P.some hi
  have b := P.some hj
  rw [e] at a
  have hi' : i < p.toList.length := by rw [Array.length_toList, P.size]; exact hi
  have hj' : j < p.toList.length := by rw [Array.length_toList, P.size]; exact hj
  have ea : p.toList[i]? = p.toList[j]? := by rw [Array.getElem?_toList, Array.getElem?_toList, a, b]
  exact (List.getElem?_inj hi' nd).mp ea
theorem Pm.of {n : Nat} {p q : Array Nat} (P : Pm n p) (h : q.Perm p) : Pm n q := ⟨(Array.perm_iff_toList_perm.mp h).trans P.perm⟩
section
variable {n : Nat} {L : Nat → Nat → Prop} [DecidableRel L] {cmp : Nat → Nat → (Bool → Shared → Prop) → Shared → Prop} {s : Shared}
def lR (L : Nat → Nat → Prop) (p : Array Nat) (i j : Nat) : Prop := L (p.getD i 0) (p.getD j 0)
instance lR_dec (p : Array Nat) (i j : Nat) : Decidable (lR L p i j) := inferInstanceAs (Decidable (L (p.getD i 0) (p.getD j 0)))
def Up (L : Nat → Nat → Prop) (p : Array Nat) (m : Nat) : Prop := ∀ i j, i < j → j < m → lR L p i j
def Dn (L : Nat → Nat → Prop) (p : Array Nat) (m : Nat) : Prop := ∀ i j, i < j → j < m → lR L p j i
structure Ord (n : Nat) (L : Nat → Nat → Prop) [DecidableRel L] (cmp : Nat → Nat → (Bool → Shared → Prop) → Shared → Prop) (s : Shared) : Prop where
  tr : ∀ {i j k}, L i j → L j k → L i k
  tot : ∀ i j, i < n → j < n → i ≠ j → ¬ L i j → L j i
  ask : ∀ i j C, i < n → j < n → C (decide (L i j)) s → cmp i j C s
theorem Ord.or (o : Ord n L cmp s) {p : Array Nat} (P : Pm n p) {i j : Nat} (hi : i < n) (hj : j < n) (h : i ≠ j) (z : ¬ lR L p i j) : lR L p j i := o.tot _ _ (P.lt hi) (P.lt hj) (fun e => h (P.inj hi hj e)) z
theorem Ord.two (o : Ord n L cmp s) {p : Array Nat} (P : Pm n p) {i j : Nat} (hi : i < n) (hj : j < n) {C : Bool → Shared → Prop} (h : C (decide (lR L p i j)) s) : cmp (p.getD i 0) (p.getD j 0) C s := o.ask _ _ _ (P.lt hi) (P.lt hj) h
theorem Ord.tr' (o : Ord n L cmp s) {p : Array Nat} {i j k : Nat} (a : lR L p i j) (b : lR L p j k) : lR L p i k := o.tr a b
theorem wp_asc (o : Ord n L cmp s) {p : Array Nat} (P : Pm n p) {Q : Nat → Shared → Prop} : ∀ (f m : Nat), 1 ≤ m → m + f ≤ n → Up L p m → (∀ m', m ≤ m' → m' ≤ m + f → Up L p m' → (m' = m + f ∨ lR L p m' (m' - 1)) → Q m' s) → (kas_asc p f m).kasWp cmp Q s
  | 0, m, h1, hn, u, q => q m (Nat.le_refl _) (Nat.le_refl _) u (.inl rfl)
  | f + 1, m, h1, hn, u, q => by
    show cmp (p.getD m 0) (p.getD (m - 1) 0) _ s
    refine o.two P (by omega) (by omega) ?_
    by_cases h : lR L p m (m - 1)
    · rw [decide_eq_true h]
      exact q m (Nat.le_refl _) (by omega) u (.inr h)
    · rw [decide_eq_false h]
      refine wp_asc o P f (m + 1) (by omega) (by omega) (fun i j hij hj => ?_) fun m' a b c d => q m' (by omega) (by omega) c (by rcases d with d | d; exact .inl (by omega); exact .inr d)
      by_cases ej : j = m
      · subst ej
        have h2 : lR L p (j - 1) j := o.or P (i := j) (j := j - 1) (by omega) (by omega) (by omega) h
        by_cases ei : i = j - 1
        · rw [ei]; exact h2
        · exact o.tr' (u i (j - 1) (by omega) (by omega)) h2
      · exact u i j hij (by omega)
theorem wp_desc (o : Ord n L cmp s) {p : Array Nat} (P : Pm n p) {Q : Array Nat × Nat × Nat → Shared → Prop} : ∀ (f m : Nat), 1 ≤ m → m + f ≤ n → Dn L p m → (∀ m', m ≤ m' → m' ≤ m + f → Dn L p m' → Q (p, m', 0) s) → (kas_desc f p m 0).kasWp cmp Q s
  | 0, m, h1, hn, u, q => q m (Nat.le_refl _) (Nat.le_refl _) u
  | f + 1, m, h1, hn, u, q => by
    show cmp (p.getD m 0) (p.getD (m - 1) 0) _ s
    refine o.two P (by omega) (by omega) ?_
    by_cases h : lR L p m (m - 1)
    · rw [decide_eq_true h]
      refine wp_desc o P f (m + 1) (by omega) (by omega) (fun i j hij hj => ?_) fun m' a b c => q m' (by omega) (by omega) c
      by_cases ej : j = m
      · subst ej
        by_cases ei : i = j - 1
        · rw [ei]; exact h
        · exact o.tr' h (u i (j - 1) (by omega) (by omega))
      · exact u i j hij (by omega)
    · rw [decide_eq_false h]
      show cmp (p.getD (m - 1) 0) (p.getD m 0) _ s
      refine o.two P (by omega) (by omega) ?_
      have h2 : lR L p (m - 1) m := o.or P (i := m) (j := m - 1) (by omega) (by omega) (by omega) h
      rw [decide_eq_true h2]
      exact q m (Nat.le_refl _) (by omega) u
theorem rev_at {p : Array Nat} {m k : Nat} (hm : m ≤ p.size) (hk : k < m) : (kas_rev p 0 m).getD k 0 = p.getD (m - 1 - k) 0 := by
  have h := getElem?_mirror_all (xs := p) (i := 0) hm k
  rw [if_pos ⟨Nat.zero_le _, hk⟩, Nat.zero_add] at h
  show (mirror p 0 m ((m - 0) / 2)).getD k 0 = _
  rw [Array.getD_eq_getD_getElem?, Array.getD_eq_getD_getElem?, h]
theorem rev_pm {p : Array Nat} (P : Pm n p) (m : Nat) : Pm n (kas_rev p 0 m) := P.of (mirror_perm _ _ _ _)
theorem rev_up {p : Array Nat} {m : Nat} (hm : m ≤ p.size) (d : Dn L p m) : Up L (kas_rev p 0 m) m := fun i j hij hj => by
  unfold lR
  rw [rev_at hm (by omega), rev_at hm hj]
  exact d (m - 1 - j) (m - 1 - i) (by omega) (by omega)
theorem wp_tail3 (o : Ord n L cmp s) {p : Array Nat} (P : Pm n p) {m : Nat} {Q : Nat × Array Nat → Shared → Prop} (h1 : 1 ≤ m) (hm : m ≤ n) (d : Dn L p m) (q : ∀ m' p', Pm n p' → 1 ≤ m' → m' ≤ n → Up L p' m' → Q (m', p') s) : (kas_tail3 m n p).kasWp cmp Q s := by
  unfold kas_tail3
  rw [KasT.kasWp_bind]
  refine wp_asc o (rev_pm P m) (n - m) m h1 (by omega) (rev_up (by rw [P.size]; exact hm) d) fun m' a b u _ => ?_
  exact q m' _ (rev_pm P m) (by omega) (by omega) u
theorem wp_descPart (o : Ord n L cmp s) {p : Array Nat} (P : Pm n p) {m : Nat} {Q : Nat × Array Nat → Shared → Prop} (h1 : 1 ≤ m) (hm : m + 1 ≤ n) (d : Dn L p (m + 1)) (q : ∀ m' p', Pm n p' → 1 ≤ m' → m' ≤ n → Up L p' m' → Q (m', p') s) : (kas_descPart m n p).kasWp cmp Q s := by
  unfold kas_descPart
  rw [KasT.kasWp_bind]
  refine wp_desc o P (n - (m + 1)) (m + 1) (by omega) (by omega) d fun m' a b d' => ?_
  show (if (0 : Nat) > 0 then _ else kas_tail3 m' n p).kasWp cmp Q s
  rw [if_neg (Nat.lt_irrefl 0)]
  exact wp_tail3 o P (by omega) (by omega) d' q
theorem wp_count (o : Ord n L cmp s) {p : Array Nat} (P : Pm n p) {Q : Nat × Array Nat → Shared → Prop} (hn : 1 ≤ n) (q : ∀ m' p', Pm n p' → 1 ≤ m' → m' ≤ n → Up L p' m' → Q (m', p') s) : (kas_count n p).kasWp cmp Q s := by
  unfold kas_count
  rw [KasT.kasWp_bind]
  refine wp_asc o P (n - 1) 1 (Nat.le_refl _) (by omega) (fun i j a b => by omega) fun m a b u e => ?_
  show (if (m == n) = true then KasT.ret (m, p) else if m > 1 then _ else kas_descPart m n p).kasWp cmp Q s
  by_cases h : m = n
  · rw [if_pos (by simp [h])]
    exact q m p P (by omega) (by omega) u
  · rw [if_neg (by simp [h])]
    by_cases h1 : m > 1
    · rw [if_pos h1]
      show cmp (p.getD 0 0) (p.getD (m - 1) 0) _ s
      refine o.two P (by omega) (by omega) ?_
      rw [decide_eq_true (u 0 (m - 1) (by omega) (by omega))]
      exact q m p P (by omega) (by omega) u
    · rw [if_neg h1]
      have e1 : m = 1 := by omega
      subst e1
      have e : lR L p 1 0 := by rcases e with e | e; exact absurd e (by omega); exact e
      refine wp_descPart o P (Nat.le_refl _) (by omega) (fun i j hij hj => ?_) q
      have : i = 0 := by omega
      have : j = 1 := by omega
      subst i j
      exact e
theorem wp_place (o : Ord n L cmp s) {p : Array Nat} (P : Pm n p) {k : Nat} (hk : k < n) (u : Up L p k) {Q : Nat → Shared → Prop} : ∀ (f l r : Nat), l ≤ r → r ≤ k → r - l ≤ f → (∀ i, i < l → lR L p i k) → (∀ i, r ≤ i → i < k → lR L p k i) →
    (∀ l', l' ≤ k → (∀ i, i < l' → lR L p i k) → (∀ i, l' ≤ i → i < k → lR L p k i) → Q l' s) → (kas_place p k f l r).kasWp cmp Q s
  | 0, l, r, h1, h2, h3, a, b, q => q l (by omega) a fun i x y => b i (by omega) y
  | f + 1, l, r, h1, h2, h3, a, b, q => by
    unfold kas_place
    by_cases h : l ≥ r
    · rw [if_pos h]
      exact q l (by omega) a fun i x y => b i (by omega) y
    · rw [if_neg h]
      show cmp (p.getD k 0) (p.getD ((l + r) / 2) 0) _ s
      refine o.two P hk (by omega) ?_
      by_cases hc : lR L p k ((l + r) / 2)
      · rw [decide_eq_true hc]
        refine wp_place o P hk u f l ((l + r) / 2) (by omega) (by omega) (by omega) a (fun i x y => ?_) q
        by_cases ei : i = (l + r) / 2
        · rw [ei]; exact hc
        · exact o.tr' hc (u _ i (by omega) y)
      · rw [decide_eq_false hc]
        refine wp_place o P hk u f ((l + r) / 2 + 1) r (by omega) (by omega) (by omega) (fun i x => ?_) b q
        have h2 : lR L p ((l + r) / 2) k := o.or P (i := k) (j := (l + r) / 2) hk (by omega) (by omega) hc
        by_cases ei : i = (l + r) / 2
        · rw [ei]; exact h2
        · exact o.tr' (u i _ (by omega) (by omega)) h2
theorem bub_at {p : Array Nat} {k l i : Nat} (hk : k < p.size) (hl : l ≤ k) : (bubble p k (k - l)).getD i 0 = if i = l then p.getD k 0 else if l < i ∧ i ≤ k then p.getD (i - 1) 0 else p.getD i 0 := by
  have h := getElem?_bubble hk (k - l) (by omega) i
  rw [show k - (k - l) = l from by omega] at h
  rw [Array.getD_eq_getD_getElem?, h]
  by_cases e1 : i = l
  · rw [if_pos e1, if_pos e1, ← Array.getD_eq_getD_getElem?]
  · rw [if_neg e1, if_neg e1]
    by_cases e2 : l < i ∧ i ≤ k
    · rw [if_pos e2, if_pos e2, ← Array.getD_eq_getD_getElem?]
    · rw [if_neg e2, if_neg e2, ← Array.getD_eq_getD_getElem?]
theorem wp_bin (o : Ord n L cmp s) {Q : Array Nat → Shared → Prop} : ∀ (f : Nat) (p : Array Nat) (k : Nat), 1 ≤ k → k + f = n → Pm n p → Up L p k → (∀ p', Pm n p' → Up L p' n → Q p' s) → (kas_bin f p k).kasWp cmp Q s
  | 0, p, k, h1, hn, P, u, q => q p P ((show k = n by omega) ▸ u)
  | f + 1, p, k, h1, hn, P, u, q => by
    unfold kas_bin
    rw [KasT.kasWp_bind]
    refine wp_place o P (by omega) u k 0 k (Nat.zero_le _) (Nat.le_refl _) (by omega) (fun i h => by omega) (fun i a b => by omega) fun l hl a b => ?_
    refine wp_bin o f _ (k + 1) (by omega) (by omega) (P.of (bubble_perm _ _ _)) (fun i j hij hj => ?_) q
    have hk : k < p.size := by rw [P.size]; omega
    unfold lR
    rw [bub_at hk hl, bub_at hk hl]
    have A : ∀ i, i < l → L (p.getD i 0) (p.getD k 0) := a
    have B : ∀ i, l ≤ i → i < k → L (p.getD k 0) (p.getD i 0) := b
    have U : ∀ i j, i < j → j < k → L (p.getD i 0) (p.getD j 0) := u
    obtain ⟨g, hg⟩ : ∃ g : Nat → Nat, ∀ i, p.getD i 0 = g i := ⟨fun i => p.getD i 0, fun _ => rfl⟩
    simp only [hg] at A B U ⊢
    clear hg
    repeat' split
    all_goals first | (exfalso; omega) | (apply A; omega) | (apply B <;> omega) | (apply U <;> omega)
theorem wp_sort (o : Ord n L cmp s) {Q : Array Nat → Shared → Prop} (hn : 1 ≤ n) (q : ∀ p', Pm n p' → Up L p' n → Q p' s) : (kas_sort n).kasWp cmp Q s := by
  unfold kas_sort
  rw [KasT.kasWp_bind]
  refine wp_count o ⟨by simp⟩ hn fun m p P h1 hm u => ?_
  show (if m < n then kas_bin (n - max m 1) p (max m 1) else .ret p).kasWp cmp Q s
  by_cases h : m < n
  · rw [if_pos h, Nat.max_eq_left h1]
    exact wp_bin o (n - m) p m h1 (by omega) P u q
  · rw [if_neg h]
    exact q p P ((show m = n by omega) ▸ u)
end
end L2

namespace L2
open PySem PySem.W PyProof.Rows PySem.Calls
def KeptBut (a : Addr) (h h' : Heap) : Prop := ∀ b o, b ≠ a → h.get? b = some o → h'.get? b = some o
section
variable {prog : Program} {w : World} {A : Around} {E : Value → Shared → Prop} {s : Shared} {a : Addr} {vs : List Value} {κ : SortKind} {L : Nat → Nat → Prop} [DecidableRel L]
theorem srt_list {n : Nat} {P : PySem.Fin → Shared → Prop} (ho : s.heap.get? a = some (seqObj "list" vs.toArray n)) (h2 : 2 ≤ vs.length) (h64 : vs.length < 64)
    (tr : ∀ {i j k}, L i j → L j k → L i k) (tot : ∀ i j, i < vs.length → j < vs.length → i ≠ j → ¬ L i j → L j i)
    (kind : ∀ (h' : Heap) (C : SortKind → Shared → Prop), KeptBut a s.heap h' → C κ { s with heap := h' } → wpAny (model prog w) A (keyKind' vs.toArray) C (fun _ _ => False) { s with heap := h' })
    (ask : ∀ (h' : Heap) (i j : Nat) (C : Bool → Shared → Prop), KeptBut a s.heap h' → i < vs.length → j < vs.length → C (decide (L i j)) { s with heap := h' } → wpAny (model prog w) A (keyLt' κ (vs.getD i Value.none) (vs.getD j Value.none)) C (fun _ _ => False) { s with heap := h' })
    (k : ∀ (p : Array Nat) (c : Nat) (h' : Heap), Pm vs.length p → Up L p vs.length → KeptBut a s.heap h' → h'.get? a = some (seqObj "list" (List.toArray (p.toList.map fun i => vs.getD i Value.none)) c) → P (.done (.ret .none)) { s with heap := h' }) :
    wpAny (model prog w) A (Builtin.«list.sort» ⟨[.ref a], []⟩) P E s := by
  have ha : a < s.heap.objs.size := Heap.lt_size ho
  have s1 := Heap.SameBut.update s.heap a (Obj.mapSeq fun _ => (#[] : Array Value))
  obtain ⟨e1, ho1⟩ : ∃ e1, (s.heap.update a (Obj.mapSeq fun _ => (#[] : Array Value))).get? a = some (seqObj "list" #[] e1) := ⟨_, get?_update_seq ho fun _ => #[]⟩
  have kb : KeptBut a s.heap (((s.heap.update a (Obj.mapSeq fun _ => (#[] : Array Value))).push (seqObj "tuple" vs.toArray 0)).push (seqObj "list" #[] 0)) := fun b o nb e =>
    Heap.get?_push_of_some _ (Heap.get?_push_of_some _ (by rw [Heap.get?_update_ne _ _ _ _ nb]; exact e))
  have na := Heap.get?_push_of_some (seqObj "list" #[] 0) (Heap.get?_push_of_some (seqObj "tuple" vs.toArray 0) ho1)
  generalize hh : ((s.heap.update a (Obj.mapSeq fun _ => (#[] : Array Value))).push (seqObj "tuple" vs.toArray 0)).push (seqObj "list" #[] 0) = g at kb na
  rw [list_sort_plain]
  refine wpAny_bind (listItems_at ho rfl ?_)
  refine wpAny_bind (listUpdate_at ho rfl ?_ (by rw [List.size_toArray, sizeLine_eq]; omega) (Nat.zero_le _))
  refine wpAny_bind (seqEpoch_at ho1 rfl ?_)
  refine wpAny_bind (wpAny_newTuple ?_ (by show vs.length ≤ _; rw [sizeLine_eq]; omega))
  refine wpAny_bind (wpAny_newList ?_ (Nat.zero_le _))
  refine wpAny_holding ?_
  show wpAny (model prog w) A _ P E { s with heap := ((s.heap.update a (Obj.mapSeq fun _ => (#[] : Array Value))).push (seqObj "tuple" vs.toArray 0)).push (seqObj "list" #[] 0) }
  rw [hh]
  dsimp only
  have hn2 : ¬ vs.toArray.size < 2 := by rw [List.size_toArray]; omega
  rw [if_neg hn2, if_neg hn2]
  refine wpAny_bind (wpAny_mono (kind g (fun κ' s0 => κ' = κ ∧ s0 = { s with heap := g }) kb ⟨rfl, rfl⟩) (fun κ' s0 hk => ?_) fun _ _ x => x.elim)
  obtain ⟨rfl, rfl⟩ := hk
  have o : Ord vs.length L (kas_ask prog w A κ' vs) { s with heap := g } := ⟨tr, tot, fun i j C hi hj hC => ask g i j C kb hi hj hC⟩
  refine wpAny_bind (wpAny_mono (kat_run (Q := fun st' s' => ∃ p : Array Nat, p.size = vs.length ∧ arrOf st' = p.map (kas_item (vs.toArray.zip vs.toArray)) ∧ failedOf st' = none ∧ Pm vs.length p ∧ Up L p vs.length ∧ s' = { s with heap := g })
    (G := fun p s' => Pm vs.length p ∧ Up L p vs.length ∧ s' = { s with heap := g }) rfl h2 h64 (fun p' st' s' a1 a2 a3 a4 => ⟨p', a1, a2, a3, a4⟩) (wp_sort o (by omega) fun p' P' U' => ⟨P', U', rfl⟩)) ?_ fun _ _ e => e)
  rintro ⟨⟨⟩, st'⟩ s' ⟨p, hp, har, hf, Pp, Up', rfl⟩
  dsimp only
  have hout := kat_snds rfl har
  have hsz : (List.toArray (p.toList.map fun i => vs.getD i Value.none)).size = vs.length := by rw [List.size_toArray, List.length_map, Array.length_toList, hp]
  rw [hout]
  obtain ⟨c2, hc2⟩ : ∃ c2, (g.update a (Obj.mapSeq fun _ => List.toArray (p.toList.map fun i => vs.getD i Value.none))).get? a = some (seqObj "list" (List.toArray (p.toList.map fun i => vs.getD i Value.none)) c2) := ⟨_, get?_update_seq na fun _ => List.toArray (p.toList.map fun i => vs.getD i Value.none)⟩
  refine wpAny_bind (seqEpoch_at na rfl ?_)
  refine wpAny_bind (listUpdate_at na rfl ?_ (Nat.zero_le _) (Nat.le_trans (Nat.le_of_eq hsz) (by rw [sizeLine_eq]; omega)))
  rw [hf]
  simp only [bne_self_eq_false, Bool.false_eq_true, if_false]
  refine wpAny_pure (k p c2 _ Pp Up' (fun b ob nb e => ?_) hc2)
  rw [Heap.get?_update_ne _ _ _ _ nb]
  exact kb b ob nb e
end
end L2

namespace L2
open PySem PySem.W PyProof.Rows PySem.SeqAt
def kLt : Key → Key → Prop
  | .inl a, .inl b => a < b
  | .inr x, .inr y => x.cps.toList < y.cps.toList
  | _, _ => False
instance kLt_dec : (a b : Key) → Decidable (kLt a b)
  | .inl a, .inl b => inferInstanceAs (Decidable (a < b))
  | .inr x, .inr y => inferInstanceAs (Decidable (x.cps.toList < y.cps.toList))
  | .inl _, .inr _ => isFalse id
  | .inr _, .inl _ => isFalse id
def kLex : List Key → List Key → Prop
  | k :: ks, k' :: ks' => if k = k' then kLex ks ks' else kLt k k'
  | _, _ => False
instance kLex_dec : (a b : List Key) → Decidable (kLex a b)
  | k :: ks, k' :: ks' => by
    unfold kLex
    by_cases h : k = k'
    · rw [if_pos h]; exact kLex_dec ks ks'
    · rw [if_neg h]; exact kLt_dec k k'
  | [], [] => isFalse id
  | [], _ :: _ => isFalse id
  | _ :: _, [] => isFalse id
theorem kLt_irrefl (a : Key) : ¬ kLt a a := by
  cases a with
  | inl a => exact Int.lt_irrefl a
  | inr x => exact List.lt_irrefl _
theorem kLt_trans {a b c : Key} (h : kLt a b) (h' : kLt b c) : kLt a c := by
  cases a <;> cases b <;> cases c <;> first | exact h.elim | exact h'.elim | exact Int.lt_trans h h' | exact List.lt_trans h h'
theorem str_ext {x y : Str} (h : x.cps.toList = y.cps.toList) : x = y := by
  cases x; cases y
  congr 1
  exact Array.toList_inj.mp h
theorem kLt_tot {a b : Key} (hs : a.isLeft = b.isLeft) (hn : a ≠ b) (h : ¬ kLt a b) : kLt b a := by
  cases a with
  | inl a =>
    cases b with
    | inl b =>
      have h1 : ¬ a < b := h
      have h2 : a ≠ b := fun z => hn (by rw [z])
      show b < a
      omega
    | inr y => cases hs
  | inr x =>
    cases b with
    | inl b => cases hs
    | inr y =>
      have h1 : ¬ x.cps.toList < y.cps.toList := h
      show y.cps.toList < x.cps.toList
      refine Classical.byContradiction fun z => hn ?_
      rw [str_ext (List.le_antisymm (List.not_lt.mp z) (List.not_lt.mp h1))]
theorem kLex_trans : ∀ {a b c : List Key}, kLex a b → kLex b c → kLex a c
  | x :: a, y :: b, z :: c, h, h' => by
    unfold kLex at h h' ⊢
    by_cases e : x = y
    · subst e
      rw [if_pos rfl] at h
      by_cases e2 : x = z
      · subst e2
        rw [if_pos rfl] at h' ⊢
        exact kLex_trans h h'
      · rw [if_neg e2] at h' ⊢
        exact h'
    · rw [if_neg e] at h
      by_cases e2 : y = z
      · subst e2
        rw [if_neg e]
        exact h
      · rw [if_neg e2] at h'
        have := kLt_trans h h'
        rw [if_neg (fun z => kLt_irrefl x (by rw [← z] at this; exact this))]
        exact this
  | [], _, _, h, _ => h.elim
  | _ :: _, [], _, h, _ => h.elim
  | _ :: _, _ :: _, [], _, h => h.elim
theorem kLex_tot : ∀ {a b : List Key}, a.map Sum.isLeft = b.map Sum.isLeft → a ≠ b → ¬ kLex a b → kLex b a
  | [], [], _, hn, _ => absurd rfl hn
  | x :: a, y :: b, hs, hn, h => by
    have hs : x.isLeft = y.isLeft ∧ a.map Sum.isLeft = b.map Sum.isLeft := by simpa using hs
    unfold kLex at h ⊢
    by_cases e : x = y
    · subst e
      rw [if_pos rfl] at h ⊢
      exact kLex_tot hs.2 (fun z => hn (by rw [z])) h
    · rw [if_neg e] at h
      rw [if_neg (fun z => e z.symm)]
      exact kLt_tot hs.1 e h
  | [], _ :: _, hs, _, _ => by simp at hs
  | _ :: _, [], hs, _, _ => by simp at hs
theorem kV_sca (k : Key) : Sca (kV k) := by
  cases k with
  | inl i => exact .inl ⟨i, rfl⟩
  | inr x => exact .inr ⟨x, rfl⟩
section
variable {prog : Program} {w : World} {A : Around} {E : Value → Shared → Prop} {s : Shared}
theorem one_lt {k k' : Key} {u v : Value} (c : Bool) {Q : Bool → Shared → Prop} (ru : RelV (kV k) u) (rv : RelV (kV k') v) (hs : k.isLeft = k'.isLeft) (q : Q (decide (kLt k k')) s) : wpAny (model prog w) A (oneLt' c u v) Q (fun _ _ => False) s := by
  cases k with
  | inl i =>
    cases k' with
    | inr y => cases hs
    | inl j =>
      obtain ⟨t, rfl⟩ := ru
      obtain ⟨t', rfl⟩ := rv
      cases c with
      | true => exact oneLt_int q
      | false => exact kat_one _ _ (lt_int q)
  | inr x =>
    cases k' with
    | inl y => cases hs
    | inr y =>
      obtain ⟨t, rfl⟩ := ru
      obtain ⟨t', rfl⟩ := rv
      cases c with
      | true => exact kas_lt_str (Q := Q) (E := fun _ _ => False) q
      | false => exact kat_one _ _ (lt_str q)
theorem lex_keys {b : Bool} {Q : Bool → Shared → Prop} : ∀ {ks ks' : List Key} {us vs : List Value} (i : Nat), Vals (ks.map kV) us → Vals (ks'.map kV) vs → ks.map Sum.isLeft = ks'.map Sum.isLeft → Q (decide (kLex ks ks')) s → KatLex prog w A b false Q (us.zip vs) i s
  | [], [], _, _, i, .nil, .nil, _, q => by
    refine kat_nil ?_
    rwa [show decide (kLex [] []) = false from rfl] at q
  | k :: ks, k' :: ks', _, _, i, .cons r rs, .cons r' rs', hs, q => by
    have hs : k.isLeft = k'.isLeft ∧ ks.map Sum.isLeft = ks'.map Sum.isLeft := by simpa using hs
    refine kat_cons (sca_at (kV_sca k) (kV_sca k') r r' prog w _ _ ?_)
    by_cases e : k = k'
    · subst e
      rw [decide_eq_true rfl]
      refine kat_yes (lex_keys (i + 1) rs rs' hs.2 ?_)
      rwa [show decide (kLex (k :: ks) (k :: ks')) = decide (kLex ks ks') from by simp [kLex]] at q
    · rw [decide_eq_false (fun z => e (kV_inj z))]
      refine kat_no (one_lt _ r r' hs.1 ?_)
      rwa [show decide (kLex (k :: ks) (k' :: ks')) = decide (kLt k k') from by simp [kLex, e]] at q
  | [], _ :: _, _, _, _, _, _, hs, _ => by simp at hs
  | _ :: _, [], _, _, _, _, _, hs, _ => by simp at hs
end
end L2

namespace L2
open PySem PySem.W PyProof.Rows
structure DAt (h : Heap) (d : Addr) (es : Array DictEntry) (ep : Nat) : Prop where
  ex : ∃ o, h.get? d = some o ∧ o.ExactDict ∧ o.data = .dict es ep
theorem DAt.at {h h' : Heap} {d : Addr} {es : Array DictEntry} {ep : Nat} (m : DAt h d es ep) (k : ∀ o, h.get? d = some o → h'.get? d = some o) : DAt h' d es ep := let ⟨o, e, r⟩ := m.ex; ⟨o, k o e, r⟩
theorem DAt.ty {s : Shared} {d : Addr} {es : Array DictEntry} {ep : Nat} (m : DAt s.heap d es ep) : s.TypeIs (.ref d) "dict" := let ⟨o, e, r, _⟩ := m.ex; ⟨o, e, r.1⟩
def kitO (d : Addr) (i n ep : Nat) : Obj := { cls := .type "dict_keyiterator", data := .fields #[.ref d, .int i 0, .int n 0, .int ep 0] }
section
variable {prog : Program} {w : World} {A : Around} {E : Value → Shared → Prop} {s : Shared} {d it : Addr} {es : Array DictEntry} {ep i : Nat}
theorem di_iter {Q : Value → Shared → Prop} (hd : (d == sysModules) = false) (m : DAt s.heap d es ep) (q : Q (.ref s.heap.objs.size) { s with heap := s.heap.push (kitO d 0 es.size ep) }) : wpAny (model prog w) A (pyIter (.ref d)) Q E s := by
  obtain ⟨o, ho, hc, hdat⟩ := m.ex
  refine wpAny_pyIter_slot m.ty F.slot_dict_iter (wpAny_call_entry F.slot_dict_iter m.ty F.entry_dict_iter ?_ (F.args_dict_iter_1 _))
  unfold Builtin.«dict.__iter__» Builtin.Dict.dictSlotNone Builtin.Dict.showsAll
  refine wpAny_bind (wpAny_bind (wpAny_notOrdered_dict m.ty (wpAny_pure ?_)))
  refine wpAny_bind (m := Builtin.Dict.addrOf (.ref d)) (wpAny_pure ?_)
  rw [if_neg (by rw [hd]; simp)]
  refine wpAny_bind (wpAny_pure (wpAny_bind (wpAny_dictEntries ho hdat (wpAny_bind (wpAny_dictEpoch ho hdat ?_)))))
  exact wpAny_bind (wpAny_newObj_type (wpAny_pure ⟨_, rfl, "dict_keyiterator", _, ⟨_, Heap.get?_push_size _ rfl, rfl⟩, F.slot_dict_keyiterator_next.lookup, by simpa [rawInt, kitO] using q⟩))
theorem kit_ty (hit : s.heap.get? it = some (kitO d i es.size ep)) : s.TypeIs (.ref it) "dict_keyiterator" := ⟨_, hit, rfl⟩
theorem di_next {Q : Option Value → Shared → Prop} (hit : s.heap.get? it = some (kitO d i es.size ep)) (m : DAt s.heap d es ep) (hi : i < es.size)
    (q : ∀ h', h'.get? it = some (kitO d (i + 1) es.size ep) → Heap.SameBut it s.heap h' → Q (some (es[i]).key) { s with heap := h' }) : wpAny (model prog w) A (pyNext (.ref it)) Q E s := by
  obtain ⟨od, hod, hcd, hdd⟩ := m.ex
  have T := kit_ty hit
  unfold pyNext
  refine wpAny_bind (wpAny_attempt (wpAny_callSpecial?_slot (name := Str.ofString "__next__") T F.slot_dict_keyiterator_next (wpAny_call_entry F.slot_dict_keyiterator_next T F.entry_dict_keyiterator_next ?_ (F.args_dict_keyiterator_next_1 _))))
  refine wpAny_bind (wpAny_pure (wpAny_bind (wpAny_bind ?_)))
  refine wpAny_bind (wpAny_typeNameOfWhole_keyiter T (wpAny_pure (wpAny_bind (wpAny_fieldsOf hit rfl ?_))))
  simp only [show Builtin.Dict_items.ownsTuple "dict_keyiterator" = false from by decide, Bool.false_eq_true, if_false]
  show wpAny _ _ (if (Value.ref d == Value.none) = true then _ else _) _ _ s
  rw [if_neg (by intro z; cases z)]
  refine wpAny_bind (wpAny_pure (wpAny_bind (wpAny_dictEntries hod hdd ?_)))
  rw [if_neg (by simp)]
  refine wpAny_bind (wpAny_pure (wpAny_bind (wpAny_dictEpoch hod hdd ?_)))
  rw [if_neg (by simp)]
  refine wpAny_pure ?_
  simp only [show ¬ ((i : Int) < 0) from by omega, if_false, Int.toNat_natCast, Array.getElem?_eq_getElem hi]
  refine wpAny_bind (wpAny_bind (wpAny_typeNameOfWhole_keyiter T (wpAny_pure (wpAny_bind (wpAny_isOneOf_keyiter T ?_)))))
  show wpAny _ _ (setField (.ref it) 1 (rawInt ((i : Int) + 1)) >>= _) _ _ s
  refine wpAny_bind (wpAny_setField hit rfl (by simp) ?_)
  have g2 : (s.heap.update it (Obj.mapFields (·.setIfInBounds 1 (rawInt ((i : Int) + 1))))).get? it = some (kitO d (i + 1) es.size ep) := by
    rw [Heap.get?_update_self _ hit (Obj.isFreed_of_fields (Obj.data_mapFields rfl _))]
    rfl
  refine wpAny_bind (wpAny_holding (wpAny_bind (wpAny_isOneOf_keyiter (s := { s with heap := s.heap.update it (Obj.mapFields (·.setIfInBounds 1 (rawInt ((i : Int) + 1)))) }) (kit_ty g2) ?_)))
  exact wpAny_pure (wpAny_pure ⟨_, rfl, wpAny_pure (q _ g2 (Heap.SameBut.update ..))⟩)
theorem di_end {Q : Option Value → Shared → Prop} (hh : A.handled = none) (hit : s.heap.get? it = some (kitO d es.size es.size ep)) (m : DAt s.heap d es ep)
    (q : ∀ h', Heap.ExtBut it s.heap h' → Q none { s with heap := h' }) : wpAny (model prog w) A (pyNext (.ref it)) Q E s := by
  obtain ⟨od, hod, hcd, hdd⟩ := m.ex
  have T := kit_ty hit
  unfold pyNext
  refine wpAny_bind (wpAny_attempt (wpAny_callSpecial?_slot (name := Str.ofString "__next__") T F.slot_dict_keyiterator_next (wpAny_call_entry F.slot_dict_keyiterator_next T F.entry_dict_keyiterator_next ?_ (F.args_dict_keyiterator_next_1 _))))
  refine wpAny_bind (wpAny_pure (wpAny_bind (wpAny_bind ?_)))
  refine wpAny_bind (wpAny_typeNameOfWhole_keyiter T (wpAny_pure (wpAny_bind (wpAny_fieldsOf hit rfl ?_))))
  simp only [show Builtin.Dict_items.ownsTuple "dict_keyiterator" = false from by decide, Bool.false_eq_true, if_false]
  show wpAny _ _ (if (Value.ref d == Value.none) = true then _ else _) _ _ s
  rw [if_neg (by intro z; cases z)]
  refine wpAny_bind (wpAny_pure (wpAny_bind (wpAny_dictEntries hod hdd ?_)))
  rw [if_neg (by simp)]
  refine wpAny_bind (wpAny_pure (wpAny_bind (wpAny_dictEpoch hod hdd ?_)))
  rw [if_neg (by simp)]
  refine wpAny_pure ?_
  simp only [show ¬ ((es.size : Int) < 0) from by omega, if_false, Int.toNat_natCast, Array.getElem?_eq_none (Nat.le_refl es.size)]
  refine wpAny_bind (wpAny_bind (wpAny_typeNameOfWhole_keyiter T (wpAny_pure ?_)))
  show wpAny _ _ (setField (.ref it) 0 .none >>= _) _ _ s
  refine wpAny_bind (wpAny_setField hit rfl (by simp) ?_)
  show wpAny _ _ (newExc (.type "StopIteration") [] >>= _) _ _ _
  simp only [newExc, newTuple]
  refine wpAny_bind (wpAny_bind (wpAny_newObj_type ?_ (by size_fits)))
  refine wpAny_bind (m := firstArgMember _ _) (wpAny_of_eq (a := Value.none) (by first | rfl | (simp only [firstArgMember]; rfl)) (wpAny_newObj_type ?_ (by size_fits)))
  simp only [raiseNew]
  refine wpAny_bind (wpAny_handled ?_)
  rw [show A.in1.handled = none from hh]
  refine wpAny_bind (wpAny_pure (wpAny_throw ?_))
  refine wpAny_bind (wpAny_isInstance (T := "StopIteration") (b := true) ⟨_, Heap.get?_push_size _ rfl, rfl⟩ isSubtype_stop ?_)
  exact wpAny_pure (q _ (((Heap.SameBut.update ..).extBut.push _).push _))
end
section
variable {prog : Program} {w : World} {A : Around} {R : Result → Shared → Prop} {d it S : Addr} {es : Array DictEntry} {ep : Nat}
theorem ext_dict (hh : A.handled = none) (n1 : S ≠ it) (n2 : S ≠ d) (n3 : it ≠ d) (hsz : es.size ≤ sizeLine) (res : Value) (g : Heap) : ∀ (k i : Nat) (s : Shared) (c : Nat), es.size - i = k → i ≤ es.size →
    s.heap.get? it = some (kitO d i es.size ep) → DAt s.heap d es ep → s.heap.get? S = some { cls := .type "list", data := .seq ((es.toList.take i).map (·.key)).toArray c } →
    (∀ b o, b ≠ it → b ≠ S → g.get? b = some o → s.heap.get? b = some o) →
    (∀ (h' : Heap) (c' : Nat), h'.get? S = some { cls := .type "list", data := .seq (es.toList.map (·.key)).toArray c' } → (∀ b o, b ≠ it → b ≠ S → g.get? b = some o → h'.get? b = some o) → R (.ok (.ret res)) { s with heap := h' }) →
    codeAny (model prog w) A (.builtin "list.extend.loop" ⟨[.ref S, .ref it, res], []⟩) R s := by
  intro k
  induction k with
  | zero =>
    intro i s c hk hi hit m hS hg hR
    have e : i = es.size := by omega
    subst e
    refine codeAny_builtin F.entry_extend_loop ?_
    rw [Around.under_plainId F.plain_extend_loop _]
    show wpAny _ A.in1 (pyNext (.ref it) >>= _) _ _ s
    refine wpAny_bind (di_end (by exact hh) hit m fun h' x => wpAny_pure (hR h' c ?_ fun b o b1 b2 e => x b o b1 (hg b o b1 b2 e)))
    rw [x S _ n1 hS, List.take_of_length_le (by simp)]
  | succ k ih =>
    intro i s c hk hi hit m hS hg hR
    have hlt : i < es.size := by omega
    refine codeAny_builtin F.entry_extend_loop ?_
    rw [Around.under_plainId F.plain_extend_loop _]
    show wpAny _ A.in1 (pyNext (.ref it) >>= _) _ _ s
    refine wpAny_bind (di_next hit m hlt fun h' a b => ?_)
    have hS' : h'.get? S = some { cls := .type "list", data := .seq ((es.toList.take i).map (·.key)).toArray c } := (b.2 S n1).trans hS
    refine wpAny_bind (wpAny_updateSeq hS' rfl (wpAny_pure ⟨plainId_quiet F.plain_extend_loop _, ?_⟩) (by simp; omega) (by simp; omega))
    have oth : ∀ b o, b ≠ S → h'.get? b = some o → (h'.update S (Obj.mapSeq (·.push es[i].key))).get? b = some o := fun b o hb e => (Heap.get?_update_other _ _ (Ne.symm hb)).trans e
    have hS2 := Heap.get?_update_self (Obj.mapSeq (·.push es[i].key)) hS' rfl
    have ea : ((es.toList.take (i + 1)).map (·.key)).toArray = ((es.toList.take i).map (·.key)).toArray.push es[i].key := by
      rw [List.take_add_one, show es.toList[i]? = some es[i] from by simp [hlt]]
      simp
    refine ih (i + 1) _ _ (by omega) hlt (oth _ _ (Ne.symm n1) a) (m.at fun o e => oth _ o (Ne.symm n2) ((b.2 d (Ne.symm n3)).trans e)) (by rw [ea]; exact hS2) (fun x o x1 x2 e => oth x o x2 ((b.2 x x1).trans (hg x o x1 x2 e))) hR
end
end L2

namespace L2
open PySem PySem.W PyProof.Rows
section
variable {prog : Program} {w : World} {A : Around} {E : Value → Shared → Prop} {s : Shared} {d : Addr} {es : Array DictEntry} {ep : Nat}
theorem col_dict {Q : List Value → Shared → Prop} (hh : A.handled = none) (hd : (d == sysModules) = false) (m : DAt s.heap d es ep) (hsz : es.size ≤ sizeLine)
    (q : ∀ h', (∀ b o, s.heap.get? b = some o → h'.get? b = some o) → s.heap.objs.size < h'.objs.size → Q (es.toList.map (·.key)) { s with heap := h' }) : wpAny (model prog w) A (collect (.ref d)) Q E s := by
  have dlt : d < s.heap.objs.size := let ⟨o, e, _⟩ := m.ex; Heap.lt_size e
  have nSd : s.heap.objs.size ≠ d := Nat.ne_of_gt dlt
  have nSI : s.heap.objs.size ≠ s.heap.objs.size + 1 := Nat.ne_of_lt (Nat.lt_succ_self _)
  have nId : s.heap.objs.size + 1 ≠ d := Nat.ne_of_gt (Nat.lt_succ_of_lt dlt)
  unfold collect
  refine wpAny_bind (wpAny_runValue (codeAny_builtin entry_proto_collect' ?_))
  show wpAny _ _ (do again (.builtin "list.__iadd__" ⟨[← newList [], .ref d], []⟩)) _ _ s
  refine wpAny_bind (wpAny_newList (wpAny_pure ⟨Code.quiet_builtin _ (by decide +kernel), codeAny_builtin entry_list_iadd' ?_⟩))
  show wpAny _ _ (Builtin.List.listExtendWith (.ref s.heap.objs.size) (.ref d) (.ref s.heap.objs.size)) _ _ { s with heap := s.heap.push (seqObj "list" #[] 0) }
  unfold Builtin.List.listExtendWith
  have k1 : ∀ b o, s.heap.get? b = some o → (s.heap.push (seqObj "list" #[] 0)).get? b = some o := fun b o e => Heap.get?_push_of_some _ e
  have S1 : (s.heap.push (seqObj "list" #[] 0)).get? s.heap.objs.size = some (seqObj "list" #[] 0) := Heap.get?_push_size _ rfl
  have z1 : (s.heap.push (seqObj "list" #[] 0)).objs.size = s.heap.objs.size + 1 := size_push' _ _
  generalize hg1 : s.heap.push (seqObj "list" #[] 0) = g1 at k1 S1 z1 ⊢
  have m1 : DAt g1 d es ep := m.at fun o e => k1 d o e
  refine wpAny_bind (wpAny_typeOf (T := "dict") (DAt.ty (s := { s with heap := g1 }) m1) ?_)
  have e1 : Builtin.List.listSameRef (.ref s.heap.objs.size) (.ref d) = false := by simp [Builtin.List.listSameRef, nSd]
  have e2 : (Value.type "dict" == Value.type "list") = false := by decide
  have e3 : (Value.type "dict" == Value.type "tuple") = false := by decide
  simp only [e1, e2, e3, Bool.or_false, Bool.false_eq_true, if_false]
  refine wpAny_bind (di_iter (s := { s with heap := g1 }) hd m1 ?_)
  have k2 : ∀ b o, g1.get? b = some o → (g1.push (kitO d 0 es.size ep)).get? b = some o := fun b o e => Heap.get?_push_of_some _ e
  have I2 : (g1.push (kitO d 0 es.size ep)).get? g1.objs.size = some (kitO d 0 es.size ep) := Heap.get?_push_size _ rfl
  show wpAny _ _ (holding [Value.ref g1.objs.size] _ >>= _) _ _ { s with heap := g1.push (kitO d 0 es.size ep) }
  rw [z1] at I2 ⊢
  generalize g1.push (kitO d 0 es.size ep) = g2 at k2 I2 ⊢
  have m2 : DAt g2 d es ep := m1.at fun o e => k2 d o e
  refine wpAny_bind (wpAny_holding (kdl_hint_dict (DAt.ty (s := { s with heap := g2 }) m2) ?_))
  show wpAny _ _ (rule "list.extend.makes-room" >>= fun _ => Builtin.List.listTouch (.ref s.heap.objs.size) >>= fun _ => again (.builtin "list.extend.loop" ⟨[.ref s.heap.objs.size, .ref (s.heap.objs.size + 1), .ref s.heap.objs.size], []⟩)) _ _ _
  refine wpAny_bind (wpAny_rule (wpAny_bind ?_))
  have S2 := k2 _ _ S1
  refine wpAny_bind (listUpdate_at S2 rfl ?_ (Nat.zero_le _) (by simp [sizeLine_eq]))
  obtain ⟨c3, S3⟩ : ∃ c3, (g2.update s.heap.objs.size (Obj.mapSeq (·.push Value.none))).get? s.heap.objs.size = some (seqObj "list" #[Value.none] c3) := ⟨_, get?_update_seq S2 (·.push Value.none)⟩
  refine listUpdate_at S3 rfl ?_ (by simp [sizeLine_eq]) (by simp [sizeLine_eq])
  obtain ⟨c4, S4⟩ : ∃ c4, ((g2.update s.heap.objs.size (Obj.mapSeq (·.push Value.none))).update s.heap.objs.size (Obj.mapSeq (·.pop))).get? s.heap.objs.size = some (seqObj "list" #[] c4) := ⟨_, get?_update_seq S3 (·.pop)⟩
  have k4 : ∀ b o, b ≠ s.heap.objs.size → g2.get? b = some o → ((g2.update s.heap.objs.size (Obj.mapSeq (·.push Value.none))).update s.heap.objs.size (Obj.mapSeq (·.pop))).get? b = some o :=
    fun b o nb e => (Heap.get?_update_other _ _ (Ne.symm nb)).trans ((Heap.get?_update_other _ _ (Ne.symm nb)).trans e)
  generalize (g2.update s.heap.objs.size (Obj.mapSeq (·.push Value.none))).update s.heap.objs.size (Obj.mapSeq (·.pop)) = g4 at S4 k4 ⊢
  refine wpAny_pure ⟨plainId_quiet F.plain_extend_loop _, ?_⟩
  refine ext_dict (S := s.heap.objs.size) (it := s.heap.objs.size + 1) (d := d) (es := es) (ep := ep) (by exact hh) nSI nSd nId hsz _ s.heap es.size 0 _ c4 rfl (Nat.zero_le _) (k4 _ _ (Ne.symm nSI) I2) (m2.at fun o e => k4 d o (Ne.symm nSd) e) S4
    (fun b o b1 b2 e => k4 b o b2 (k2 b o (k1 b o e))) fun h' c' hS hk => ?_
  refine wpAny_bind (wpAny_load hS ?_)
  exact wpAny_pure (q h' (fun b o e => hk b o (Nat.ne_of_lt (Nat.lt_succ_of_lt (Heap.lt_size e))) (Nat.ne_of_lt (Heap.lt_size e)) e) (Heap.lt_size hS))
end
end L2

namespace L2
open PySem PySem.W PyProof.Rows
def TKey (h : Heap) (k : List Key) (v : Value) : Prop := ∃ (p : Addr) (us : List Value), v = .ref p ∧ h.IsTuple p us.toArray ∧ Vals (k.map kV) us
abbrev TKs (h : Heap) : List (List Key) → List Value → Prop := Paired (TKey h)
theorem TKs.get {h : Heap} : ∀ {ks : List (List Key)} {vs : List Value} {i : Nat} {k : List Key}, TKs h ks vs → ks[i]? = some k → ∃ v, vs[i]? = some v ∧ TKey h k v
  | _, _, _, _, .nil, e => by simp at e
  | _, _, 0, _, .cons r _, e => by simp at e; subst e; exact ⟨_, rfl, r⟩
  | _, _, i + 1, _, .cons _ t, e => by
    obtain ⟨v, a, b⟩ := TKs.get t (i := i) (by simpa using e)
    exact ⟨v, by simpa using a, b⟩
theorem paired_get {Φ : List Key → Value → Prop} : ∀ {ks : List (List Key)} {vs : List Value} {i : Nat} {k : List Key}, Paired Φ ks vs → ks[i]? = some k → ∃ v, vs[i]? = some v ∧ Φ k v
  | _, _, _, _, .nil, e => by simp at e
  | _, _, 0, _, .cons r _, e => by simp at e; subst e; exact ⟨_, rfl, r⟩
  | _, _, i + 1, _, .cons _ t, e => by
    obtain ⟨v, a, b⟩ := paired_get t (i := i) (by simpa using e)
    exact ⟨v, by simpa using a, b⟩
theorem tks_len {h : Heap} {ks : List (List Key)} {vs : List Value} (r : TKs h ks vs) : ks.length = vs.length := Paired.length r
theorem kats {g h : Heap} {b0 : Bool} {t0 : List Bool} (kp : ∀ b o, g.get? b = some o → h.get? b = some o) : ∀ {ks : List (List Key)} {vs : List Value}, TKs g ks vs → (∀ k ∈ ks, k.map Sum.isLeft = b0 :: t0) →
    ∃ fs, fs.length = vs.length ∧ KatTups h vs fs ∧ ∀ f ∈ fs, ∃ k0 : Key, k0.isLeft = b0 ∧ RelV (kV k0) f
  | _, _, .nil, _ => ⟨[], rfl, .nil, by simp⟩
  | k :: ks, v :: vs, .cons r t, hs => by
    obtain ⟨fs, e1, e2, e3⟩ := kats kp t fun x hx => hs x (by simp [hx])
    obtain ⟨p, us, rfl, ⟨o, ho, hc, n, hd⟩, rv⟩ := r
    have hk := hs k (by simp)
    cases k with
    | nil => cases hk
    | cons k0 kr =>
      have hk0 : k0.isLeft = b0 := by have := hk; simp at this; exact this.1
      cases rv with
      | @cons x f xs fr r0 rr =>
        exact ⟨f :: fs, by simp [e1], .cons (kp p o ho) hc hd (by simp) e2, fun y hy => by
          rcases List.mem_cons.mp hy with rfl | hy
          · exact ⟨k0, hk0, r0⟩
          · exact e3 y hy⟩
section
variable {prog : Program} {w : World} {A : Around} {E : Value → Shared → Prop} {s : Shared} {a : Addr} {vs : List Value} {ks : List (List Key)} {g : Heap}
theorem key_kind {h : Heap} {b0 : Bool} {t0 : List Bool} {C : SortKind → Shared → Prop} (kp : ∀ b o, g.get? b = some o → h.get? b = some o) (r : TKs g ks vs) (hs : ∀ k ∈ ks, k.map Sum.isLeft = b0 :: t0) (hn : 0 < vs.length) (q : C (tuples' true) { s with heap := h }) :
    wpAny (model prog w) A (keyKind' vs.toArray) C (fun _ _ => False) { s with heap := h } := by
  obtain ⟨fs, e1, e2, e3⟩ := kats kp r hs
  cases b0 with
  | true =>
    refine kat_kind (s := { s with heap := h }) (T := .type "int") e2 (by omega) (fun f hf => ?_) (by decide) q
    obtain ⟨k0, hk, rk⟩ := e3 f hf
    cases k0 with
    | inl i => obtain ⟨t, rfl⟩ := rk; exact Looks.of_pure rfl
    | inr x => cases hk
  | false =>
    refine kat_kind (s := { s with heap := h }) (T := .type "str") e2 (by omega) (fun f hf => ?_) (by decide) q
    obtain ⟨k0, hk, rk⟩ := e3 f hf
    cases k0 with
    | inl i => cases hk
    | inr x => obtain ⟨t, rfl⟩ := rk; exact Looks.of_pure rfl
theorem key_ask {h : Heap} {t : List Bool} {C : Bool → Shared → Prop} (kp : ∀ b o, g.get? b = some o → h.get? b = some o) (r : TKs g ks vs) (hs : ∀ k ∈ ks, k.map Sum.isLeft = t) {i j : Nat} (hi : i < vs.length) (hj : j < vs.length) (q : C (decide (kLex (ks.getD i []) (ks.getD j []))) { s with heap := h }) :
    wpAny (model prog w) A (keyLt' (tuples' true) (vs.getD i Value.none) (vs.getD j Value.none)) C (fun _ _ => False) { s with heap := h } := by
  have hl := tks_len r
  have gi : ks[i]? = some (ks.getD i []) := by simp [hl, hi]
  have gj : ks[j]? = some (ks.getD j []) := by simp [hl, hj]
  obtain ⟨v, ev, p, us, rfl, ⟨o, ho, hc, n, hd⟩, rv⟩ := TKs.get r gi
  obtain ⟨v2, ev2, p2, us2, rfl, ⟨o2, ho2, hc2, n2, hd2⟩, rv2⟩ := TKs.get r gj
  have sh : (ks.getD i []).map Sum.isLeft = (ks.getD j []).map Sum.isLeft := (hs _ (List.mem_of_getElem? gi)).trans (hs _ (List.mem_of_getElem? gj)).symm
  have ll : us.length = us2.length := by
    have a := rv.length
    have b := rv2.length
    have c := congrArg List.length sh
    simp at a b c
    omega
  rw [show vs.getD i Value.none = .ref p from by simp [List.getD, ev], show vs.getD j Value.none = .ref p2 from by simp [List.getD, ev2]]
  refine kat_lt (s := { s with heap := h }) (kp p o ho) hd (kp p2 o2 ho2) hd2 ?_
  rw [show decide (us.toArray.size < us2.toArray.size) = false from by simp [ll]]
  exact lex_keys 0 rv rv2 sh q
theorem srt_keys {n : Nat} {b0 : Bool} {t0 : List Bool} {P : PySem.Fin → Shared → Prop} (ho : s.heap.get? a = some (seqObj "list" vs.toArray n)) (h2 : 2 ≤ vs.length) (h64 : vs.length < 64) (kg : ∀ b o, g.get? b = some o → b ≠ a ∧ s.heap.get? b = some o)
    (r : TKs g ks vs) {Φ : List Key → Value → Prop} (rp : Paired Φ ks vs) (hs : ∀ k ∈ ks, k.map Sum.isLeft = b0 :: t0) (nd : ks.Nodup)
    (k : ∀ (ks' : List (List Key)) (vs' : List Value) (c : Nat) (h' : Heap), ks'.Perm ks → ks'.Pairwise kLex → Paired Φ ks' vs' → KeptBut a s.heap h' → h'.get? a = some (seqObj "list" vs'.toArray c) → P (.done (.ret .none)) { s with heap := h' }) :
    wpAny (model prog w) A (Builtin.«list.sort» ⟨[.ref a], []⟩) P E s := by
  have hl := tks_len r
  have kp : ∀ (h' : Heap), KeptBut a s.heap h' → ∀ b o, g.get? b = some o → h'.get? b = some o := fun h' x b o e => x b o (kg b o e).1 (kg b o e).2
  refine srt_list (κ := tuples' true) (L := fun i j => kLex (ks.getD i []) (ks.getD j [])) ho h2 h64 (fun a b => kLex_trans a b) (fun i j hi hj hij z => ?_) (fun h' C x q => key_kind (kp h' x) r hs (by omega) q) (fun h' i j C x hi hj q => key_ask (kp h' x) r hs hi hj q) fun p c h' Pp U x e => ?_
  · have gi : ks[i]? = some (ks.getD i []) := by simp [hl, hi]
    have gj : ks[j]? = some (ks.getD j []) := by simp [hl, hj]
    refine kLex_tot ((hs _ (List.mem_of_getElem? gi)).trans (hs _ (List.mem_of_getElem? gj)).symm) (fun y => hij ?_) z
    rw [y] at gi
    exact (List.getElem?_inj (by omega) nd).mp (gi.trans gj.symm)
  · refine k (p.toList.map fun i => ks.getD i []) (p.toList.map fun i => vs.getD i Value.none) c h' ?_ ?_ ?_ x e
    · have e1 : ((List.range vs.length).map fun i => ks.getD i []) = ks := by
        apply List.ext_getElem
        · simp [hl]
        · intro i h1 h2
          simp
          have : i < ks.length := h2
          simp [this]
      have pm := Pp.perm.map fun i => ks.getD i []
      rw [e1] at pm
      exact pm
    · rw [List.pairwise_map, List.pairwise_iff_getElem]
      intro i j hi hj hij
      have sz := Pp.size
      have hi' : i < p.size := by simpa using hi
      have hj' : j < p.size := by simpa using hj
      have u := U i j hij (by omega)
      have ei : p.getD i 0 = p.toList[i] := by simp [Array.getD, hi']
      have ej : p.getD j 0 = p.toList[j] := by simp [Array.getD, hj']
      show kLex (ks.getD p.toList[i] []) (ks.getD p.toList[j] [])
      rw [← ei, ← ej]
      exact u
    · have all : ∀ i ∈ p.toList, Φ (ks.getD i []) (vs.getD i Value.none) := fun i hi => by
        have hlt : i < vs.length := List.mem_range.mp (Pp.perm.mem_iff.mp hi)
        obtain ⟨v, ev, tk⟩ := paired_get rp (show ks[i]? = some (ks.getD i []) from by simp [hl, hlt])
        rw [show vs.getD i Value.none = v from by simp [List.getD, ev]]
        exact tk
      clear e U x
      have go : ∀ l : List Nat, (∀ i ∈ l, Φ (ks.getD i []) (vs.getD i Value.none)) → Paired Φ (l.map fun i => ks.getD i []) (l.map fun i => vs.getD i Value.none) := by
        intro l
        induction l with
        | nil => intro _; exact .nil
        | cons i l ih => intro h; exact .cons (h i (by simp)) (ih fun j hj => h j (by simp [hj]))
      exact go _ all
end
end L2

namespace L2
open PySem PySem.W PyProof.Rows PySem.Calls
section
variable {prog : Program} {w : World} {A : Around} {E : Value → Shared → Prop} {s : Shared} {a : Addr} {vs : List Value}
theorem srt_small {n : Nat} {P : PySem.Fin → Shared → Prop} (hO : s.heap.get? a = some (seqObj "list" vs.toArray n)) (hS : vs.length < 2)
    (k : ∀ (c : Nat) (h' : Heap), KeptBut a s.heap h' → h'.get? a = some (seqObj "list" vs.toArray c) → P (.done (.ret .none)) { s with heap := h' }) : wpAny (model prog w) A (Builtin.«list.sort» ⟨[.ref a], []⟩) P E s := by
  obtain ⟨e1, hO1⟩ : ∃ e1, (s.heap.update a (Obj.mapSeq fun _ => (#[] : Array Value))).get? a = some (seqObj "list" #[] e1) := ⟨_, get?_update_seq hO fun _ => #[]⟩
  have kb : KeptBut a s.heap (((s.heap.update a (Obj.mapSeq fun _ => (#[] : Array Value))).push (seqObj "tuple" vs.toArray 0)).push (seqObj "list" #[] 0)) := fun b o nb e =>
    Heap.get?_push_of_some _ (Heap.get?_push_of_some _ (by rw [Heap.get?_update_ne _ _ _ _ nb]; exact e))
  have na := Heap.get?_push_of_some (seqObj "list" #[] 0) (Heap.get?_push_of_some (seqObj "tuple" vs.toArray 0) hO1)
  generalize hh : ((s.heap.update a (Obj.mapSeq fun _ => (#[] : Array Value))).push (seqObj "tuple" vs.toArray 0)).push (seqObj "list" #[] 0) = g at kb na
  rw [list_sort_plain]
  refine wpAny_bind (listItems_at hO rfl (wpAny_bind (listUpdate_at hO rfl (wpAny_bind (seqEpoch_at hO1 rfl (wpAny_bind (wpAny_newTuple (wpAny_bind (wpAny_newList (wpAny_holding ?_) (Nat.zero_le _))) (by show vs.length ≤ _; rw [sizeLine_eq]; omega))))) (by rw [List.size_toArray, sizeLine_eq]; omega) (Nat.zero_le _))))
  show wpAny (model prog w) A _ P E { s with heap := ((s.heap.update a (Obj.mapSeq fun _ => (#[] : Array Value))).push (seqObj "tuple" vs.toArray 0)).push (seqObj "list" #[] 0) }
  rw [hh]
  dsimp only
  have hn2 : vs.toArray.size < 2 := by rw [List.size_toArray]; exact hS
  rw [if_pos hn2, if_pos hn2]
  refine wpAny_bind (wpAny_pure ?_)
  rw [StateT.run_pure]
  refine wpAny_bind (wpAny_pure ?_)
  dsimp only
  have ez : (arrOf (SortSt.mk' general' (vs.toArray.zip vs.toArray) #[] 7 none)).map (·.2) = vs.toArray := by
    show (vs.toArray.zip vs.toArray).map (·.2) = _
    apply Array.ext
    · simp
    · intro i h1 h2
      simp
  obtain ⟨c2, hc2⟩ : ∃ c2, (g.update a (Obj.mapSeq fun _ => vs.toArray)).get? a = some (seqObj "list" vs.toArray c2) := ⟨_, get?_update_seq na fun _ => vs.toArray⟩
  refine wpAny_bind (seqEpoch_at na rfl (wpAny_bind (listUpdate_at na rfl ?_ (Nat.zero_le _) (by rw [ez, List.size_toArray, sizeLine_eq]; omega))))
  rw [ez]
  simp only [bne_self_eq_false, Bool.false_eq_true, if_false]
  refine wpAny_pure (k c2 _ (fun b ob nb e => ?_) hc2)
  rw [Heap.get?_update_ne _ _ _ _ nb]
  exact kb b ob nb e
end
theorem kt_tks {P : Program} {w : World} {H : Hp} {h : Heap} (ok : HOk P w H h) : ∀ {kvs : List (List Key × V)} {xs : List (List Key × Addr × Value)}, KT H kvs xs →
    TKs h (kvs.map (·.1)) (xs.map fun q => Value.ref q.2.1) ∧ Paired (fun k v => ∃ p, v = Value.ref p ∧ H p = some (.tup (k.map kV))) (kvs.map (·.1)) (xs.map fun q => Value.ref q.2.1) ∧ kvs.map (·.1) = xs.map (·.1)
  | _, _, .nil => ⟨.nil, .nil, rfl⟩
  | _, _, .cons r t => by
    obtain ⟨a, b, c⟩ := kt_tks ok t
    obtain ⟨e, hp, _⟩ := r
    obtain ⟨_, its, rv, tt⟩ := (show ObjOk _ _ _ _ _ (.tup _) from ok _ _ hp)
    exact ⟨.cons ⟨_, its, rfl, tt, rv⟩ a, .cons ⟨_, rfl, hp⟩ b, by simp [e, c]⟩
section
variable {X : Cx}
def rSrtT : List V → Hp → VK → Prop := fun xs H Q => ∃ (a : Addr) (kvs : List (List Key × V)) (b0 : Bool) (t0 : List Bool), xs = [.ref a] ∧ H a = some (.dT kvs) ∧ kvs.length < 64 ∧ (∀ p ∈ kvs, p.1.map Sum.isLeft = b0 :: t0) ∧
  ∀ (D : Addr) (ks : List (List Key)) (ps : List Addr), H D = none → ks.Perm (kvs.map (·.1)) → ks.Pairwise kLex → Paired (fun k p => H p = some (.tup (k.map kV))) ks ps → Q (.ref D) (upd H D (.lst (ps.map V.ref)))
theorem paired_refs {H : Hp} : ∀ {ks : List (List Key)} {vs : List Value}, Paired (fun k v => ∃ p, v = Value.ref p ∧ H p = some (.tup (k.map kV))) ks vs → ∃ ps : List Addr, vs = ps.map Value.ref ∧ Vals (ps.map V.ref) vs ∧ Paired (fun k p => H p = some (.tup (k.map kV))) ks ps
  | _, _, .nil => ⟨[], rfl, .nil, .nil⟩
  | _, _, .cons ⟨p, e, hp⟩ t => by
    obtain ⟨ps, e1, e2, e3⟩ := paired_refs t
    subst e
    exact ⟨p :: ps, by simp [e1], .cons rfl e2, .cons hp e3⟩
theorem call_sortedT (hc : X.calm = true) : CallR X (.builtin "sorted") rSrtT := by
  intro pins s σ H xs us Q I r h
  obtain ⟨a, kvs, b0, t0, rfl, ha, h64, hs, q⟩ := h
  obtain ⟨u, rfl, ru⟩ := vals1 r
  cases ru
  obtain ⟨hz, hsys, ys, kt, o, es, ep, h1, h2, h3, h4, h5, h6⟩ := dt_of I.hok ha
  obtain ⟨tk, tp, ek⟩ := kt_tks I.hok kt
  have m : DAt s.heap a es ep := ⟨o, h1, h2, h3⟩
  have lk : kvs.length = ys.length := by have := congrArg List.length ek; simpa using this
  have le : es.size = ys.length := by have := congrArg List.length h4; simpa using this
  have ev : es.toList.map (·.key) = ys.map fun q => Value.ref q.2.1 := by rw [h4, List.map_map]; rfl
  have hh : X.A.handled = none := I.ok.hd hc
  refine call_function_entry kind_sorted plain_sorted entry_sorted (args_sorted1 _) ?_
  unfold Builtin.«sorted»
  refine wpAny_bind (m := checkCount "sorted" 1 1 _) (wpAny_pure (wpAny_bind (col_dict (by exact hh) hsys m (by omega) fun h' kp lt => ?_)))
  rw [ev]
  generalize hvs : (ys.map fun q => Value.ref q.2.1) = vs at tk tp
  have lv : vs.length = kvs.length := by rw [← hvs, List.length_map]; omega
  refine wpAny_bind (wpAny_newList ?_ (by rw [sizeLine_eq]; omega))
  have hD : (h'.push (seqObj "list" vs.toArray 0)).get? h'.objs.size = some (seqObj "list" vs.toArray 0) := Heap.get?_push_size _ rfl
  have kD : ∀ b o, s.heap.get? b = some o → b ≠ h'.objs.size ∧ (h'.push (seqObj "list" vs.toArray 0)).get? b = some o := fun b o e => ⟨Nat.ne_of_lt (Heap.lt_size (kp b o e)), Heap.get?_push_of_some _ (kp b o e)⟩
  have szD : s.heap.objs.size ≤ h'.objs.size := Nat.le_of_lt lt
  refine wpAny_bind (wpAny_holding (wpAny_call_entry slot_list_sort ⟨_, hD, rfl⟩ entry_list_sort ?_ (args_list_sort _)))
  have fin : ∀ (ks : List (List Key)) (vs' : List Value) (c : Nat) (h3 : Heap), ks.Perm (kvs.map (·.1)) → ks.Pairwise kLex → Paired (fun k v => ∃ p, v = Value.ref p ∧ H p = some (.tup (k.map kV))) ks vs' → KeptBut h'.objs.size (h'.push (seqObj "list" vs.toArray 0)) h3 →
      h3.get? h'.objs.size = some (seqObj "list" vs'.toArray c) → EP X pins σ Q (.ref h'.objs.size) { s with heap := h3 } := fun ks vs' c h3 pm pw pr kb e => by
    obtain ⟨ps, e1, e2, e3⟩ := paired_refs pr
    have lp : ps.length ≤ sizeLine := by
      have a1 := pm.length_eq
      have a2 := Paired.length e3
      simp at a1
      rw [sizeLine_eq]
      omega
    exact ⟨.ref h'.objs.size, _, I.laid (t' := s.toks) (fun b o e' => kb b o (kD b o e').1 (kD b o e').2) szD (show ObjOk X.prog X.w _ h3 _ (.lst (ps.map V.ref)) from ⟨by simpa using lp, vs', c, e2, e⟩), rfl, q _ ks ps (I.hok.fresh szD) pm pw e3⟩
  by_cases h2' : vs.length < 2
  · refine srt_small hD h2' fun c h3 kb e => ⟨_, rfl, wpAny_pure ⟨_, rfl, fin (kvs.map (·.1)) vs c h3 (List.Perm.refl _) ?_ tp kb e⟩⟩
    match kvs, lv, h2' with
    | [], _, _ => exact .nil
    | [x], _, _ => exact List.pairwise_singleton _ _
    | _ :: _ :: _, lv, h2' => simp at lv; omega
  · exact srt_keys hD (by omega) (by omega) kD tk tp (fun k hk => by obtain ⟨x, hx, rfl⟩ := List.mem_map.mp hk; exact hs x hx) (ek ▸ h6) fun ks vs' c h3 pm pw pr kb e => ⟨_, rfl, wpAny_pure ⟨_, rfl, fin ks vs' c h3 pm pw pr kb e⟩⟩
end
end L2

namespace L2
open PySem PySem.W PyProof.Rows
section
variable {prog : Program} {w : World} {K : Type} [DecidableEq K] {knd : HeapKind prog w K} {A : Around} {E : Value → Shared → Prop} {s : Shared}
theorem sd_heap {d a : Addr} {xs : List (K × Addr × Value)} {k : K} {v : Value} {Q : Value → Shared → Prop} (hu : knd.room A) (hkey : knd.is s.heap k a) (hm : s.heap.DictOfH knd d xs) (hsz : xs.length ≤ sizeLine)
    (h1 : ∀ p, atKey xs k = some p → Q p.2 { s with toks := s.toks + knd.draws k })
    (h2 : atKey xs k = none → ∀ h', h'.DictOfH knd d (storedH xs k a v) → Heap.SameBut d s.heap h' → Q v { s with heap := h', toks := s.toks + knd.draws k }) : wpAny (model prog w) A (dictSetDefault d (.ref a) v) Q E s := by
  obtain ⟨o, es, ep, hO, hX, hD, hE, hI, hN⟩ := hm
  unfold dictSetDefault
  (try with_reducible refine wpAny_holding ?_)
  refine wpAny_bind (knd.pyHash hu hkey (wpAny_bind (wpAny_dictFind_heap (s := { s with toks := s.toks + knd.draws k }) hu hkey hO hD hE hI hN (fun hno => ?_) (fun j p hj => ?_))))
  · have no := atKey_none_of_get hno
    have nk : k ∉ xs.map (·.1) := not_mem_keys_of_get hno
    refine wpAny_bind (wpAny_rule (wpAny_bind (wpAny_updateDictKeys (hz := by have e := size_of_entries hE; omega) (s := { s with toks := s.toks + knd.draws k }) hO hD (wpAny_pure (h2 no _ ⟨_, _, ep + 1, Heap.get?_update_self _ hO (Obj.isFreed_of_dict (Obj.data_mapDictKeys hD _)), hX.mapDictKeys _, Obj.data_mapDictKeys hD _, ?_, ?_, ?_⟩ (Heap.SameBut.update ..))))))
    · rw [storedH_new no]; simp [hE, entryOfKey]
    · rw [storedH_new no]
      intro x hx
      rcases List.mem_append.mp hx with hx | hx
      · exact knd.keeps (hI x hx) hO hD (Heap.SameBut.update ..)
      · rw [List.mem_singleton.mp hx]
        exact knd.keeps hkey hO hD (Heap.SameBut.update ..)
    · rw [storedH_new no, List.map_append, List.nodup_append]
      exact ⟨hN, by simp, fun x hx y hy e => nk (by
        have : y = k := by simpa using hy
        rw [← this, ← e]; exact hx)⟩
  · refine wpAny_bind (wpAny_dictEntries (s := { s with toks := s.toks + knd.draws k }) hO hD ?_)
    rw [entry_at hE j, hj]
    exact wpAny_bind (wpAny_rule (wpAny_pure (h1 _ (atKey_of_get hN hj))))
theorem sd_call {d a : Addr} {xs : List (K × Addr × Value)} {k : K} {v : Value} {Q : Value → Shared → Prop} (hu : knd.room A.in1) (hsys : (d == sysModules) = false) (hkey : knd.is s.heap k a) (hm : s.heap.DictOfH knd d xs) (hsz : xs.length ≤ sizeLine)
    (h1 : ∀ p, atKey xs k = some p → Q p.2 { s with toks := s.toks + knd.draws k })
    (h2 : atKey xs k = none → ∀ h', h'.DictOfH knd d (storedH xs k a v) → Heap.SameBut d s.heap h' → Q v { s with heap := h', toks := s.toks + knd.draws k }) :
    wpAny (model prog w) A (call (.builtin "dict.setdefault") [.ref d, .ref a, v]) Q E s := by
  refine wpAny_call_entry PySem.F.slot_dict_setdefault hm.typeIs PySem.F.entry_dict_setdefault ?_ (PySem.F.args_dict_setdefault_3 _ _ _)
  unfold Builtin.«dict.setdefault» Builtin.Dict.keyAndDefault
  refine wpAny_bind (wpAny_bind (wpAny_notOrdered_dict hm.typeIs ?_))
  show wpAny _ _ (pure (d, Value.ref a, some v)) _ _ s
  refine wpAny_pure ?_
  show wpAny _ _ (if (d == sysModules) = true then _ else (dictSetDefault d (.ref a) v >>= _)) _ _ s
  rw [if_neg (by rw [hsys]; simp)]
  exact wpAny_bind (sd_heap hu hkey hm hsz (fun p e => wpAny_pure ⟨_, rfl, h1 p e⟩) fun e h' a b => wpAny_pure ⟨_, rfl, h2 e h' a b⟩)
end
section
variable {X : Cx} {pins : List (Addr × Obj)} {σ : St} {H : Hp} {s : Shared} {A : Around} {E : Value → Shared → Prop}
theorem d_setdef {a b : Addr} {kvs : List (List Key × V)} {k : List Key} {v : V} {r : Value} {Q : Value → Shared → Prop} (hu : A.units + 1 < cLine) (I : Inv X pins σ H s) (e : H a = some (.dT kvs)) (eb : H b = some (.tup (k.map kV))) (l : kvs.length < sizeLine) (rv : RelV v r)
    (h1 : ∀ x w' s', valV kvs k = some x → Inv X pins σ H s' → RelV x w' → Q w' s') (h2 : ∀ s', valV kvs k = none → Inv X pins σ (upd H a (.dT (putK kvs k v))) s' → Q r s') :
    wpAny (model X.prog X.w) A (call (.builtin "dict.setdefault") [.ref a, .ref b, r]) Q E s := by
  obtain ⟨z, hd, xs, rel, dd⟩ := dt_of I.hok e
  have hz : xs.length ≤ sizeLine := by rw [← Paired.length rel]; exact z
  have hl : (putK kvs k v).length ≤ sizeLine := by have := length_putK kvs k v; omega
  have rk := rel.val k
  refine sd_call (knd := tupleKind (mixKind X.prog X.w)) (tupleKind_room_in1 hu) hd (key_of I.hok eb) dd hz (fun p ep => ?_) fun en h' dd' hs => ?_
  · rw [ep] at rk
    cases ev : valV kvs k with
    | none => rw [ev] at rk; exact rk.elim
    | some x =>
      rw [ev] at rk
      exact h1 x _ _ ev (I.tok _) rk
  · have ev : valV kvs k = none := by
      cases ev : valV kvs k with
      | none => rfl
      | some x => rw [ev, en] at rk; exact rk.elim
    obtain ⟨q, es, ep, hq, g2, g3, g4, _, g5⟩ := dd'
    refine h2 _ ev (d_write I (by rw [e]; exact True.intro) hs ⟨q, hq⟩ ⟨hl, hd, _, (rel.put k eb rv).keeps fun c ys ec => ?_, q, es, ep, hq, g2, g3, g4, g5⟩)
    rw [upd_ne (ne_of ec e (fun z => nomatch z))]
    exact ec
end
def tDSetD (td ty tx : TE) : TE := fun σ H Q => td σ H fun x H1 => ∃ a, x = .ref a ∧ IsD H1 a ∧ ty σ H1 fun y H2 => tx σ H2 fun z H3 => ∃ b kvs k, H3 a = some (.dT kvs) ∧ y = .ref b ∧ H3 b = some (.tup (k.map kV)) ∧ kvs.length < sizeLine ∧
  (∀ v, valV kvs k = some v → Q v H3) ∧ (valV kvs k = none → Q z (upd H3 a (.dT (putK kvs k z))))
section
variable {X : Cx} {o e f : Expr} {apos cpos : Pos} {td ty tx : TE}
theorem pe_dsetd (hu : X.A.units + 1 < cLine) (ho : PE X o td) (he : PE X e ty) (hf : PE X f tx) (m : M2 X o "setdefault" apos e f cpos) : PE X (.Call (.Attribute o "setdefault" apos) [e, f] [] cpos) (tDSetD td ty tx) := by
  intro pins s σ H Q I h
  refine wpAny_Call_method m.base m.few m.line PySem.F.plainAttrs_dict PySem.F.slot_dict_setdefault PySem.F.type_dict_setdefault (thn (ho pins s σ H _ I h) fun u s1 ⟨x, H1, I1, rx, a, ex, d, q1⟩ => ?_)
  subst ex
  obtain rfl : u = Value.ref a := rx
  obtain ⟨t1, t2, _⟩ := isD_at I1 d
  refine ⟨t1, t2, ?_⟩
  rw [m.trees]
  refine Calls.callWith_builtin rfl (Calls.evalArgs_plain (Calls.spliced_cons (thn (he pins s1 σ H1 _ I1 q1) fun iv s2 ⟨y, H2, I2, ry, q2⟩ =>
    Calls.spliced_cons (thn (hf pins s2 σ H2 _ I2 q2) fun fv s3 ⟨z, H3, I3, rz, b, kvs, k, ea, ey, eb, hl, qa, qb⟩ => Calls.spliced_nil ?_))))
  subst ey
  obtain rfl : iv = Value.ref b := ry
  exact d_setdef hu I3 ea eb hl rz (fun v w' s4 ev I4 rw' => ⟨_, H3, I4, rw', qa v ev⟩) fun s4 en I4 => ⟨_, _, I4, rz, qb en⟩
theorem qpe_dsetd (hu : X.A.units + 1 < cLine) (ho : Pr (PE X o td)) (he : Pr (PE X e ty)) (hf : Pr (PE X f tx)) (m : M2 X o "setdefault" apos e f cpos) : Pr (PE X (.Call (.Attribute o "setdefault" apos) [e, f] [] cpos) (tDSetD td ty tx)) := ⟨pe_dsetd hu ho.h he.h hf.h m⟩
theorem qpe_dnewT {pos : Pos} : Pr (PE X (.Dict [] [] pos) tDNewT) := ⟨pe_dnewT⟩
theorem qpt_dnotin {i : Expr} {pos : Pos} (hu : X.A.units + 1 < cLine) (hi : Pr (PE X i ty)) (ho : Pr (PE X o td)) (h1 : behindInMarks .NotIn o = false := by rfl) : Pr (PT X (.Compare i [.NotIn] [o] pos) (tB (tDNotIn ty td))) := ⟨pt_cmp (pc_dnotin hu hi.h ho.h) h1⟩
theorem qps_dput {i value : Expr} {tv : TE} {pos pos' : Pos} (hu : X.A.units + 1 < cLine) (ho : Pr (PE X o td)) (hi : Pr (PE X i ty)) (hv : Pr (PE X value tv)) (hs : swapsWith value (some (.Subscript o i pos')) pos.line X.env = pure false) :
    Pr (PS X (.Assign [.Subscript o i pos'] value pos) (sDPut td ty tv)) := ⟨ps_dput hu ho.h hi.h hv.h hs⟩
theorem qpe_pop (ho : Pr (PE X o td)) (hbase : attributeBase o "pop" X.env (eval o X.env) = eval o X.env := by rfl) (hline : (apos.endLine == cpos.line) = true := by rfl) : Pr (PE X (.Call (.Attribute o "pop" apos) [] [] cpos) (tBM0 X.K "list" rPop td)) :=
  ⟨pe_bm0 PySem.F.plainAttrs_list PySem.F.slot_list_pop PySem.F.type_list_pop mt_pop ho.h hbase hline⟩
end
end L2

namespace L2
open PySem PySem.W PyProof.Rows
def sqO (k : SK) (xs : List V) : HO := match k with
  | .list => .lst xs
  | .tuple => .tup xs
theorem Sq.ofO {k : SK} {K : PySem.W.Frag} {H : Hp} {a : Addr} {xs : List V} (h : H a = some (sqO k xs)) : Sq k K H a xs := by
  cases k with
  | list => exact SqL.of h
  | tuple => exact SqT.of h
def ItK (K : PySem.W.Frag) (k : SK) (a : Addr) : It := match k with
  | .list => Itl K a
  | .tuple => Itt K a
def iSq (K : PySem.W.Frag) (k : SK) (tl : TE) : TI := fun σ H R => tl σ H fun x H1 => ∃ a, x = .ref a ∧ (∃ xs, Sq k K H1 a xs) ∧ R (ItK K k a) H1
section
variable {X : Cx} {tg l : Expr}
theorem qpi_sqK (K : PySem.W.Frag) (hK : X.K = K) (k : SK) {tl : TE} (hl : Pr (PE X l tl)) : Pr (PI X tg l (iSq K k tl)) := by
  cases k with
  | list => exact qpi_listK K hK hl
  | tuple => exact qpi_tupK K hK hl
end
theorem comp_sq {K : PySem.W.Frag} {k : SK} {a : Addr} (xs : List V) {g : TG} {tt : TT} {te : TE} {Q : List V → Hp → Prop} {σ : St} {H : Hp} (Pv : Nat → List V → St → Hp → Prop) (hn : xs.length < sizeLine) (h0 : Pv 0 [] σ H) (hl : ∀ i ys σ H, i ≤ xs.length → Pv i ys σ H → ys.length ≤ i ∧ Sq k K H a xs)
    (turn : ∀ i ys σ H x, xs[i]? = some x → Pv i ys σ H → g x σ H fun σ2 H2 => tt σ2 H2 fun b H3 => if b = true then te σ2 H3 fun y H4 => Pv (i + 1) (ys ++ [y]) σ2 H4 else Pv (i + 1) ys σ2 H3)
    (after : ∀ ys σ H, Pv xs.length ys σ H → Q ys H) : Comp (ItK K k a) g tt te Q σ H := by
  cases k with
  | list => exact comp_list xs Pv hn h0 hl turn after
  | tuple => exact comp_tup xs Pv hn h0 hl turn after
theorem while_at {c : TT} {tb : TS} {D : Ends} {σ : St} {H : Hp} (W : Nat → St → Hp → Prop) (h0 : ∃ m, W m σ H)
    (hs : ∀ m σ H, W m σ H → c σ H fun b H1 => if b = true then tb { D with nx := fun σ' H' => ∃ m', m' < m ∧ W m' σ' H', ct := fun σ' H' => ∃ m', m' < m ∧ W m' σ' H', bk := D.nx } σ H1 else D.nx σ H1)
    (mono : ∀ σ H Q Q', (∀ b H1, Q b H1 → Q' b H1) → c σ H Q → c σ H Q') : tWhile c tb D σ H := by
  refine ⟨W, h0, fun m σ H p => mono σ H _ _ (fun b H1 q => ?_) (hs m σ H p)⟩
  cases b with
  | true => exact ⟨_, fun σ' H' z => z, q⟩
  | false => exact q
theorem dget_some {H : Hp} {a b : Addr} {kvs : List (List Key × V)} {k : List Key} {v : V} (e : H a = some (.dT kvs)) (eb : H b = some (.tup (k.map kV))) (h : valV kvs k = some v) : DGet H a (.ref b) (some v) := h ▸ DGet.t e eb
theorem dget_none {H : Hp} {a b : Addr} {kvs : List (List Key × V)} {k : List Key} (e : H a = some (.dT kvs)) (eb : H b = some (.tup (k.map kV))) (h : valV kvs k = none) : DGet H a (.ref b) none := h ▸ DGet.t e eb
theorem isD_t {H : Hp} {a : Addr} {kvs : List (List Key × V)} (e : H a = some (.dT kvs)) : IsD H a := .inr ⟨kvs, .inl e⟩
theorem callK_tuple_of {X : Cx} (K : PySem.W.Frag) (hK : X.K = K) : CallR X (.type "tuple") (fun xs H Q => ∃ p ys, xs = [V.ref p] ∧ ((SqL K H p ys ∧ ∀ (l : Addr), H l = none → Q (V.ref l) (upd H l (HO.tup ys))) ∨ SqT K H p ys ∧ Q (V.ref p) H)) := by subst hK; exact call_tuple_of
end L2

namespace L2
open PySem PySem.Spec PyProof.Rows PySem.SeqAt
theorem nolen_rv : typeLookup (.type "list_reverseiterator") "__len__" = pure none := by rw [typeLookup_type, builtinLookup_eq_fast]; kernel_rfl
theorem hint_rv : typeLookup (.type "list_reverseiterator") "__length_hint__" = pure (some (.builtin "list_reverseiterator.__length_hint__")) := by rw [typeLookup_type, builtinLookup_eq_fast]; kernel_rfl
theorem self_rv : isSubtype (.type "list_reverseiterator") (.type "list_reverseiterator") = pure true := by rw [isSubtype_type]; kernel_rfl
theorem split_rv : splitId "list_reverseiterator.__length_hint__" = some ("list_reverseiterator", "__length_hint__") := by decide +kernel
section
variable {prog : Program} {w : World} {A : Around} {E : Value → Shared → Prop} {s : Shared} {I : Addr} {fp wr : List Addr} {G : Array GenState → Array GenState → Prop} {n : Nat} {P : Nat → Value → Prop} {St : Nat → Shared → Prop}
theorem hint_of_rev {Q : Bool → Shared → Prop} (hT : s.TypeIs (.ref I) "list_reverseiterator") (q : Q false s) : wpAny (model prog w) A (Builtin.List.listLengthHint (.ref I)) Q E s := by
  unfold Builtin.List.listLengthHint
  refine wpAny_bind (wpAny_specialOf hT nolen_rv ?_)
  show wpAny _ A (specialOf (Value.ref I) (Str.ofString "__length_hint__") >>= _) _ _ _
  refine wpAny_bind (wpAny_specialOf hT hint_rv ?_)
  dsimp only
  rw [split_rv]
  refine wpAny_bind (wpAny_isInstance (b := true) hT self_rv ?_)
  exact wpAny_pure q
theorem collect_rev {Q : List Value → Shared → Prop} (W : WalksS prog w A.in1 I fp wr G n P St) (hT : ∀ i s, St i s → s.TypeIs (.ref I) "list_reverseiterator") (hst : St 0 s) (hfp : ∀ b ∈ fp, b < s.heap.objs.size) (hI : I ∈ fp)
    (hQ : ∀ s' acc, Moved wr G s s' → ItemsOf P acc n → Q acc.toList s') (hn : n ≤ sizeLine) : wpAny (model prog w) A (collect (.ref I)) Q E s := by
  have nS : s.heap.objs.size ∉ fp := fun hm => Nat.lt_irrefl _ (hfp _ hm)
  have nI : s.heap.objs.size ≠ I := fun e => nS (e ▸ hI)
  unfold collect
  refine wpAny_bind (wpAny_runValue (codeAny_builtin entry_proto_collect' ?_))
  show wpAny _ _ (do again (.builtin "list.__iadd__" ⟨[← newList [], .ref I], []⟩)) _ _ s
  refine wpAny_bind (wpAny_newList (wpAny_pure ⟨Code.quiet_builtin _ (by decide +kernel), codeAny_builtin entry_list_iadd' ?_⟩))
  rw [Around.under_plainId F.plain_list_iadd _]
  show wpAny _ _ (Builtin.List.listExtendWith (.ref s.heap.objs.size) (.ref I) (.ref s.heap.objs.size)) _ _ { s with heap := s.heap.push (seqObj "list" #[] 0) }
  unfold Builtin.List.listExtendWith
  have st1 := W.frame 0 s (s.heap.push (seqObj "list" #[] 0)) s.toks hst (Nat.le_refl _) fun b _ o e => Heap.get?_push_of_some _ e
  have S1 : (s.heap.push (seqObj "list" #[] 0)).get? s.heap.objs.size = some (seqObj "list" #[] 0) := Heap.get?_push_size _ rfl
  refine wpAny_bind (wpAny_typeOf (hT 0 _ st1) ?_)
  have e1 : Builtin.List.listSameRef (.ref s.heap.objs.size) (.ref I) = false := by simp [Builtin.List.listSameRef, nI]
  have e2 : (Value.type "list_reverseiterator" == Value.type "list") = false := by decide
  have e3 : (Value.type "list_reverseiterator" == Value.type "tuple") = false := by decide
  simp only [e1, e2, e3, Bool.or_false, Bool.false_eq_true, if_false]
  refine wpAny_bind (W.self 0 _ _ _ st1 ?_)
  refine wpAny_bind (wpAny_holding (hint_of_rev (hT 0 _ st1) ?_))
  (try rw [if_neg (by decide)])
  refine wpAny_pure ⟨plainId_quiet F.plain_extend_loop _, codeAny_extend_loopS W hn _ nS _ n 0 _ _ _ rfl (Nat.zero_le _) st1 S1 (ItemsOf.nil P) fun s' acc' c' hm hS' hacc => ?_⟩
  refine wpAny_bind (wpAny_load hS' ?_)
  exact wpAny_pure (hQ s' acc' (Moved.drop_new (o := seqObj "list" #[] 0) (tk := s.toks) hm (Nat.le_refl _)) hacc)
theorem tuple_rev_code {Q : Value → Shared → Prop} (W : WalksS prog w A.in1.in1 I fp wr G n P St) (hT : ∀ i s, St i s → s.TypeIs (.ref I) "list_reverseiterator") (hst : St 0 s) (hfp : ∀ b ∈ fp, b < s.heap.objs.size) (hI : I ∈ fp) (hn : n ≤ sizeLine)
    (q : ∀ s' acc, Moved wr G s s' → ItemsOf P acc n → Q (.ref s'.heap.objs.size) { s' with heap := s'.heap.push { cls := .type "tuple", data := .seq acc } }) :
    codeAny (model prog w) A (.call (.builtin "tuple.__new__") ⟨[.type "tuple", .ref I], []⟩) (wants Q E) s := by
  refine codeAny_of_tree ?_
  show wpAny _ A.in1 (checkBuiltinCall "tuple.__new__" ⟨[.type "tuple", .ref I], []⟩ >>= fun _ => again (.builtin "tuple.__new__" ⟨[.type "tuple", .ref I], []⟩)) _ _ s
  refine wpAny_bind (wpAny_of_eq (F.newCall_tuple_1 _) (wpAny_pure ⟨plainId_quiet F.plain_tuple_new _, codeAny_builtin F.entry_tuple_new ?_⟩))
  rw [Around.under_plainId F.plain_tuple_new _]
  have a1 := sub_tuple_self
  have a2 := init_tuple_lookup
  have a3 := madeHere_tuple
  have a4 := hT 0 s hst
  wp_walk using wpAny_typeOf a4, collect_rev (hn := hn) W hT hst hfp hI
  intro s' acc hm hacc
  show wpAny _ _ (Builtin.Tuple.tupleExact acc.toList.toArray >>= fun v => ret v) _ _ _
  rw [show acc.toList.toArray = acc from by simp]
  unfold Builtin.Tuple.tupleExact
  exact wpAny_bind (wpAny_newObj_type (wpAny_pure (q s' acc hm hacc)) (by show acc.size ≤ sizeLine; rw [hacc.1]; exact hn))
theorem call_tuple_rev {Q : Value → Shared → Prop} (W : WalksS prog w A.in1.in1.in1 I fp wr G n P St) (hT : ∀ i s, St i s → s.TypeIs (.ref I) "list_reverseiterator") (hst : St 0 s) (hfp : ∀ b ∈ fp, b < s.heap.objs.size) (hI : I ∈ fp) (hn : n ≤ sizeLine)
    (q : ∀ s' acc, Moved wr G s s' → ItemsOf P acc n → Q (.ref s'.heap.objs.size) { s' with heap := s'.heap.push { cls := .type "tuple", data := .seq acc } }) : wpAny (model prog w) A (call (.type "tuple") [.ref I]) Q E s := by
  refine callType_codes (Q₁ := fun ob t => t.TypeIs ob "tuple" ∧ Q ob t) F.called_tuple (F.typeCall_tuple_1 _) F.entry_object_init (tuple_rev_code W hT hst hfp hI hn fun s' acc hm ha => ⟨⟨_, Heap.get?_push_size _ rfl, rfl⟩, q s' acc hm ha⟩) fun ob t h => ?_
  exact ⟨h.1, F.args_object_init_2 ob _, object_init_meets F.called_tuple.init.lookup F.called_tuple.made (by decide) prog w A.in1 _ t ⟨h.1, rfl, h.2⟩⟩
end
section
variable {X : Cx}
def tTR (K : PySem.W.Frag) (ta : TA) : TE := fun σ H Q => ta σ H fun vs H1 => ∃ a xs, vs = [.ref a] ∧ SqL K H1 a xs ∧ ∀ D, H1 D = none → Q (.ref D) (upd H1 D (.tup xs.reverse))
theorem pe_tuprev {a : Expr} {ta : TA} {p1 p2 p3 p4 : Pos} (hc : X.calm = true) (hgt : Gl X "tuple") (hmt : X.mg "tuple" = none) (hgr : Gl X "reversed") (hmr : X.mg "reversed" = none) (ha : PA X [a] ta)
    (hs : starEach [a] X.env = [(false, eval a X.env)] := by rfl) (hsz : starEach [.Call (.Name "reversed" p2) [a] [] p3] X.env = [(false, eval (.Call (.Name "reversed" p2) [a] [] p3) X.env)] := by rfl) :
    PE X (.Call (.Name "tuple" p1) [.Call (.Name "reversed" p2) [a] [] p3] [] p4) (tTR X.K ta) := by
  intro pins s σ H Q I h
  refine Call_ (ld_blt I hgt hmt PyProof.Rows.Boot.«tuple» (PyProof.Rows.callWith_type1 ?_ hsz rfl))
  rw [hsz]
  refine Calls.spliced_cons ?_
  refine Call_ (ld_blt I hgr hmr boot_reversed (PyProof.Rows.callWith_type1 (thn (ha p3 pins s σ H _ I h) fun us s1 ⟨vs, H1, I1, r1, q1⟩ => ?_) hs rfl))
  obtain ⟨a', xs, e, qx, q⟩ := q1
  subst e
  obtain ⟨u, rfl, ru⟩ := vals1 r1
  cases ru
  obtain ⟨its, rv, p, hz⟩ := I1.list qx
  have hl := rv.length
  have hh : X.A.handled = none := I.ok.hd hc
  refine call_reversed_list p.isList (Calls.spliced_nil ?_)
  have lt : a' < s1.heap.objs.size := by obtain ⟨_, e, _⟩ := p.isList; exact Heap.lt_size e
  have ne : a' ≠ s1.heap.objs.size := Nat.ne_of_lt lt
  have k1 : ∀ b o, s1.heap.get? b = some o → (s1.heap.push (revObj a' ((its.toArray.size : Int) - 1))).get? b = some o := fun b o e => Heap.get?_push_of_some _ e
  have g0 : (s1.heap.push (revObj a' ((its.toArray.size : Int) - 1))).IsRevIter s1.heap.objs.size a' ((its.toArray.size : Int) - 1) := ⟨_, Heap.get?_push_size _ rfl, rfl, rfl⟩
  have gl : (s1.heap.push (revObj a' ((its.toArray.size : Int) - 1))).IsList a' its.toArray := p.isList.at fun o e => k1 a' o e
  refine call_tuple_rev (s := { s1 with heap := s1.heap.push (revObj a' ((its.toArray.size : Int) - 1)) }) (Walks.listRev (A := X.A.in1.in1.in1) hh s1.heap.objs.size a' ne its.toArray).toS (fun i t st => st.2.1.typeIs) ⟨Nat.zero_le _, ?_, gl⟩ ?_ (by simp) (by simp; omega) fun s' acc hm ha => ?_
  · have e0 : (its.toArray.size : Int) - 1 - ((0 : Nat) : Int) = (its.toArray.size : Int) - 1 := by omega
    rw [e0]
    exact g0
  · intro b hb
    have sz := Heap.lt_size (show (s1.heap.push (revObj a' ((its.toArray.size : Int) - 1))).get? s1.heap.objs.size = some _ from Heap.get?_push_size _ rfl)
    rcases List.mem_cons.mp hb with e | e
    · rw [e]; exact sz
    · rw [List.mem_singleton.mp e]; exact Nat.lt_trans lt sz
  · have es : s' = { s1 with heap := s'.heap, toks := s'.toks } := by
      obtain ⟨x1, x2, x3, x4, x5⟩ := s'
      have z1 := hm.gens
      have z2 := hm.drawn
      have z3 := hm.os
      simp only at z1 z2 z3
      subst z1 z2 z3
      rfl
    have kp : ∀ b o, s1.heap.get? b = some o → s'.heap.get? b = some o := fun b o e => hm.heap b o (by
      intro z
      exact absurd (List.mem_singleton.mp z) (Nat.ne_of_lt (Heap.lt_size e))) (k1 b o e)
    have ea : acc.toList = its.reverse := by
      refine List.ext_getElem? fun i => ?_
      by_cases hi : i < its.length
      · have hi2 : i < acc.size := by rw [ha.1]; simpa using hi
        have g := ha.2 i _ (Array.getElem?_eq_getElem hi2)
        rw [List.getElem?_reverse hi, Array.getElem?_toList, Array.getElem?_eq_getElem hi2, ← g]
        simp
      · have h0 : acc.toList.length = its.length := by rw [Array.length_toList, ha.1]; simp
        rw [List.getElem?_eq_none (by omega), List.getElem?_eq_none (by rw [List.length_reverse]; omega)]
    have ev : acc = its.reverse.toArray := by rw [← ea]
    rw [es]
    have I2 : Inv X pins σ H1 { s1 with heap := s'.heap, toks := s'.toks } := I1.kept (t' := s'.toks) kp
    refine ⟨.ref s'.heap.objs.size, _, I2.laid (t' := s'.toks) (o := .tup xs.reverse) (a := s'.heap.objs.size) (fun b o e => Heap.get?_push_of_some _ e) (Nat.le_refl _) (show ObjOk X.prog X.w _ _ _ (.tup xs.reverse) from ⟨by simpa using hz, its.reverse, rv.reverse, ?_⟩), rfl, q _ (I2.hok.fresh (Nat.le_refl _))⟩
    rw [ev]
    exact IsTup.new _ _
theorem qpe_tuprev {a : Expr} {ta : TA} {p1 p2 p3 p4 : Pos} (hc : X.calm = true) (hgt : Gl X "tuple") (hmt : X.mg "tuple" = none) (hgr : Gl X "reversed") (hmr : X.mg "reversed" = none) (ha : Pr (PA X [a] ta))
    (hs : starEach [a] X.env = [(false, eval a X.env)] := by rfl) (hsz : starEach [.Call (.Name "reversed" p2) [a] [] p3] X.env = [(false, eval (.Call (.Name "reversed" p2) [a] [] p3) X.env)] := by rfl) :
    Pr (PE X (.Call (.Name "tuple" p1) [.Call (.Name "reversed" p2) [a] [] p3] [] p4) (tTR X.K ta)) := ⟨pe_tuprev hc hgt hmt hgr hmr ha.h hs hsz⟩
theorem all_true (n : Nat) : (List.range n).all (fun _ => true) = true := by simp
def SameL (H : Hp) (u v : Addr) : Prop := u ≠ v ∧ ∃ ps : List Addr, H u = some (.lst (ps.map V.ref)) ∧ H v = some (.lst (ps.map V.ref))
def rNeW : R2 := fun x y H Q => ∃ (a b : Addr) (us vs : List Addr), x = .ref a ∧ y = .ref b ∧ H a = some (.tup (us.map V.ref)) ∧ H b = some (.tup (vs.map V.ref)) ∧ Paired (SameL H) us vs ∧ Q (.bl false) H
theorem refs_vals : ∀ {ps : List Addr} {us : List Value}, Vals (ps.map V.ref) us → us = ps.map Value.ref
  | [], _, .nil => rfl
  | p :: ps, _, .cons r t => by
    cases r
    rw [List.map_cons, refs_vals t]
theorem paired_at {α β : Type} {R : α → β → Prop} : ∀ {xs : List α} {ys : List β}, Paired R xs ys → ∀ (j : Nat) (h1 : j < xs.length) (h2 : j < ys.length), R xs[j] ys[j]
  | _, _, .nil, j, h1, _ => absurd h1 (Nat.not_lt_zero _)
  | _, _, .cons a t, 0, _, _ => a
  | _, _, .cons a t, j + 1, h1, h2 => by
    have := paired_at t j (by simpa using h1) (by simpa using h2)
    simpa using this
theorem op_neW (hu : X.A.units + 64 < cLine) : OpR X (compareOp .NotEq) rNeW := by
  intro pins s σ H x y v u Q I rx ry h
  obtain ⟨a, b, us, vs, rfl, rfl, ha, hb, pr, q⟩ := h
  cases rx
  cases ry
  obtain ⟨z, its, rv, t1⟩ := I.hok a _ ha
  obtain ⟨z2, its2, rv2, t2⟩ := I.hok b _ hb
  have e1 := refs_vals rv
  have e2 := refs_vals rv2
  have el := Paired.length pr
  have key := RcNeAt.tuples (A := X.A) (s := s) (e := fun _ => true) t1 t2 (by omega) (fun j h1 h2 => by
    subst e1 e2
    have j1 : j < us.length := by simpa using h1
    have j2 : j < vs.length := by simpa using h2
    obtain ⟨ne, ps, g1, g2⟩ := paired_at pr j j1 j2
    obtain ⟨y1, as, n1, ra, ea⟩ := I.hok _ _ g1
    obtain ⟨y2, bs, n2, rb, eb⟩ := I.hok _ _ g2
    have f1 := refs_vals ra
    have f2 := refs_vals rb
    subst f1 f2
    have k := RcAt.lists (A := X.A.in1) (s := s) (e := fun _ => true) ⟨_, ea, rfl, n1, rfl⟩ ⟨_, eb, rfl, n2, rfl⟩ rfl (show X.A.units + 1 < cLine by omega) (fun i h1 h2 => EqAt.same _)
    rw [all_true] at k
    simp only [List.getElem_toArray, List.getElem_map]
    exact EqAt.of_refs ne k)
  have e : (!((List.range (min its.toArray.size its2.toArray.size)).all (fun _ => true) && its.toArray.size == its2.toArray.size)) = false := by
    rw [all_true, e1, e2]
    simp [el]
  rw [e] at key
  exact key X.prog X.w X.xe _ ⟨.bl _, H, I, rfl, q⟩
end
end L2

namespace L2
abbrev Wr := List Key
theorem kLex_irrefl : ∀ (a : List Key), ¬ kLex a a
  | [] => id
  | k :: ks => by
    unfold kLex
    rw [if_pos rfl]
    exact kLex_irrefl ks
theorem sort_unique : ∀ {l m : List Wr}, l.Pairwise kLex → m.Pairwise kLex → (∀ x, x ∈ l ↔ x ∈ m) → l = m
  | [], [], _, _, _ => rfl
  | [], y :: m, _, _, h => absurd ((h y).mpr (by simp)) (by simp)
  | x :: l, [], _, _, h => absurd ((h x).mp (by simp)) (by simp)
  | x :: l, y :: m, hl, hm, h => by
    obtain ⟨a1, a2⟩ := List.pairwise_cons.mp hl
    obtain ⟨b1, b2⟩ := List.pairwise_cons.mp hm
    have e : x = y := by
      rcases List.mem_cons.mp ((h x).mp (by simp)) with e | e
      · exact e
      · rcases List.mem_cons.mp ((h y).mpr (by simp)) with e' | e'
        · exact e'.symm
        · exact absurd (kLex_trans (b1 x e) (a1 y e')) (kLex_irrefl y)
    subst e
    rw [sort_unique a2 b2 fun z => ?_]
    constructor
    · intro hz
      rcases List.mem_cons.mp ((h z).mp (by simp [hz])) with e | e
      · subst e; exact absurd (a1 z hz) (kLex_irrefl z)
      · exact e
    · intro hz
      rcases List.mem_cons.mp ((h z).mpr (by simp [hz])) with e | e
      · subst e; exact absurd (b1 z hz) (kLex_irrefl z)
      · exact e
def Bes (E : List (Wr × Wr)) (x y : Wr) : Prop := (x, y) ∈ E ∨ (y, x) ∈ E
inductive Rch (E : List (Wr × Wr)) (D : List Wr) : Wr → Prop
  | base {x : Wr} : x ∈ D → Rch E D x
  | step {x y : Wr} : Rch E D x → Bes E x y → Rch E D y
theorem rch_of {E : List (Wr × Wr)} {D S : List Wr} (h1 : ∀ x ∈ D, x ∈ S) (h2 : ∀ x ∈ S, ∀ y, Bes E x y → y ∈ S) (h3 : ∀ x ∈ S, Rch E D x) (x : Wr) : x ∈ S ↔ Rch E D x := by
  refine ⟨h3 x, fun r => ?_⟩
  induction r with
  | base h => exact h1 _ h
  | step _ b ih => exact h2 _ ih _ b
theorem rch_same {E E' : List (Wr × Wr)} {D D' : List Wr} (he : ∀ p, p ∈ E ↔ p ∈ E') (hd : ∀ x, x ∈ D ↔ x ∈ D') (x : Wr) : Rch E D x ↔ Rch E' D' x := by
  constructor
  · intro r
    induction r with
    | base h => exact .base ((hd _).mp h)
    | step _ b ih => exact .step ih (b.imp (he _).mp (he _).mp)
  · intro r
    induction r with
    | base h => exact .base ((hd _).mpr h)
    | step _ b ih => exact .step ih (b.imp (he _).mpr (he _).mpr)
def nbr (nb : List (Wr × List Wr)) (k : Wr) : List Wr := ((nb.find? fun p => decide (p.1 = k)).map (·.2)).getD []
def addN (nb : List (Wr × List Wr)) (k x : Wr) : List (Wr × List Wr) :=
  if (nb.any fun p => decide (p.1 = k)) = true then nb.map (fun p => if p.1 = k then (p.1, p.2 ++ [x]) else p) else nb ++ [(k, [x])]
theorem nbr_cons {p : Wr × List Wr} {nb : List (Wr × List Wr)} {k : Wr} : nbr (p :: nb) k = if p.1 = k then p.2 else nbr nb k := by
  unfold nbr
  rw [List.find?_cons]
  by_cases h : p.1 = k <;> simp [h]
theorem nbr_miss {nb : List (Wr × List Wr)} {k : Wr} (h : (nb.any fun p => decide (p.1 = k)) = false) : nbr nb k = [] := by
  induction nb with
  | nil => rfl
  | cons p nb ih =>
    rw [List.any_cons, Bool.or_eq_false_iff] at h
    rw [nbr_cons, if_neg (by simpa using h.1)]
    exact ih h.2
theorem nbr_map {nb : List (Wr × List Wr)} {k x j : Wr} : nbr (nb.map fun p => if p.1 = k then (p.1, p.2 ++ [x]) else p) j = if j = k ∧ (nb.any fun p => decide (p.1 = k)) = true then nbr nb j ++ [x] else nbr nb j := by
  induction nb with
  | nil => simp [nbr]
  | cons p nb ih =>
    rw [List.map_cons, nbr_cons, nbr_cons, ih, List.any_cons]
    by_cases h1 : p.1 = k
    · subst h1
      by_cases h2 : p.1 = j
      · subst h2; simp
      · have : ¬ j = p.1 := fun z => h2 z.symm
        simp [h2, this]
    · rw [decide_eq_false h1, Bool.false_or]
      by_cases h2 : p.1 = j
      · subst h2; simp [h1]
      · simp [h1, h2]
theorem nbr_app {nb : List (Wr × List Wr)} {k x j : Wr} (h : (nb.any fun p => decide (p.1 = k)) = false) : nbr (nb ++ [(k, [x])]) j = if j = k then [x] else nbr nb j := by
  induction nb with
  | nil =>
    rw [List.nil_append, nbr_cons]
    by_cases e : k = j
    · subst e; simp
    · simp [e, Ne.symm e]
  | cons p nb ih =>
    rw [List.any_cons, Bool.or_eq_false_iff] at h
    rw [List.cons_append, nbr_cons, nbr_cons, ih h.2]
    have hp : ¬ p.1 = k := by simpa using h.1
    by_cases e : p.1 = j
    · subst e; simp [hp]
    · simp [e]
theorem nbr_add (nb : List (Wr × List Wr)) (k x j y : Wr) : y ∈ nbr (addN nb k x) j ↔ (y ∈ nbr nb j ∨ (j = k ∧ y = x)) := by
  unfold addN
  by_cases h : (nb.any fun p => decide (p.1 = k)) = true
  · rw [if_pos h, nbr_map]
    by_cases e : j = k
    · subst e; simp [h]
    · simp [e]
  · rw [if_neg h]
    have h : (nb.any fun p => decide (p.1 = k)) = false := Bool.not_eq_true _ ▸ h
    rw [nbr_app h]
    by_cases e : j = k
    · subst e; rw [nbr_miss h]; simp
    · simp [e]
def add2 (nb : List (Wr × List Wr)) (e : Wr × Wr) : List (Wr × List Wr) := addN (addN nb e.1 e.2) e.2 e.1
theorem nbr_build : ∀ (E : List (Wr × Wr)) (nb : List (Wr × List Wr)) (j y : Wr), y ∈ nbr (E.foldl add2 nb) j ↔ (y ∈ nbr nb j ∨ Bes E j y)
  | [], nb, j, y => by simp [Bes]
  | e :: E, nb, j, y => by
    rw [List.foldl_cons, nbr_build E, add2, nbr_add, nbr_add]
    unfold Bes
    simp only [List.mem_cons, Prod.ext_iff]
    constructor
    · rintro (((h | ⟨h1, h2⟩) | ⟨h1, h2⟩) | h | h)
      · exact .inl h
      · exact .inr (.inl (.inl ⟨h1, h2⟩))
      · exact .inr (.inr (.inl ⟨h2, h1⟩))
      · exact .inr (.inl (.inr h))
      · exact .inr (.inr (.inr h))
    · rintro (h | (⟨h1, h2⟩ | h) | (⟨h1, h2⟩ | h))
      · exact .inl (.inl (.inl h))
      · exact .inl (.inl (.inr ⟨h1, h2⟩))
      · exact .inr (.inl h)
      · exact .inl (.inr ⟨h2, h1⟩)
      · exact .inr (.inr h)
end L2
namespace L2
theorem nodup_le : ∀ {l m : List Wr}, l.Nodup → (∀ x ∈ l, x ∈ m) → l.length ≤ m.length
  | [], _, _, _ => Nat.zero_le _
  | x :: l, m, nd, h => by
    obtain ⟨n1, n2⟩ := List.nodup_cons.mp nd
    obtain ⟨a, b, rfl⟩ := List.append_of_mem (h x (by simp))
    have := nodup_le (l := l) (m := a ++ b) n2 fun y hy => by
      have ne : y ≠ x := fun z => n1 (by rw [← z]; exact hy)
      rcases List.mem_append.mp (h y (by simp [hy])) with z | z
      · exact List.mem_append_left _ z
      · rcases List.mem_cons.mp z with z | z
        · exact absurd z ne
        · exact List.mem_append_right _ z
    simp at this ⊢
    omega
def ends (E : List (Wr × Wr)) (D : List Wr) : List Wr := D ++ (E.map (·.1) ++ E.map (·.2))
theorem ends_len (E : List (Wr × Wr)) (D : List Wr) : (ends E D).length = D.length + 2 * E.length := by simp [ends]; omega
theorem rch_ends {E : List (Wr × Wr)} {D : List Wr} {x : Wr} (r : Rch E D x) : x ∈ ends E D := by
  cases r with
  | base h => exact List.mem_append_left _ h
  | step _ b =>
    refine List.mem_append_right _ ?_
    rcases b with b | b
    · exact List.mem_append_right _ (List.mem_map.mpr ⟨_, b, rfl⟩)
    · exact List.mem_append_left _ (List.mem_map.mpr ⟨_, b, rfl⟩)
theorem rch_few {E : List (Wr × Wr)} {D l : List Wr} (nd : l.Nodup) (h : ∀ x ∈ l, Rch E D x) : l.length ≤ D.length + 2 * E.length := by
  rw [← ends_len]
  exact nodup_le nd fun x hx => rch_ends (h x hx)
structure Seek (E : List (Wr × Wr)) (D found wait : List Wr) : Prop where
  nd : found.Nodup
  fr : ∀ x ∈ found, Rch E D x
  wr : ∀ x ∈ wait, Rch E D x
  dr : ∀ x ∈ D, x ∈ found ∨ x ∈ wait
  cl : ∀ x ∈ found, ∀ y, Bes E x y → y ∈ found ∨ y ∈ wait
theorem Seek.done {E : List (Wr × Wr)} {D found : List Wr} (s : Seek E D found []) (x : Wr) : x ∈ found ↔ Rch E D x :=
  rch_of (fun y hy => (s.dr y hy).elim id fun z => by simp at z) (fun y hy z b => (s.cl y hy z b).elim id fun q => by simp at q) s.fr x
theorem Seek.drop {E : List (Wr × Wr)} {D found wait wait' : List Wr} {x : Wr} (s : Seek E D found wait) (hx : x ∈ found) (h : ∀ y ∈ wait, y = x ∨ y ∈ wait') (h' : ∀ y ∈ wait', Rch E D y) : Seek E D found wait' :=
  ⟨s.nd, s.fr, h', fun y hy => (s.dr y hy).elim .inl fun z => (h y z).elim (fun e => .inl (e ▸ hx)) .inr, fun y hy z b => (s.cl y hy z b).elim .inl fun q => (h z q).elim (fun e => .inl (e ▸ hx)) .inr⟩
theorem Seek.find {E : List (Wr × Wr)} {D found wait wait' : List Wr} {x : Wr} (s : Seek E D found wait) (nx : x ∉ found) (hx : Rch E D x) (h : ∀ y ∈ wait, y = x ∨ y ∈ wait') (h' : ∀ y ∈ wait', Rch E D y) (hb : ∀ y, Bes E x y → y ∈ wait') : Seek E D (found ++ [x]) wait' := by
  refine ⟨?_, ?_, h', fun y hy => ?_, fun y hy z b => ?_⟩
  · rw [List.nodup_append]
    exact ⟨s.nd, by simp, fun a ha b hb e => nx ((e.trans (List.mem_singleton.mp hb)) ▸ ha)⟩
  · intro y hy
    rcases List.mem_append.mp hy with hy | hy
    · exact s.fr y hy
    · rw [List.mem_singleton.mp hy]; exact hx
  · rcases s.dr y hy with z | z
    · exact .inl (List.mem_append_left _ z)
    · rcases h y z with e | e
      · exact .inl (List.mem_append_right _ (by simp [e]))
      · exact .inr e
  · rcases List.mem_append.mp hy with hy | hy
    · rcases s.cl y hy z b with q | q
      · exact .inl (List.mem_append_left _ q)
      · rcases h z q with e | e
        · exact .inl (List.mem_append_right _ (by simp [e]))
        · exact .inr e
    · rw [List.mem_singleton.mp hy] at b
      exact .inr (hb z b)
end L2

set_option maxHeartbeats 4000000
namespace B17
open PySem L2
abbrev Vs (sc : Scope) (x : Str) : Prop := sc.names.lookup x = some NameKind.local ∨ sc.names.lookup x = some NameKind.cell ∨ sc.names.lookup x = some NameKind.free
abbrev Lc (sc : Scope) (x : Str) : Prop := sc.names.lookup x = some NameKind.local ∨ sc.names.lookup x = some NameKind.cell
abbrev Gi (sc : Scope) (x : Str) : Prop := sc.names.lookup x = some NameKind.globalImplicit
abbrev Nd (x : Str) : Prop := (x == ("__debug__" : Str)) = false
abbrev Nc (x : Str) : Prop := (x == ("__classdict__" : Str)) = false
local macro_rules | `(tactic| walk_at "few") => `(tactic| (with_reducible show (List.length (α := Str × V) _) < 1000); first | exact (by decide : 0 < 1000) | exact (by decide : 1 < 1000) | exact (by decide : 2 < 1000) | exact (by decide : 3 < 1000) | exact (by decide : 4 < 1000) | exact (by decide : 5 < 1000) | exact (by decide : 6 < 1000))
local macro_rules | `(tactic| walk_at "get") => `(tactic| first
  | with_reducible assumption
  | exact upd_same
  | (apply g_new; (focus with_reducible assumption); (focus walk_at "get"))
  | (apply g_put; (focus walk_at "ne"); (focus walk_at "get"))
  | (apply Ch.get; (focus with_reducible assumption); (focus walk_at "get"); (focus walk_at "notin")))
local macro_rules | `(tactic| walk_at "ne") => `(tactic| first | with_reducible assumption | (apply Ne.symm; with_reducible assumption) | (apply ne_of; (focus with_reducible assumption); (focus with_reducible assumption); (focus (intro z; cases z))))
local macro_rules | `(tactic| walk_at "notin") => `(tactic| first | exact List.not_mem_nil | (simp only [List.mem_cons, List.not_mem_nil, or_false, not_or, not_false_eq_true]; first | walk_at "ne" | trivial))
local macro_rules | `(tactic| walk_at "scr") => `(tactic| first
  | with_reducible assumption
  | (apply Scr.ch; (focus with_reducible assumption); (focus with_reducible assumption); (focus walk_at "ch"))
  | (apply Scr.same; (focus with_reducible assumption); (focus walk_at "ch")))
local macro_rules | `(tactic| walk_at "ch") => `(tactic| first
  | with_reducible assumption
  | exact Ch.refl _ _
  | exact Ch.put
  | (apply Ch.new; with_reducible assumption)
  | (apply Ch.wk; with_reducible assumption)
  | (apply Ch.own; (focus with_reducible assumption); (focus walk_at "ch"))
  | (apply Ch.trans; (rotate_left; focus with_reducible assumption); (focus walk_at "ch"))
  | (apply Ch.trans; (rotate_left; focus (apply Ch.wk; with_reducible assumption)); (focus walk_at "ch"))
  | (apply Ch.trans; (rotate_left; focus exact Ch.put); (focus walk_at "ch"))
  | (apply Ch.trans; (rotate_left; focus (apply Ch.new; with_reducible assumption)); (focus walk_at "ch")))
local macro_rules | `(tactic| walk_at "sq") => `(tactic| first
  | (apply Scr.sq; walk_at "scr")
  | (apply Exists.intro; walk_at "sq")
  | (refine (‹∀ H : Hp, SqT _ H _ _›) _)
  | (apply SqL.of; walk_at "get")
  | (apply SqT.of; walk_at "get")
  | (apply Or.inl; apply Scr.sq; walk_at "scr")
  | (apply Or.inl; apply SqL.of; walk_at "get")
  | (apply Or.inr; apply SqT.of; walk_at "get"))
local macro_rules | `(tactic| walk_at "arith") => `(tactic| first
  | omega
  | (simp only [List.length_map, List.length_cons, List.length_nil, List.length_append, List.length_singleton, List.length_replicate]; done)
  | ((try dsimp only); (try simp only [List.length_map, List.length_cons, List.length_nil, List.length_append, List.length_singleton, List.length_replicate, sizeLine_eq]); omega)
  | ((try dsimp only); (try simp only [List.length_map, List.length_cons, List.length_nil, List.length_append, List.length_singleton, List.length_replicate, sizeLine_eq] at *); omega))
local macro_rules | `(tactic| walk_at "cond") => `(tactic| first
  | (refine Or.inl (And.intro ?_ ?_) <;> walk_at "arith")
  | (refine Or.inr (And.intro ?_ ?_) <;> walk_at "arith")
  | (refine And.intro ?_ (And.intro ?_ ?_) <;> walk_at "arith")
  | (refine And.intro ?_ ?_ <;> walk_at "arith"))
local macro_rules | `(tactic| walk_at "len") => `(tactic| first
  | with_reducible assumption
  | exact len_one
  | (apply len_slice; walk_at "len")
  | (apply len_app; (focus walk_at "len"); (focus walk_at "len"))
  | exact Nat.le_refl _)
local macro_rules | `(tactic| walk_at "lens") => `(tactic| first
  | (apply len_sum; (focus walk_at "len"); (focus walk_at "len"); (focus first | decide +kernel | walk_at "arith"))
  | (apply len_top; (focus walk_at "len"); (focus first | decide +kernel | walk_at "arith")))
local macro_rules | `(tactic| walk_at "side") => `(tactic| first
  | with_reducible rfl | with_reducible assumption | walk_at "sq" | walk_at "get" | walk_at "scr" | walk_at "ch" | walk_at "ty" | exact TyOf.int _ | exact TyOf.str _ | (apply TyOf.tup; walk_at "get") | (apply TyOf.lst; walk_at "get") | exact TyOf.bl _ | exact TyOf.non | walk_at "few" | decide | omega | walk_at "arith" | walk_at "cond" | ((try simp only [List.length_map]); with_reducible assumption) | walk_at "lens" | (apply Or.inr; with_reducible assumption) | walk_at "user" | exact rfl | assumption)
local macro_rules | `(tactic| walk_at "ty") => `(tactic| (refine Or.inl (And.intro rfl ?_); apply Exists.intro; walk_at "sq"))
local macro_rules | `(tactic| walk_at "user") => `(tactic| fail)
local macro_rules | `(tactic| walk_at "rd1") => `(tactic| first
  | apply Exists.intro
  | (refine And.intro rfl ?_)
  | (refine And.intro (show V.str _ = L2.kV (Sum.inr _) from rfl) ?_)
  | (refine And.intro (show V.int _ = L2.kV (Sum.inl _) from rfl) ?_)
  | (refine And.intro (L2.cut1_not _ _) ?_)
  | (apply And.intro; (focus (walk_at "side"; done)))
  | apply Atx.head
  | (apply Atx.of; (focus first | exact rfl | with_reducible assumption | ((try simp only [List.length_map]); with_reducible assumption)))
  | (apply Or.inl; apply Exists.intro; (refine And.intro rfl ?_))
  | (apply Or.inr; apply Exists.intro; (refine And.intro rfl ?_))
  | (apply Or.inl; apply And.intro; (focus walk_at "sq"))
  | (apply Or.inr; apply And.intro; (focus walk_at "sq"))
  | (intro _)
  | walk_at "fin")
local macro_rules | `(tactic| walk_at "fin") => `(tactic| first | exact rfl | (walk_at "get"; done))
local macro_rules | `(tactic| walk_at "rd") => `(tactic| repeat walk_at "rd1")
def top (i : Nat) : Stmt := PySem.Challenge.pw_bitfloor_k54_wires_of_a_way.main.body.getD i (.Pass ⟨0, 0, 0, 0⟩)
def SqX (k : SK) (H : Hp) (a : Addr) (xs : List V) : Prop := match k with
  | .list => H a = some (.lst xs)
  | .tuple => H a = some (.tup xs)
def bi : Bool → Int
  | true => 1
  | false => 0
def bV (b : Bool) : V := .int (bi b)
def nV (a : Nat) : V := .int (a : Int)
theorem chFree {H H' : Hp} (c : Ch [] H H') {r : Addr} (h : H' r = none) : H r = none := by
  cases e : H r with
  | none => rfl
  | some o => rw [c r o e (by simp)] at h; cases h
inductive Th (H : Hp) : V → Prop
  | int (i : Int) : Th H (.int i)
  | non : Th H .non
  | bl (b : Bool) : Th H (.bl b)
  | str (x : Str) : Th H (.str x)
  | lst (a : Addr) (xs : List V) (h : H a = some (.lst xs)) : Th H (.ref a)
def isI : V → Bool
  | .int _ => true
  | _ => false
def belB (v : V) (b : Int) : Bool := match v with
  | .int i => decide (0 ≤ i) && decide (i < b)
  | _ => false
def okB (v : V) : Prop := belB v 2 = true
section
variable {P : Program} {w : World} {K : PySem.W.Frag} {mg : Str → Option Value} {base : Heap} {f : Addr} {fd : FuncData} {k : Nat}
theorem bo_isinstance : bootBuiltins "isinstance" = some (.builtin "isinstance") := by decide +kernel
theorem bo_bool : bootBuiltins "bool" = some (.type "bool") := by decide +kernel
theorem nn_bool : ("bool" : Str) ≠ "__name__" := by decide +kernel
theorem gd_bool : Nd "bool" := by decide +kernel
theorem nn_isinstance : ("isinstance" : Str) ≠ "__name__" := by decide +kernel
theorem gd_isinstance : Nd "isinstance" := by decide +kernel
theorem bo_int : bootBuiltins "int" = some (.type "int") := by decide +kernel
theorem nn_int : ("int" : Str) ≠ "__name__" := by decide +kernel
theorem gd_int : Nd "int" := by decide +kernel
theorem gd_is_whole : Nd "is_whole" := by decide +kernel
theorem bo_tuple : bootBuiltins "tuple" = some (.type "tuple") := by decide +kernel
theorem nn_tuple : ("tuple" : Str) ≠ "__name__" := by decide +kernel
theorem gd_tuple : Nd "tuple" := by decide +kernel
theorem bo_list : bootBuiltins "list" = some (.type "list") := by decide +kernel
theorem nn_list : ("list" : Str) ≠ "__name__" := by decide +kernel
theorem gd_list : Nd "list" := by decide +kernel
theorem nn_len : ("len" : Str) ≠ "__name__" := by decide +kernel
theorem gd_len : Nd "len" := by decide +kernel
theorem gd_is_listed : Nd "is_listed" := by decide +kernel
theorem gd_is_below : Nd "is_below" := by decide +kernel
theorem gd_is_pair : Nd "is_pair" := by decide +kernel
theorem gd_is_box : Nd "is_box" := by decide +kernel
theorem gd_side_wire : Nd "side_wire" := by decide +kernel
theorem g5_isinstance : Gi (defScope (top 5)) "isinstance" := by decide +kernel
theorem v5_0 : Vs (defScope (top 5)) "thing" := by decide +kernel
theorem d5_0 : Nd "thing" := by decide +kernel
theorem c5_0 : Nc "thing" := by decide +kernel
theorem g5_bool : Gi (defScope (top 5)) "bool" := by decide +kernel
theorem g5_int : Gi (defScope (top 5)) "int" := by decide +kernel
def spWhole : Sp := fun vs H Q _ => ∃ i : Int, vs = [.int i] ∧ Q (.bl true) H
theorem scWhole : FnScope ["thing"] ["thing"] (defScope (top 5)) := ⟨rfl, rfl, rfl, by decide +kernel, rfl, by decide +kernel, by decide +kernel⟩
theorem ok_whole (F : Fun K "is_whole" "is_whole" (top 5) f fd) (z_isinstance : mg "isinstance" = none) (z_int : mg "int" = none) (z_bool : mg "bool" = none) : FnOk P w K mg base CX0 (k + 1) f fd ["thing"] spWhole := by
  have nd := scWhole.nd
  refine F.ok scWhole (fun vs H Q E h => by obtain ⟨i, rfl, _⟩ := h; rfl) (fun cdv A outer s H vs Q E hr h => ?_)
  obtain ⟨i, rfl, q⟩ := h
  refine ⟨_, (Pr.h (qpss_one (qps_ret (qpe_and (qpe_callB call_isT g5_isinstance z_isinstance bo_isinstance (qpa_cons (qpe_var (i := 0) rfl v5_0 d5_0 c5_0) (qpa_cons (qpe_bltn (v := .ty "int") g5_int z_int bo_int rfl nn_int gd_int) qpa_nil)) nn_isinstance gd_isinstance) (qpe_one (qpe_not (qpe_callB call_isT g5_isinstance z_isinstance bo_isinstance (qpa_cons (qpe_var (i := 0) rfl v5_0 d5_0 c5_0) (qpa_cons (qpe_bltn (v := .ty "bool") g5_bool z_bool bo_bool rfl nn_bool gd_bool) qpa_nil)) nn_isinstance gd_isinstance))))))), ?_⟩
  (try dsimp only [cxOf])
  walk_at "rd"
  exact q
theorem v6_0 : Vs (defScope (top 6)) "thing" := by decide +kernel
theorem d6_0 : Nd "thing" := by decide +kernel
theorem c6_0 : Nc "thing" := by decide +kernel
theorem v6_1 : Vs (defScope (top 6)) "bound" := by decide +kernel
theorem d6_1 : Nd "bound" := by decide +kernel
theorem c6_1 : Nc "bound" := by decide +kernel
theorem g6_is_whole : Gi (defScope (top 6)) "is_whole" := by decide +kernel
def spBelow : Sp := fun vs H Q _ => ∃ i b : Int, vs = [.int i, .int b] ∧ 0 ≤ i ∧ i < b ∧ Q (.bl true) H
theorem scBelow : FnScope ["thing", "bound"] ["thing", "bound"] (defScope (top 6)) := ⟨rfl, rfl, rfl, by decide +kernel, rfl, by decide +kernel, by decide +kernel⟩
theorem ok_below (F : Fun K "is_below" "is_below" (top 6) f fd) (Dis_whole : DefOk P w K mg base CX0 k "is_whole" ["thing"] spWhole) : FnOk P w K mg base CX0 (k + 1) f fd ["thing", "bound"] spBelow := by
  have nd := scBelow.nd
  refine F.ok scBelow (fun vs H Q E h => by obtain ⟨i, b, rfl, _⟩ := h; rfl) (fun cdv A outer s H vs Q E hr h => ?_)
  obtain ⟨i, b, rfl, h0, h1, q⟩ := h
  refine ⟨_, (Pr.h (qpss_one (qps_ret (qpe_and (qpe_callD Dis_whole hr g6_is_whole pass0 (qpa_cons (qpe_var (i := 0) rfl v6_0 d6_0 c6_0) qpa_nil se_Name) gd_is_whole) (qpe_one (qpe_chain op_le op_lt qpe_int (qpe_var (i := 0) rfl v6_0 d6_0 c6_0) (qpe_var (i := 1) rfl v6_1 d6_1 c6_1))))))), ?_⟩
  (try dsimp only [cxOf])
  walk_at "rd"
  refine iteD h0 ?_
  walk_at "rd"
  show Q (.bl (decide (i < b))) H
  rw [decide_eq_true h1]
  exact q
theorem g7_tuple : Gi (defScope (top 7)) "tuple" := by decide +kernel
theorem g7_list : Gi (defScope (top 7)) "list" := by decide +kernel
theorem g7_isinstance : Gi (defScope (top 7)) "isinstance" := by decide +kernel
theorem v7_0 : Vs (defScope (top 7)) "thing" := by decide +kernel
theorem d7_0 : Nd "thing" := by decide +kernel
theorem c7_0 : Nc "thing" := by decide +kernel
def spListed : Sp := fun vs H Q _ => ∃ (kd : SK) (a : Addr) (xs : List V), vs = [.ref a] ∧ SqX kd H a xs ∧ ∀ H', Ch [] H H' → Q (.bl true) H'
theorem scListed : FnScope ["thing"] ["thing"] (defScope (top 7)) := ⟨rfl, rfl, rfl, by decide +kernel, rfl, by decide +kernel, by decide +kernel⟩
theorem ok_listed (F : Fun K "is_listed" "is_listed" (top 7) f fd) (z_isinstance : mg "isinstance" = none) (z_list : mg "list" = none) (z_tuple : mg "tuple" = none) : FnOk P w K mg base CX0 (k + 1) f fd ["thing"] spListed := by
  have nd := scListed.nd
  refine F.ok scListed (fun vs H Q E h => by obtain ⟨kd, a, xs, rfl, _⟩ := h; rfl) (fun cdv A outer s H vs Q E hr h => ?_)
  obtain ⟨kd, a, xs, rfl, hx, q⟩ := h
  refine ⟨_, (Pr.h (qpss_one (qps_ret (qpe_callB call_isT2 g7_isinstance z_isinstance bo_isinstance (qpa_cons (qpe_var (i := 0) rfl v7_0 d7_0 c7_0) (qpa_cons (qpe_tup (qpa_cons (qpe_bltn (v := .ty "list") g7_list z_list bo_list rfl nn_list gd_list) (qpa_cons (qpe_bltn (v := .ty "tuple") g7_tuple z_tuple bo_tuple rfl nn_tuple gd_tuple) qpa_nil se_Name) se_Name)) qpa_nil)) nn_isinstance gd_isinstance)))), ?_⟩
  (try dsimp only [cxOf])
  cases kd with
  | list =>
    have hx : H a = some (.lst xs) := hx
    walk_at "rd"
    exact q _ (Ch.new (by assumption) _)
  | tuple =>
    have hx : H a = some (.tup xs) := hx
    walk_at "rd"
    exact q _ (Ch.new (by assumption) _)
theorem g8_len : Gi (defScope (top 8)) "len" := by decide +kernel
theorem v8_0 : Vs (defScope (top 8)) "thing" := by decide +kernel
theorem d8_0 : Nd "thing" := by decide +kernel
theorem c8_0 : Nc "thing" := by decide +kernel
theorem g8_is_listed : Gi (defScope (top 8)) "is_listed" := by decide +kernel
def spPair : Sp := fun vs H Q _ => ∃ (a : Addr) (x y : V), vs = [.ref a] ∧ H a = some (.tup [x, y]) ∧ ∀ H', Ch [] H H' → Q (.bl true) H'
theorem scPair : FnScope ["thing"] ["thing"] (defScope (top 8)) := ⟨rfl, rfl, rfl, by decide +kernel, rfl, by decide +kernel, by decide +kernel⟩
theorem ok_pair (F : Fun K "is_pair" "is_pair" (top 8) f fd) (Dis_listed : DefOk P w K mg base CX0 k "is_listed" ["thing"] spListed) (z_len : mg "len" = none) : FnOk P w K mg base CX0 (k + 1) f fd ["thing"] spPair := by
  have nd := scPair.nd
  refine F.ok scPair (fun vs H Q E h => by obtain ⟨a, x, y, rfl, _⟩ := h; rfl) (fun cdv A outer s H vs Q E hr h => ?_)
  obtain ⟨a, x, y, rfl, hx, q⟩ := h
  refine ⟨_, (Pr.h (qpss_one (qps_ret (qpe_and (qpe_callD Dis_listed hr g8_is_listed pass0 (qpa_cons (qpe_var (i := 0) rfl v8_0 d8_0 c8_0) qpa_nil se_Name) gd_is_listed) (qpe_one (qpe_cmpR op_eq (qpe_callB call_len_seq g8_len z_len PySem.boot_len (qpa_cons (qpe_var (i := 0) rfl v8_0 d8_0 c8_0) qpa_nil se_Name) nn_len gd_len) qpe_int (nomark _))))))), ?_⟩
  (try dsimp only [cxOf])
  refine ⟨_, rfl, .tuple, a, [x, y], rfl, hx, fun H1 c1 => ?_⟩
  have hx1 : H1 a = some (.tup [x, y]) := c1.get hx (by simp)
  walk_at "rd"
  exact q _ c1
def fldsF (r c t : Int) : List (Str × V) := [("rows", .int r), ("columns", .int c), ("tracks", .int t)]
theorem fldsF_rows (r c t : Int) : List.lookup (Str.ofString "rows") (fldsF r c t) = some (.int r) := rfl
theorem fldsF_columns (r c t : Int) : List.lookup (Str.ofString "columns") (fldsF r c t) = some (.int c) := rfl
theorem fldsF_tracks (r c t : Int) : List.lookup (Str.ofString "tracks") (fldsF r c t) = some (.int t) := rfl
theorem g11_is_below : Gi (defScope (top 11)) "is_below" := by decide +kernel
theorem v11_0 : Vs (defScope (top 11)) "floor" := by decide +kernel
theorem d11_0 : Nd "floor" := by decide +kernel
theorem c11_0 : Nc "floor" := by decide +kernel
theorem v11_1 : Vs (defScope (top 11)) "thing" := by decide +kernel
theorem d11_1 : Nd "thing" := by decide +kernel
theorem c11_1 : Nc "thing" := by decide +kernel
theorem g11_is_pair : Gi (defScope (top 11)) "is_pair" := by decide +kernel
def spBox (C : Addr) : Sp := fun vs H Q _ => ∃ (fl dx bx : Addr) (r c t x y : Int), vs = [.ref fl, .ref bx] ∧ H fl = some (.ins C dx (fldsF r c t)) ∧ H bx = some (.tup [.int x, .int y]) ∧ 0 ≤ x ∧ x < r ∧ 0 ≤ y ∧ y < c ∧ ∀ H', Ch [] H H' → Q (.bl true) H'
theorem scBox : FnScope ["floor", "thing"] ["floor", "thing"] (defScope (top 11)) := ⟨rfl, rfl, rfl, by decide +kernel, rfl, by decide +kernel, by decide +kernel⟩
theorem ok_box {C : Addr} (F : Fun K "is_box" "is_box" (top 11) f fd) (cl : Cls K C) (nR : NoAttr K C "rows") (nC : NoAttr K C "columns") (Dis_pair : DefOk P w K mg base CX0 k "is_pair" ["thing"] spPair) (Dis_below : DefOk P w K mg base CX0 k "is_below" ["thing", "bound"] spBelow) :
    FnOk P w K mg base CX0 (k + 1) f fd ["floor", "thing"] (spBox C) := by
  have nd := scBox.nd
  refine F.ok scBox (fun vs H Q E h => by obtain ⟨fl, dx, bx, r, c, t, x, y, rfl, _⟩ := h; rfl) (fun cdv A outer s H vs Q E hr h => ?_)
  obtain ⟨fl, dx, bx, r, c, t, x, y, rfl, hf, hb, x0, x1, y0, y1, q⟩ := h
  refine ⟨_, (Pr.h (qpss_one (qps_ret (qpe_and (qpe_callD Dis_pair hr g11_is_pair pass0 (qpa_cons (qpe_var (i := 1) rfl v11_1 d11_1 c11_1) qpa_nil se_Name) gd_is_pair) (qpe_and (qpe_callD Dis_below hr g11_is_below pass0 (qpa_cons (qpe_ix ixa_tup (qpe_var (i := 1) rfl v11_1 d11_1 c11_1) qpe_int (fun _ _ => rfl)) (qpa_cons (qpe_fld (qpe_var (i := 0) rfl v11_0 d11_0 c11_0) rfl) qpa_nil se_Attribute) se_Subscript) gd_is_below) (qpe_one (qpe_callD Dis_below hr g11_is_below pass0 (qpa_cons (qpe_ix ixa_tup (qpe_var (i := 1) rfl v11_1 d11_1 c11_1) qpe_int (fun _ _ => rfl)) (qpa_cons (qpe_fld (qpe_var (i := 0) rfl v11_0 d11_0 c11_0) rfl) qpa_nil se_Attribute) se_Subscript) gd_is_below))))))), ?_⟩
  (try dsimp only [cxOf])
  have fr := fldsF_rows r c t
  have fc := fldsF_columns r c t
  walk_at "rd"
  exact q _ (by assumption)
theorem g12_is_below : Gi (defScope (top 12)) "is_below" := by decide +kernel
theorem v12_0 : Vs (defScope (top 12)) "floor" := by decide +kernel
theorem d12_0 : Nd "floor" := by decide +kernel
theorem c12_0 : Nc "floor" := by decide +kernel
theorem v12_3 : Vs (defScope (top 12)) "track" := by decide +kernel
theorem d12_3 : Nd "track" := by decide +kernel
theorem c12_3 : Nc "track" := by decide +kernel
theorem v12_2 : Vs (defScope (top 12)) "side" := by decide +kernel
theorem d12_2 : Nd "side" := by decide +kernel
theorem c12_2 : Nc "side" := by decide +kernel
theorem g12_is_box : Gi (defScope (top 12)) "is_box" := by decide +kernel
theorem v12_1 : Vs (defScope (top 12)) "box" := by decide +kernel
theorem d12_1 : Nd "box" := by decide +kernel
theorem c12_1 : Nc "box" := by decide +kernel
def wireV (w : Bool × Int × Int × Int) : List V := [.str (if w.1 then "h" else "v"), .int w.2.1, .int w.2.2.1, .int w.2.2.2]
def wK (w : Bool × Int × Int × Int) : List Key := [.inr (if w.1 then "h" else "v"), .inl w.2.1, .inl w.2.2.1, .inl w.2.2.2]
def sideW (x y sd t : Int) : Bool × Int × Int × Int := if sd = 0 then (true, x, y - 1, t) else if sd = 1 then (true, x, y, t) else if sd = 2 then (false, x - 1, y, t) else (false, x, y, t)
def spSide (C : Addr) : Sp := fun vs H Q _ => ∃ (fl dx bx : Addr) (r c t x y sd tr : Int), vs = [.ref fl, .ref bx, .int sd, .int tr] ∧ H fl = some (.ins C dx (fldsF r c t)) ∧ H bx = some (.tup [.int x, .int y]) ∧ 0 ≤ x ∧ x < r ∧ 0 ≤ y ∧ y < c ∧ 0 ≤ sd ∧ sd < 4 ∧ 0 ≤ tr ∧ tr < t ∧
  ∀ p H', Ch [] H H' → H p = none → H' p = some (.tup (wireV (sideW x y sd tr))) → Q (.ref p) H'
theorem scSide : FnScope ["floor", "box", "side", "track"] ["floor", "box", "side", "track"] (defScope (top 12)) := ⟨rfl, rfl, rfl, by decide +kernel, rfl, by decide +kernel, by decide +kernel⟩
theorem ok_side {C : Addr} (F : Fun K "side_wire" "side_wire" (top 12) f fd) (cl : Cls K C) (nT : NoAttr K C "tracks") (Dis_box : DefOk P w K mg base CX0 k "is_box" ["floor", "thing"] (spBox C)) (Dis_below : DefOk P w K mg base CX0 k "is_below" ["thing", "bound"] spBelow) :
    FnOk P w K mg base CX0 (k + 1) f fd ["floor", "box", "side", "track"] (spSide C) := by
  have nd := scSide.nd
  refine F.ok scSide (fun vs H Q E h => by obtain ⟨fl, dx, bx, r, c, t, x, y, sd, tr, rfl, _⟩ := h; rfl) (fun cdv A outer s H vs Q E hr h => ?_)
  obtain ⟨fl, dx, bx, r, c, t, x, y, sd, tr, rfl, hf, hb, x0, x1, y0, y1, s0, s1, t0, t1, q⟩ := h
  refine ⟨_, (Pr.h (qpss_cons (qps_if (qPW_pt (qpw_or (qpt_not (qpt_val (qpe_callD Dis_box hr g12_is_box pass0 (qpa_cons (qpe_var (i := 0) rfl v12_0 d12_0 c12_0) (qpa_cons (qpe_var (i := 1) rfl v12_1 d12_1 c12_1) qpa_nil se_Name) se_Name) gd_is_box))) (qpw_or (qpt_not (qpt_val (qpe_callD Dis_below hr g12_is_below pass0 (qpa_cons (qpe_var (i := 2) rfl v12_2 d12_2 c12_2) (qpa_cons qpe_int qpa_nil se_Constant) se_Name) gd_is_below))) (qpw_or1 (qpt_not (qpt_val (qpe_callD Dis_below hr g12_is_below pass0 (qpa_cons (qpe_var (i := 3) rfl v12_3 d12_3 c12_3) (qpa_cons (qpe_fld (qpe_var (i := 0) rfl v12_0 d12_0 c12_0) rfl) qpa_nil se_Attribute) se_Name) gd_is_below)))))))
  (qpss_one qps_never)
  qpss_nil)
 (qpss_cons (qps_if (qpt_cmpR op_eq (qpe_var (i := 2) rfl v12_2 d12_2 c12_2) qpe_int (nomark _))
  (qpss_one (qps_ret (qpe_tup (qpa_cons qpe_str (qpa_cons (qpe_ix ixa_tup (qpe_var (i := 1) rfl v12_1 d12_1 c12_1) qpe_int (fun _ _ => rfl)) (qpa_cons (qpe_op op_sub (qpe_ix ixa_tup (qpe_var (i := 1) rfl v12_1 d12_1 c12_1) qpe_int (fun _ _ => rfl)) qpe_int) (qpa_cons (qpe_var (i := 3) rfl v12_3 d12_3 c12_3) qpa_nil se_Name) se_BinOp) se_Subscript) se_Constant))))
  qpss_nil)
 (qpss_cons (qps_if (qpt_cmpR op_eq (qpe_var (i := 2) rfl v12_2 d12_2 c12_2) qpe_int (nomark _))
  (qpss_one (qps_ret (qpe_tup (qpa_cons qpe_str (qpa_cons (qpe_ix ixa_tup (qpe_var (i := 1) rfl v12_1 d12_1 c12_1) qpe_int (fun _ _ => rfl)) (qpa_cons (qpe_ix ixa_tup (qpe_var (i := 1) rfl v12_1 d12_1 c12_1) qpe_int (fun _ _ => rfl)) (qpa_cons (qpe_var (i := 3) rfl v12_3 d12_3 c12_3) qpa_nil se_Name) se_Subscript) se_Subscript) se_Constant))))
  qpss_nil)
 (qpss_cons (qps_if (qpt_cmpR op_eq (qpe_var (i := 2) rfl v12_2 d12_2 c12_2) qpe_int (nomark _))
  (qpss_one (qps_ret (qpe_tup (qpa_cons qpe_str (qpa_cons (qpe_op op_sub (qpe_ix ixa_tup (qpe_var (i := 1) rfl v12_1 d12_1 c12_1) qpe_int (fun _ _ => rfl)) qpe_int) (qpa_cons (qpe_ix ixa_tup (qpe_var (i := 1) rfl v12_1 d12_1 c12_1) qpe_int (fun _ _ => rfl)) (qpa_cons (qpe_var (i := 3) rfl v12_3 d12_3 c12_3) qpa_nil se_Name) se_Subscript) se_BinOp) se_Constant))))
  qpss_nil)
 (qpss_one (qps_ret (qpe_tup (qpa_cons qpe_str (qpa_cons (qpe_ix ixa_tup (qpe_var (i := 1) rfl v12_1 d12_1 c12_1) qpe_int (fun _ _ => rfl)) (qpa_cons (qpe_ix ixa_tup (qpe_var (i := 1) rfl v12_1 d12_1 c12_1) qpe_int (fun _ _ => rfl)) (qpa_cons (qpe_var (i := 3) rfl v12_3 d12_3 c12_3) qpa_nil se_Name) se_Subscript) se_Subscript) se_Constant))))))))), ?_⟩
  (try dsimp only [cxOf])
  have ft := fldsF_tracks r c t
  have : sd = 0 ∨ sd = 1 ∨ sd = 2 ∨ sd = 3 := by omega
  rcases this with rfl | rfl | rfl | rfl
  all_goals
    walk_at "rd"
    rename_i H1 c1 p hp
    exact q p _ (c1.trans (Ch.new hp _)) (chFree c1 hp) upd_same
theorem v14_1 : Vs (defScope (top 14)) "join" := by decide +kernel
theorem d14_1 : Nd "join" := by decide +kernel
theorem c14_1 : Nc "join" := by decide +kernel
def csc14_0 : Scope := { kind := PySem.ScopeKind.function, names := [ (PySem.Str.ofString ".0", PySem.NameKind.local), (PySem.Str.ofString "side", PySem.NameKind.local), (PySem.Str.ofString "side_wire", PySem.NameKind.globalImplicit), (PySem.Str.ofString "floor", PySem.NameKind.free), (PySem.Str.ofString "join", PySem.NameKind.free)], isGenerator := false, isCoroutine := false, more := [] : PySem.Scope }
theorem cok14_0 : CompOk csc14_0 (defScope (top 14)) (["side"] : List Str) (["floor", "join"] : List Str) [0, 1] (["side", "floor", "join"] : List Str) := compOk rfl (by decide +kernel) (by decide +kernel) (by decide +kernel) (by decide +kernel) rfl (by decide +kernel)
theorem kq14_0_0 : (relab csc14_0 (defScope (top 14))).names.lookup (Str.ofString "side") = some NameKind.local := by decide +kernel
theorem gq14_0_side_wire : Gi (relab csc14_0 (defScope (top 14))) "side_wire" := by decide +kernel
theorem vq14_0_2 : Vs (relab csc14_0 (defScope (top 14))) "join" := by decide +kernel
theorem dq14_0_2 : Nd "join" := by decide +kernel
theorem cq14_0_2 : Nc "join" := by decide +kernel
theorem vq14_0_0 : Vs (relab csc14_0 (defScope (top 14))) "side" := by decide +kernel
theorem dq14_0_0 : Nd "side" := by decide +kernel
theorem cq14_0_0 : Nc "side" := by decide +kernel
theorem vq14_0_1 : Vs (relab csc14_0 (defScope (top 14))) "floor" := by decide +kernel
theorem dq14_0_1 : Nd "floor" := by decide +kernel
theorem cq14_0_1 : Nc "floor" := by decide +kernel
def spJoinW (C : Addr) : Sp := fun vs H Q _ => ∃ (fl dx jn bx : Addr) (r c t x y s1 s2 tr : Int), vs = [.ref fl, .ref jn] ∧ H fl = some (.ins C dx (fldsF r c t)) ∧ H jn = some (.tup [.ref bx, .int s1, .int s2, .int tr]) ∧ H bx = some (.tup [.int x, .int y]) ∧ 0 ≤ x ∧ x < r ∧ 0 ≤ y ∧ y < c ∧ 0 ≤ s1 ∧ s1 < 4 ∧ 0 ≤ s2 ∧ s2 < 4 ∧ 0 ≤ tr ∧ tr < t ∧
  ∀ p p1 p2 H', Ch [] H H' → H p = none → H p1 = none → H p2 = none → H' p = some (.lst [.ref p1, .ref p2]) → H' p1 = some (.tup ((wK (sideW x y s1 tr)).map kV)) → H' p2 = some (.tup ((wK (sideW x y s2 tr)).map kV)) → Q (.ref p) H'
theorem scJoinW : FnScope ["floor", "join"] ["floor", "join"] (defScope (top 14)) := ⟨rfl, rfl, rfl, by decide +kernel, rfl, by decide +kernel, by decide +kernel⟩
theorem ok_joinW {C : Addr} (F : Fun K "join_wires" "join_wires" (top 14) f fd) (Dside_wire : DefOk P w K mg base CX0 k "side_wire" ["floor", "box", "side", "track"] (spSide C)) :
    FnOk P w K mg base CX0 (k + 1) f fd ["floor", "join"] (spJoinW C) := by
  have nd := scJoinW.nd
  refine F.ok scJoinW (fun vs H Q E h => by obtain ⟨fl, dx, jn, bx, r, c, t, x, y, s1, s2, tr, rfl, _⟩ := h; rfl) (fun cdv A outer s H vs Q E hr h => ?_)
  obtain ⟨fl, dx, jn, bx, r, c, t, x, y, s1, s2, tr, rfl, hf, hj, hb, x0, x1, y0, y1, a0, a1, b0, b1, t0, t1, q⟩ := h
  refine ⟨_, (Pr.h (qpss_one (qps_ret (qpe_comp rfl cok14_0 (qpi_tup (qpe_tup (qpa_cons (qpe_ix ixa_tup (qpe_var (i := 1) rfl v14_1 d14_1 c14_1) qpe_int (fun _ _ => rfl)) (qpa_cons (qpe_ix ixa_tup (qpe_var (i := 1) rfl v14_1 d14_1 c14_1) qpe_int (fun _ _ => rfl)) qpa_nil se_Subscript) se_Subscript))) (fun _ _ _ _ _ => (qpg_name (i := 0) cok14_0.nd rfl (Or.inl kq14_0_0) (Or.inr kq14_0_0))) (fun _ _ _ _ _ => qpif_nil) (fun _ _ _ _ _ => (qpe_callD Dside_wire hr gq14_0_side_wire pass0 (qpa_cons (qpe_var (i := 1) rfl vq14_0_1 dq14_0_1 cq14_0_1) (qpa_cons (qpe_ix (ixaK_tup K rfl) (qpe_var (i := 2) rfl vq14_0_2 dq14_0_2 cq14_0_2) qpe_int (fun _ _ => rfl)) (qpa_cons (qpe_var (i := 0) rfl vq14_0_0 dq14_0_0 cq14_0_0) (qpa_cons (qpe_ix (ixaK_tup K rfl) (qpe_var (i := 2) rfl vq14_0_2 dq14_0_2 cq14_0_2) qpe_int (fun _ _ => rfl)) qpa_nil se_Subscript) se_Name) se_Subscript) se_Name) gd_side_wire)))))), ?_⟩
  (try dsimp only [cxOf])
  walk_at "rd"
  rename_i T hT
  have cT : Ch [] H (upd H T (.tup [.int s1, .int s2])) := Ch.new hT _
  refine comp_tup [.int s1, .int s2] (fun i ys σ H' => Ch [] (upd H T (.tup [.int s1, .int s2])) H' ∧ (∃ u, σ = [u, some (.ref fl), some (.ref jn)]) ∧ ((i = 0 ∧ ys = []) ∨ (i = 1 ∧ ∃ p1, ys = [.ref p1] ∧ H p1 = none ∧ H' p1 = some (.tup (wireV (sideW x y s1 tr)))) ∨
    (i = 2 ∧ ∃ p1 p2, ys = [.ref p1, .ref p2] ∧ H p1 = none ∧ H p2 = none ∧ H' p1 = some (.tup (wireV (sideW x y s1 tr))) ∧ H' p2 = some (.tup (wireV (sideW x y s2 tr)))))) (by rw [sizeLine_eq]; show 2 < 16777216; decide) ⟨Ch.refl _ _, ⟨_, rfl⟩, .inl ⟨rfl, rfl⟩⟩ ?_ ?_ ?_
  · rintro i ys σ H' hi ⟨c', _, d⟩
    refine ⟨?_, SqT.of (c'.get upd_same (by simp))⟩
    rcases d with ⟨rfl, rfl⟩ | ⟨rfl, p1, rfl, _⟩ | ⟨rfl, p1, p2, rfl, _⟩ <;> simp
  · rintro i ys σ H' z hz ⟨c', ⟨u, rfl⟩, d⟩
    have cc := cT.trans c'
    have hf1 : H' fl = some (.ins C dx (fldsF r c t)) := cc.get hf (by simp)
    have hj1 : H' jn = some (.tup [.ref bx, .int s1, .int s2, .int tr]) := cc.get hj (by simp)
    have hb1 : H' bx = some (.tup [.int x, .int y]) := cc.get hb (by simp)
    rcases d with ⟨rfl, rfl⟩ | ⟨rfl, p1, rfl, f1, g1⟩ | ⟨rfl, p1, p2, rfl, _⟩
    · cases hz
      walk_at "rd"
      rename_i p1 H2 c2 f2 g2
      exact ⟨⟨_, rfl⟩, .inr (.inl ⟨rfl, p1, rfl, chFree cc f2, g2⟩)⟩
    · cases hz
      walk_at "rd"
      rename_i p2 H2 c2 f2 g2
      exact ⟨⟨_, rfl⟩, .inr (.inr ⟨rfl, p1, p2, rfl, f1, chFree cc f2, c2.get g1 (by simp), g2⟩)⟩
    · cases hz
  · rintro ys σ H' ⟨c', _, d⟩
    rcases d with ⟨e, _⟩ | ⟨e, _⟩ | ⟨_, p1, p2, rfl, f1, f2, g1, g2⟩
    · cases e
    · cases e
    · intro D hD
      exact q D p1 p2 _ ((cT.trans c').trans (Ch.new hD _)) (chFree (cT.trans c') hD) f1 f2 upd_same (g_new hD g1) (g_new hD g2)
end

section
local macro_rules | `(tactic| walk_at "user") => `(tactic| (refine Or.inr (Exists.intro _ (Or.inl ?_)); walk_at "get"))
structure Jn where
  x : Int
  y : Int
  s1 : Int
  s2 : Int
  tr : Int
structure Jn.ok (r c t : Int) (j : Jn) : Prop where
  x0 : 0 ≤ j.x
  x1 : j.x < r
  y0 : 0 ≤ j.y
  y1 : j.y < c
  a0 : 0 ≤ j.s1
  a1 : j.s1 < 4
  b0 : 0 ≤ j.s2
  b1 : j.s2 < 4
  t0 : 0 ≤ j.tr
  t1 : j.tr < t
def Jn.e (j : Jn) : Wr × Wr := (wK (sideW j.x j.y j.s1 j.tr), wK (sideW j.x j.y j.s2 j.tr))
structure JsAt (H : Hp) (js : List Jn) (xs : List V) : Prop where
  len : xs.length = js.length
  at_ : ∀ (i : Nat) (x : V), xs[i]? = some x → ∃ (p bx : Addr) (j : Jn), x = .ref p ∧ js[i]? = some j ∧ H p = some (.tup [.ref bx, .int j.s1, .int j.s2, .int j.tr]) ∧ H bx = some (.tup [.int j.x, .int j.y])
theorem JsAt.ch {H H' : Hp} {js : List Jn} {xs : List V} (s : JsAt H js xs) (c : Ch [] H H') : JsAt H' js xs := ⟨s.len, fun i x e => let ⟨p, bx, j, a, b, g1, g2⟩ := s.at_ i x e; ⟨p, bx, j, a, b, c.get g1 (by simp), c.get g2 (by simp)⟩⟩
abbrev WsAt (H : Hp) : List Wr → List Addr → Prop := Paired (fun k p => H p = some (.tup (k.map kV)))
theorem WsAt.imp {H H' : Hp} (h : ∀ p xs, H p = some (.tup xs) → H' p = some (.tup xs)) : ∀ {ks : List Wr} {ps : List Addr}, WsAt H ks ps → WsAt H' ks ps
  | _, _, .nil => .nil
  | _, _, .cons a t => .cons (h _ _ a) (WsAt.imp h t)
theorem WsAt.snoc {H : Hp} {k : Wr} {p : Addr} (hp : H p = some (.tup (k.map kV))) : ∀ {ks : List Wr} {ps : List Addr}, WsAt H ks ps → WsAt H (ks ++ [k]) (ps ++ [p])
  | _, _, .nil => .cons hp .nil
  | _, _, .cons a t => .cons a (WsAt.snoc hp t)
def AdjP (H0 H : Hp) (p : List Key × V) (q : Wr × List Wr) : Prop := p.1 = q.1 ∧ ∃ (a : Addr) (ps : List Addr), p.2 = .ref a ∧ H0 a = none ∧ H a = some (.lst (ps.map V.ref)) ∧ WsAt H q.2 ps
structure Adj (H0 H : Hp) (kvs : List (List Key × V)) (nb : List (Wr × List Wr)) : Prop where
  pr : Paired (AdjP H0 H) kvs nb
  nv : (kvs.map (·.2)).Nodup
  nk : (kvs.map (·.1)).Nodup
theorem adj_imp {H0 H H' : Hp} : ∀ {kvs : List (List Key × V)} {nb : List (Wr × List Wr)}, (∀ p xs, H p = some (.tup xs) → H' p = some (.tup xs)) → (∀ a xs, V.ref a ∈ kvs.map (·.2) → H a = some (.lst xs) → H' a = some (.lst xs)) → Paired (AdjP H0 H) kvs nb → Paired (AdjP H0 H') kvs nb
  | _, _, _, _, .nil => .nil
  | (k, v) :: kvs, _ :: nb, ht, hl, .cons ⟨e, a, ps, ev, h0, ha, hw⟩ t =>
    .cons ⟨e, a, ps, ev, h0, hl a _ (by simp [show v = .ref a from ev]) ha, hw.imp ht⟩ (adj_imp ht (fun b xs hb => hl b xs (by simp at hb ⊢; exact .inr hb)) t)
theorem Adj.ch {H0 H H' : Hp} {kvs : List (List Key × V)} {nb : List (Wr × List Wr)} (s : Adj H0 H kvs nb) (c : Ch [] H H') : Adj H0 H' kvs nb := ⟨adj_imp (fun p xs h => c.get h (by simp)) (fun a xs _ h => c.get h (by simp)) s.pr, s.nv, s.nk⟩
theorem adj_keys {H0 H : Hp} : ∀ {kvs : List (List Key × V)} {nb : List (Wr × List Wr)}, Paired (AdjP H0 H) kvs nb → ∀ k : Wr, (kvs.any fun kv => decide (kv.1 = k)) = nb.any fun p => decide (p.1 = k)
  | _, _, .nil, _ => rfl
  | _, _, .cons ⟨e, _⟩ t, k => by simp only [List.any_cons, e, adj_keys t k]
theorem val_any {kvs : List (List Key × V)} {k : List Key} (h : valV kvs k = none) : (kvs.any fun kv => decide (kv.1 = k)) = false := by
  induction kvs with
  | nil => rfl
  | cons p kvs ih =>
    by_cases e : p.1 = k
    · rw [valV_pos e] at h; cases h
    · rw [valV_neg e] at h
      rw [List.any_cons, ih h, decide_eq_false e]; rfl
theorem adj_there {H0 H : Hp} {k : Wr} {v : V} : ∀ {kvs : List (List Key × V)} {nb : List (Wr × List Wr)}, Paired (AdjP H0 H) kvs nb → valV kvs k = some v → ∃ (a : Addr) (ps : List Addr), v = .ref a ∧ H0 a = none ∧ H a = some (.lst (ps.map V.ref)) ∧ WsAt H (nbr nb k) ps ∧ v ∈ kvs.map (·.2) ∧ (nb.any fun p => decide (p.1 = k)) = true
  | _, _, .nil, h => by cases h
  | p :: kvs, q :: nb, .cons ⟨e, a, ps, ev, h0, ha, hw⟩ t, h => by
    by_cases ek : p.1 = k
    · rw [valV_pos ek] at h
      cases h
      exact ⟨a, ps, ev, h0, ha, by rw [nbr_cons, if_pos (by rw [← e]; exact ek)]; exact hw, by simp, by simp [← e, ek]⟩
    · rw [valV_neg ek] at h
      obtain ⟨a', ps', x1, x2, x3, x4, x5, x6⟩ := adj_there t h
      exact ⟨a', ps', x1, x2, x3, by rw [nbr_cons, if_neg (by rw [← e]; exact ek)]; exact x4, by simp at x5 ⊢; exact .inr x5, by simp [x6]⟩
theorem adj_old {H0 H : Hp} {k x : Wr} {a w : Addr} {ps : List Addr} (ha : H a = some (.lst (ps.map V.ref))) (hw : H w = some (.tup (x.map kV))) : ∀ {kvs : List (List Key × V)} {nb : List (Wr × List Wr)}, Paired (AdjP H0 H) kvs nb → (kvs.map (·.2)).Nodup → (kvs.map (·.1)).Nodup → valV kvs k = some (.ref a) →
    Paired (AdjP H0 (upd H a (.lst (ps.map V.ref ++ [V.ref w])))) kvs (nb.map fun p => if p.1 = k then (p.1, p.2 ++ [x]) else p)
  | _, _, .nil, _, _, h => by cases h
  | p :: kvs, q :: nb, .cons ⟨e, b, qs, ev, h0, hb, hq⟩ t, nv, nk, h => by
    have nv' : p.2 ∉ kvs.map (·.2) ∧ (kvs.map (·.2)).Nodup := by simpa using nv
    have nk' : p.1 ∉ kvs.map (·.1) ∧ (kvs.map (·.1)).Nodup := by simpa using nk
    have tu : ∀ c xs, H c = some (.tup xs) → (upd H a (.lst (ps.map V.ref ++ [V.ref w]))) c = some (.tup xs) := fun c xs hc => by rw [upd_ne (ne_of hc ha (by intro z; cases z))]; exact hc
    rw [List.map_cons]
    by_cases ek : p.1 = k
    · rw [valV_pos ek] at h
      have e1 : p.2 = .ref a := Option.some.inj h
      have e2 : b = a := by rw [e1] at ev; cases ev; rfl
      subst e2
      rw [if_pos (by rw [← e]; exact ek)]
      have e3 : qs = ps := by
        rw [ha] at hb
        have : ps.map V.ref = qs.map V.ref := by injection hb with z; injection z
        have inj : ∀ {l m : List Addr}, l.map V.ref = m.map V.ref → l = m := by
          intro l
          induction l with
          | nil => intro m z; cases m with | nil => rfl | cons _ _ => cases z
          | cons y l ih => intro m z; cases m with | nil => cases z | cons y' m => simp at z; rw [z.1, ih (by simpa using z.2)]
        exact (inj this).symm
      subst e3
      refine .cons ⟨e, b, qs ++ [w], ev, h0, by rw [upd_same, List.map_append]; rfl, (hq.imp tu).snoc (tu _ _ hw)⟩ ?_
      have same : (nb.map fun p => if p.1 = k then (p.1, p.2 ++ [x]) else p) = nb := by
        have no : (nb.any fun p => decide (p.1 = k)) = false := by
          rw [← adj_keys t k, List.any_eq_false]
          intro y hy z
          exact nk'.1 (by rw [ek, ← (of_decide_eq_true z)]; exact List.mem_map.mpr ⟨y, hy, rfl⟩)
        refine (List.map_congr_left (g := id) fun y hy => ?_).trans (List.map_id _)
        rw [if_neg (fun z => by have := List.any_eq_false.mp no y hy; exact this (decide_eq_true z))]
        rfl
      rw [same]
      exact adj_imp tu (fun c xs hc hcl => by rw [upd_ne (fun z => nv'.1 (by rw [e1, ← z]; exact hc))]; exact hcl) t
    · rw [valV_neg ek] at h
      rw [if_neg (by rw [← e]; exact ek)]
      refine .cons ⟨e, b, qs, ev, h0, ?_, hq.imp tu⟩ (adj_old ha hw t nv'.2 nk'.2 h)
      obtain ⟨a', _, x1, _, _, _, x5, _⟩ := adj_there t h
      have nb' : b ≠ a := fun z => nv'.1 (by rw [ev, z]; exact x5)
      rw [upd_ne nb']; exact hb
theorem adj_snoc {H0 H : Hp} {p : List Key × V} {q : Wr × List Wr} (h : AdjP H0 H p q) : ∀ {kvs : List (List Key × V)} {nb : List (Wr × List Wr)}, Paired (AdjP H0 H) kvs nb → Paired (AdjP H0 H) (kvs ++ [p]) (nb ++ [q])
  | _, _, .nil => .cons h .nil
  | _, _, .cons a t => .cons a (adj_snoc h t)
structure BS (H0 H : Hp) (bd : Addr) (nb : List (Wr × List Wr)) (n : Nat) : Prop where
  ch : Ch [] H0 H
  fr : H0 bd = none
  ex : ∃ kvs, H bd = some (.dT kvs) ∧ Adj H0 H kvs nb ∧ kvs.length ≤ n
theorem BS.keep {H0 H H' : Hp} {bd : Addr} {nb : List (Wr × List Wr)} {n : Nat} (s : BS H0 H bd nb n) (c : Ch [] H H') : BS H0 H' bd nb n := ⟨s.ch.trans c, s.fr, let ⟨kvs, a, b, l⟩ := s.ex; ⟨kvs, c.get a (by simp), b.ch c, l⟩⟩
theorem bs_old {H0 H : Hp} {bd : Addr} {nb : List (Wr × List Wr)} {n : Nat} {kvs : List (List Key × V)} {k x : Wr} {a w : Addr} {ps : List Addr} (c : Ch [] H0 H) (f : H0 bd = none) (hb : H bd = some (.dT kvs)) (ad : Adj H0 H kvs nb) (l : kvs.length ≤ n) (hv : valV kvs k = some (.ref a)) (h0 : H0 a = none) (ha : H a = some (.lst (ps.map V.ref))) (hw : H w = some (.tup (x.map kV)))
    (hy : (nb.any fun p => decide (p.1 = k)) = true) : BS H0 (upd H a (.lst (ps.map V.ref ++ [V.ref w]))) bd (addN nb k x) (n + 1) := by
  refine ⟨Ch.own h0 c, f, kvs, by rw [upd_ne (ne_of hb ha (by intro z; cases z))]; exact hb, ⟨?_, ad.nv, ad.nk⟩, by omega⟩
  unfold addN
  rw [if_pos hy]
  exact adj_old ha hw ad.pr ad.nv ad.nk hv
theorem vals_have {H0 H : Hp} : ∀ {kvs : List (List Key × V)} {nb : List (Wr × List Wr)}, Paired (AdjP H0 H) kvs nb → ∀ v ∈ kvs.map (·.2), ∃ a xs, v = .ref a ∧ H a = some (.lst xs)
  | _, _, .nil, v, h => by simp at h
  | p :: kvs, _, .cons ⟨_, a, ps, ev, _, ha, _⟩ t, v, h => by
    rcases (by simpa using h : v = p.2 ∨ v ∈ kvs.map (·.2)) with rfl | h
    · exact ⟨a, _, ev, ha⟩
    · exact vals_have t v h
theorem bs_new {H0 H : Hp} {bd l0 w : Addr} {nb : List (Wr × List Wr)} {n : Nat} {kvs : List (List Key × V)} {k x : Wr} (c : Ch [] H0 H) (f : H0 bd = none) (hb : H bd = some (.dT kvs)) (ad : Adj H0 H kvs nb) (l : kvs.length ≤ n) (hv : valV kvs k = none) (hl : H l0 = none) (hw : H w = some (.tup (x.map kV))) :
    BS H0 (upd (upd (upd H l0 (.lst [])) bd (.dT (putK kvs k (.ref l0)))) l0 (.lst ([] ++ [V.ref w]))) bd (addN nb k x) (n + 1) := by
  have nl : bd ≠ l0 := ne_of_none hb hl
  have no := val_any hv
  have no2 : (nb.any fun p => decide (p.1 = k)) = false := by rw [← adj_keys ad.pr k]; exact no
  have ep : putK kvs k (.ref l0) = kvs ++ [(k, .ref l0)] := by unfold putK; rw [if_neg (by rw [no]; simp)]
  have h0 : H0 l0 = none := chFree c hl
  have at_ : ∀ b o, b ≠ l0 → b ≠ bd → H b = some o → (upd (upd (upd H l0 (.lst [])) bd (.dT (putK kvs k (.ref l0)))) l0 (.lst ([] ++ [V.ref w]))) b = some o := fun b o n1 n2 e => by rw [upd_ne n1, upd_ne n2, upd_ne n1]; exact e
  have tu : ∀ b xs, H b = some (.tup xs) → (upd (upd (upd H l0 (.lst [])) bd (.dT (putK kvs k (.ref l0)))) l0 (.lst ([] ++ [V.ref w]))) b = some (.tup xs) := fun b xs e => at_ b _ (ne_of_none e hl) (ne_of e hb (by intro z; cases z)) e
  have li : ∀ b xs, H b = some (.lst xs) → (upd (upd (upd H l0 (.lst [])) bd (.dT (putK kvs k (.ref l0)))) l0 (.lst ([] ++ [V.ref w]))) b = some (.lst xs) := fun b xs e => at_ b _ (ne_of_none e hl) (ne_of e hb (by intro z; cases z)) e
  refine ⟨Ch.own h0 (Ch.own f (Ch.own h0 c)), f, kvs ++ [(k, .ref l0)], by rw [upd_ne nl, upd_same, ep], ⟨?_, ?_, ?_⟩, by simp; omega⟩
  · unfold addN
    rw [if_neg (by rw [no2]; simp)]
    have hws : WsAt (upd (upd (upd H l0 (.lst [])) bd (.dT (putK kvs k (.ref l0)))) l0 (.lst ([] ++ [V.ref w]))) [x] [w] := by
      refine .cons ?_ .nil
      exact tu _ _ hw
    have hp : AdjP H0 (upd (upd (upd H l0 (.lst [])) bd (.dT (putK kvs k (.ref l0)))) l0 (.lst ([] ++ [V.ref w]))) (k, .ref l0) (k, [x]) := ⟨rfl, l0, [w], rfl, h0, upd_same, hws⟩
    exact adj_snoc hp (adj_imp tu (fun a xs _ e => li a xs e) ad.pr)
  · rw [List.map_append, List.nodup_append]
    refine ⟨ad.nv, by simp, fun v hv' y hy z => ?_⟩
    obtain ⟨a, xs, e1, e2⟩ := vals_have ad.pr v hv'
    have : y = .ref l0 := by simpa using hy
    rw [this, e1] at z
    cases z
    rw [hl] at e2; cases e2
  · rw [List.map_append, List.nodup_append]
    refine ⟨ad.nk, by simp, fun v hv' y hy z => ?_⟩
    have e : y = k := by simpa using hy
    obtain ⟨q, hq, rfl⟩ := List.mem_map.mp hv'
    have := List.any_eq_false.mp no q hq
    exact this (decide_eq_true (z.trans e))
end

section
local macro_rules | `(tactic| walk_at "user") => `(tactic| (refine Or.inr (Exists.intro _ (Or.inl ?_)); walk_at "get"))
theorem nbr_add_len (nb : List (Wr × List Wr)) (k x j : Wr) : (nbr (addN nb k x) j).length ≤ (nbr nb j).length + 1 := by
  unfold addN
  by_cases h : (nb.any fun p => decide (p.1 = k)) = true
  · rw [if_pos h, nbr_map]
    split <;> simp
  · rw [if_neg h, nbr_app (Bool.not_eq_true _ ▸ h)]
    split <;> simp
theorem nbr_build_len : ∀ (E : List (Wr × Wr)) (nb : List (Wr × List Wr)) (j : Wr), (nbr (E.foldl add2 nb) j).length ≤ (nbr nb j).length + 2 * E.length
  | [], nb, j => by simp
  | e :: E, nb, j => by
    have h1 := nbr_build_len E (add2 nb e) j
    have h2 := nbr_add_len (addN nb e.1 e.2) e.2 e.1 j
    have h3 := nbr_add_len nb e.1 e.2 j
    rw [List.foldl_cons, List.length_cons]
    unfold add2 at h1 ⊢
    omega
section
variable {P : Program} {w : World} {K : PySem.W.Frag} {mg : Str → Option Value} {base : Heap} {f : Addr} {fd : FuncData} {k : Nat}
theorem gd_join_wires : Nd "join_wires" := by decide +kernel
theorem l15_2 : Lc (defScope (top 15)) "beside" := by decide +kernel
theorem v15_1 : Vs (defScope (top 15)) "joins" := by decide +kernel
theorem d15_1 : Nd "joins" := by decide +kernel
theorem c15_1 : Nc "joins" := by decide +kernel
theorem l15_3 : Lc (defScope (top 15)) "join" := by decide +kernel
theorem l15_4 : Lc (defScope (top 15)) "wires" := by decide +kernel
theorem g15_join_wires : Gi (defScope (top 15)) "join_wires" := by decide +kernel
theorem v15_3 : Vs (defScope (top 15)) "join" := by decide +kernel
theorem d15_3 : Nd "join" := by decide +kernel
theorem c15_3 : Nc "join" := by decide +kernel
theorem v15_0 : Vs (defScope (top 15)) "floor" := by decide +kernel
theorem d15_0 : Nd "floor" := by decide +kernel
theorem c15_0 : Nc "floor" := by decide +kernel
theorem v15_2 : Vs (defScope (top 15)) "beside" := by decide +kernel
theorem d15_2 : Nd "beside" := by decide +kernel
theorem c15_2 : Nc "beside" := by decide +kernel
theorem v15_4 : Vs (defScope (top 15)) "wires" := by decide +kernel
theorem d15_4 : Nd "wires" := by decide +kernel
theorem c15_4 : Nc "wires" := by decide +kernel
def spBes (C : Addr) : Sp := fun vs H Q _ => ∃ (kd : SK) (fl dx ja : Addr) (r c t : Int) (js : List Jn) (xs : List V), vs = [.ref fl, .ref ja] ∧ H fl = some (.ins C dx (fldsF r c t)) ∧ SqX kd H ja xs ∧ JsAt H js xs ∧ (∀ j ∈ js, j.ok r c t) ∧ js.length ≤ 100 ∧
  ∀ bd H', BS H H' bd ((js.map Jn.e).foldl add2 []) (2 * js.length) → Q (.ref bd) H'
theorem scBes : FnScope ["floor", "joins", "beside", "join", "wires"] ["floor", "joins"] (defScope (top 15)) := ⟨rfl, rfl, rfl, by decide +kernel, rfl, by decide +kernel, by decide +kernel⟩
theorem ok_bes {C : Addr} (F : Fun K "wires_beside" "wires_beside" (top 15) f fd) (Djoin_wires : DefOk P w K mg base CX0 k "join_wires" ["floor", "join"] (spJoinW C)) :
    FnOk P w K mg base CX0 (k + 1) f fd ["floor", "joins"] (spBes C) := by
  have nd := scBes.nd
  refine F.ok scBes (fun vs H Q E h => by obtain ⟨kd, fl, dx, ja, r, c, t, js, xs, rfl, _⟩ := h; rfl) (fun cdv A outer s H vs Q E hr h => ?_)
  obtain ⟨kd, fl, dx, ja, r, c, t, js, xs, rfl, hf, hk, hj, ok, hl, q⟩ := h
  have hu := hu_of hr
  cases kd with
  | list =>
    have hk : H ja = some (.lst xs) := hk
    refine ⟨_, (Pr.h (qpss_cons (qps_set (i := 2) nd rfl l15_2 qpe_dnewT)
 (qpss_cons (qps_loop PassesOwn.never rfl (qpi_list (qpe_var (i := 1) rfl v15_1 d15_1 c15_1)) (qpg_name (i := 3) nd rfl l15_3)
  (qpss_cons (qps_set (i := 4) nd rfl l15_4 (qpe_callD Djoin_wires hr g15_join_wires pass0 (qpa_cons (qpe_var (i := 0) rfl v15_0 d15_0 c15_0) (qpa_cons (qpe_var (i := 3) rfl v15_3 d15_3 c15_3) qpa_nil se_Name) se_Name) gd_join_wires))
 (qpss_cut (qps_expr (qpe_bm PySem.F.plainAttrs_list PySem.F.slot_list_append PySem.F.type_list_append mt_append (qpe_dsetd hu (qpe_var (i := 2) rfl v15_2 d15_2 c15_2) (qpe_ix ixa_list (qpe_var (i := 4) rfl v15_4 d15_4 c15_4) qpe_int (fun _ _ => rfl)) (qpe_lst qpa_nil) ⟨rfl, rfl, rfl, rfl⟩) (qpa_cons (qpe_ix ixa_list (qpe_var (i := 4) rfl v15_4 d15_4 c15_4) qpe_int (fun _ _ => rfl)) qpa_nil se_Subscript)))
 (qpss_one (qps_expr (qpe_bm PySem.F.plainAttrs_list PySem.F.slot_list_append PySem.F.type_list_append mt_append (qpe_dsetd hu (qpe_var (i := 2) rfl v15_2 d15_2 c15_2) (qpe_ix ixa_list (qpe_var (i := 4) rfl v15_4 d15_4 c15_4) qpe_int (fun _ _ => rfl)) (qpe_lst qpa_nil) ⟨rfl, rfl, rfl, rfl⟩) (qpa_cons (qpe_ix ixa_list (qpe_var (i := 4) rfl v15_4 d15_4 c15_4) qpe_int (fun _ _ => rfl)) qpa_nil se_Subscript)))))))
 (qpss_one (qps_ret (qpe_var (i := 2) rfl v15_2 d15_2 c15_2)))))), ?_⟩
    (try dsimp only [cxOf])
    walk_at "rd"
    rename_i bd hbd
    refine loop_list (xs := xs) (fun i σ H' => ∃ u v, σ = [some (.ref fl), some (.ref ja), some (.ref bd), u, v] ∧ BS H H' bd (((js.take i).map Jn.e).foldl add2 []) (2 * i)) ⟨_, _, rfl, Ch.new hbd _, hbd, [], upd_same, ⟨.nil, by simp, by simp⟩, by simp⟩ ?_ ?_ ?_
    · rintro i σ H' hi ⟨u, v, rfl, b⟩
      exact SqL.of (b.ch.get hk (by simp))
    · rintro i z σ H' hz ⟨u, v, rfl, b⟩
      obtain ⟨jn, bx, j, rfl, hji, hp, hb⟩ := (hj.ch b.ch).at_ i z hz
      obtain ⟨x0, x1, y0, y1, a0, a1, b0, b1, t0, t1⟩ := ok j (List.mem_of_getElem? hji)
      have hi : i < js.length := (List.getElem?_eq_some_iff.mp hji).1
      have hf1 : H' fl = some (.ins C dx (fldsF r c t)) := b.ch.get hf (by simp)
      have et : ((js.take (i + 1)).map Jn.e).foldl add2 [] = add2 (((js.take i).map Jn.e).foldl add2 []) j.e := by rw [List.take_add_one, hji, List.map_append, List.foldl_append]; rfl
      rw [et]
      have lnb : ∀ k, (nbr (((js.take i).map Jn.e).foldl add2 []) k).length ≤ 200 := fun k => by
        have := nbr_build_len ((js.take i).map Jn.e) [] k
        rw [List.length_map, List.length_take, show (nbr [] k).length = 0 from rfl] at this
        omega
      generalize hnb : ((js.take i).map Jn.e).foldl add2 [] = nb at b lnb ⊢
      obtain ⟨kvs, hbd1, ad, hkl⟩ := b.ex
      have hkz : kvs.length < sizeLine := by rw [sizeLine_eq]; omega
      walk_at "rd"
      rename_i wl p1 p2 H2 c2 fw f1 f2 gw g1 g2
      have b2 := b.keep c2
      have adn : ∀ {kvs' : List (List Key × V)} {a : Addr} {xs : List V}, Adj H H' kvs' nb → H' a = some (.lst xs) → a ≠ wl := fun _ e => ne_of_none e fw
      have ad2 := ad.ch c2
      have hbd2 : H2 bd = some (.dT kvs) := c2.get hbd1 (by simp)
      have isd2 : IsD H2 bd := .inr ⟨kvs, .inl hbd2⟩
      have wno : V.ref wl ∉ kvs.map (·.2) := fun z => by
        obtain ⟨a', xs', ea', hxa⟩ := vals_have ad.pr _ z
        cases ea'
        rw [fw] at hxa; cases hxa
      refine cut_by (fun σ H'' => σ = [some (.ref fl), some (.ref ja), some (.ref bd), some (.ref jn), some (.ref wl)] ∧ BS H H'' bd (addN nb j.e.1 j.e.2) (2 * i + 1) ∧ H'' wl = some (.lst [.ref p1, .ref p2]) ∧ H'' p1 = some (.tup (j.e.1.map kV)) ∧ H'' p2 = some (.tup (j.e.2.map kV)) ∧ ∃ kvs', H'' bd = some (.dT kvs') ∧ V.ref wl ∉ kvs'.map (·.2)) ?_ ?_
      · walk_at "rd"
        rename_i l0 hl0
        have c3 : Ch [] H2 (upd H2 l0 (.lst [])) := Ch.new hl0 _
        refine ⟨fun v' ev => ?_, fun en => ?_⟩
        · obtain ⟨a, ps, rfl, h0a, ha, hws, hmem, hy⟩ := adj_there ad2.pr ev
          have ha3 : (upd H2 l0 (.lst [])) a = some (.lst (ps.map V.ref)) := g_new hl0 ha
          have lps : (ps.map V.ref).length < sizeLine := by
            have e1 := Paired.length hws
            have e2 := lnb (wK (sideW j.x j.y j.s1 j.tr))
            rw [sizeLine_eq, List.length_map]; omega
          obtain ⟨a', xs', ea', hxa⟩ := vals_have ad.pr _ hmem
          cases ea'
          have naw : a ≠ wl := ne_of_none hxa fw
          walk_at "rd"
          have hw3 : (upd H2 l0 (.lst [])) p2 = some (.tup (j.e.2.map kV)) := g_new hl0 g2
          exact ⟨bs_old (k := j.e.1) (b2.ch.trans c3) b2.fr (g_new hl0 hbd2) (ad2.ch c3) hkl ev h0a ha3 hw3 hy, g_put naw.symm (g_new hl0 gw), g_put (ne_of (g_new hl0 g1) ha3 (by intro z; cases z)) (g_new hl0 g1), g_put (ne_of hw3 ha3 (by intro z; cases z)) hw3, kvs, g_put (ne_of (g_new hl0 hbd2) ha3 (by intro z; cases z)) (g_new hl0 hbd2), wno⟩
        · have nlb : l0 ≠ bd := (ne_of_none hbd2 hl0).symm
          have nwb : wl ≠ bd := ne_of gw hbd2 (by intro z; cases z)
          have nwl : wl ≠ l0 := ne_of_none gw hl0
          have n1b : p1 ≠ bd := ne_of g1 hbd2 (by intro z; cases z)
          have n2b : p2 ≠ bd := ne_of g2 hbd2 (by intro z; cases z)
          have n1l : p1 ≠ l0 := ne_of_none g1 hl0
          have n2l : p2 ≠ l0 := ne_of_none g2 hl0
          obtain ⟨H4, e4⟩ : ∃ H4, upd (upd H2 l0 (.lst [])) bd (.dT (putK kvs (wK (sideW j.x j.y j.s1 j.tr)) (.ref l0))) = H4 := ⟨_, rfl⟩
          have k4 : H4 l0 = some (.lst []) := by rw [← e4, upd_ne nlb]; exact upd_same
          have kw4 : H4 wl = some (.lst [.ref p1, .ref p2]) := by rw [← e4]; exact g_put nwb (g_new hl0 gw)
          have l00 : ([] : List V).length < sizeLine := by rw [sizeLine_eq]; decide
          rw [e4]
          walk_at "rd"
          rw [← e4]
          exact ⟨bs_new (k := j.e.1) b2.ch b2.fr hbd2 ad2 hkl en hl0 (show H2 p2 = some (.tup (j.e.2.map kV)) from g2), g_put nwl (g_put nwb (g_new hl0 gw)), g_put n1l (g_put n1b (g_new hl0 g1)), g_put n2l (g_put n2b (g_new hl0 g2)), _, g_put nlb.symm upd_same, by
            unfold putK
            rw [if_neg (by rw [val_any en]; simp), List.map_append]
            intro z
            rcases List.mem_append.mp z with z | z
            · exact wno z
            · have z : wl = l0 := by simpa using z
              exact nwl z⟩
      · rintro σ' H5 ⟨rfl, b5, w5, q1, q2, kvs5, hbd5, wno5⟩
        obtain ⟨kvs6, hbd6, ad5, hkl5⟩ := b5.ex
        rw [hbd5] at hbd6
        cases hbd6
        have hkz5 : kvs5.length < sizeLine := by rw [sizeLine_eq]; omega
        have isd5 : IsD H5 bd := .inr ⟨kvs5, .inl hbd5⟩
        have et2 : 2 * (i + 1) = 2 * i + 1 + 1 := by omega
        rw [et2]
        clear b b2 ad ad2 hbd1 hbd2 isd2 c2 fw f1 f2 gw g1 g2 adn hp hb hf1 hkz hkl wno et
        walk_at "rd"
        rename_i l0 hl0
        have c3 : Ch [] H5 (upd H5 l0 (.lst [])) := Ch.new hl0 _
        refine ⟨fun v' ev => ?_, fun en => ?_⟩
        · obtain ⟨a, ps, rfl, h0a, ha, hws, hmem, hy⟩ := adj_there ad5.pr ev
          have ha3 : (upd H5 l0 (.lst [])) a = some (.lst (ps.map V.ref)) := g_new hl0 ha
          have lps : (ps.map V.ref).length < sizeLine := by
            have e1 := Paired.length hws
            have e2 := lnb j.e.2
            have e3 := nbr_add_len nb j.e.1 j.e.2 j.e.2
            rw [sizeLine_eq, List.length_map]; omega
          walk_at "rd"
          exact bs_old (k := j.e.2) (b5.ch.trans c3) b5.fr (g_new hl0 hbd5) (ad5.ch c3) hkl5 ev h0a ha3 (g_new hl0 q1) hy
        · have nlb : l0 ≠ bd := (ne_of_none hbd5 hl0).symm
          have nwb : wl ≠ bd := ne_of w5 hbd5 (by intro z; cases z)
          obtain ⟨H4, e4⟩ : ∃ H4, upd (upd H5 l0 (.lst [])) bd (.dT (putK kvs5 j.e.2 (.ref l0))) = H4 := ⟨_, rfl⟩
          have k4 : H4 l0 = some (.lst []) := by rw [← e4, upd_ne nlb]; exact upd_same
          have kw4 : H4 wl = some (.lst [.ref p1, .ref p2]) := by rw [← e4]; exact g_put nwb (g_new hl0 w5)
          have l00 : ([] : List V).length < sizeLine := by rw [sizeLine_eq]; decide
          rw [e4]
          walk_at "rd"
          rw [← e4]
          exact bs_new (k := j.e.2) b5.ch b5.fr hbd5 ad5 hkl5 en hl0 q1
    · rintro σ H' ⟨u, v, rfl, b⟩
      rw [hj.len, List.take_length] at b
      walk_at "rd"
      exact q bd _ b
  | tuple =>
    have hk : H ja = some (.tup xs) := hk
    refine ⟨_, (Pr.h (qpss_cons (qps_set (i := 2) nd rfl l15_2 qpe_dnewT)
 (qpss_cons (qps_loop PassesOwn.never rfl (qpi_tup (qpe_var (i := 1) rfl v15_1 d15_1 c15_1)) (qpg_name (i := 3) nd rfl l15_3)
  (qpss_cons (qps_set (i := 4) nd rfl l15_4 (qpe_callD Djoin_wires hr g15_join_wires pass0 (qpa_cons (qpe_var (i := 0) rfl v15_0 d15_0 c15_0) (qpa_cons (qpe_var (i := 3) rfl v15_3 d15_3 c15_3) qpa_nil se_Name) se_Name) gd_join_wires))
 (qpss_cut (qps_expr (qpe_bm PySem.F.plainAttrs_list PySem.F.slot_list_append PySem.F.type_list_append mt_append (qpe_dsetd hu (qpe_var (i := 2) rfl v15_2 d15_2 c15_2) (qpe_ix ixa_list (qpe_var (i := 4) rfl v15_4 d15_4 c15_4) qpe_int (fun _ _ => rfl)) (qpe_lst qpa_nil) ⟨rfl, rfl, rfl, rfl⟩) (qpa_cons (qpe_ix ixa_list (qpe_var (i := 4) rfl v15_4 d15_4 c15_4) qpe_int (fun _ _ => rfl)) qpa_nil se_Subscript)))
 (qpss_one (qps_expr (qpe_bm PySem.F.plainAttrs_list PySem.F.slot_list_append PySem.F.type_list_append mt_append (qpe_dsetd hu (qpe_var (i := 2) rfl v15_2 d15_2 c15_2) (qpe_ix ixa_list (qpe_var (i := 4) rfl v15_4 d15_4 c15_4) qpe_int (fun _ _ => rfl)) (qpe_lst qpa_nil) ⟨rfl, rfl, rfl, rfl⟩) (qpa_cons (qpe_ix ixa_list (qpe_var (i := 4) rfl v15_4 d15_4 c15_4) qpe_int (fun _ _ => rfl)) qpa_nil se_Subscript)))))))
 (qpss_one (qps_ret (qpe_var (i := 2) rfl v15_2 d15_2 c15_2)))))), ?_⟩
    (try dsimp only [cxOf])
    walk_at "rd"
    rename_i bd hbd
    refine loop_tup (xs := xs) (fun i σ H' => ∃ u v, σ = [some (.ref fl), some (.ref ja), some (.ref bd), u, v] ∧ BS H H' bd (((js.take i).map Jn.e).foldl add2 []) (2 * i)) ⟨_, _, rfl, Ch.new hbd _, hbd, [], upd_same, ⟨.nil, by simp, by simp⟩, by simp⟩ ?_ ?_ ?_
    · rintro i σ H' hi ⟨u, v, rfl, b⟩
      exact SqT.of (b.ch.get hk (by simp))
    · rintro i z σ H' hz ⟨u, v, rfl, b⟩
      obtain ⟨jn, bx, j, rfl, hji, hp, hb⟩ := (hj.ch b.ch).at_ i z hz
      obtain ⟨x0, x1, y0, y1, a0, a1, b0, b1, t0, t1⟩ := ok j (List.mem_of_getElem? hji)
      have hi : i < js.length := (List.getElem?_eq_some_iff.mp hji).1
      have hf1 : H' fl = some (.ins C dx (fldsF r c t)) := b.ch.get hf (by simp)
      have et : ((js.take (i + 1)).map Jn.e).foldl add2 [] = add2 (((js.take i).map Jn.e).foldl add2 []) j.e := by rw [List.take_add_one, hji, List.map_append, List.foldl_append]; rfl
      rw [et]
      have lnb : ∀ k, (nbr (((js.take i).map Jn.e).foldl add2 []) k).length ≤ 200 := fun k => by
        have := nbr_build_len ((js.take i).map Jn.e) [] k
        rw [List.length_map, List.length_take, show (nbr [] k).length = 0 from rfl] at this
        omega
      generalize hnb : ((js.take i).map Jn.e).foldl add2 [] = nb at b lnb ⊢
      obtain ⟨kvs, hbd1, ad, hkl⟩ := b.ex
      have hkz : kvs.length < sizeLine := by rw [sizeLine_eq]; omega
      walk_at "rd"
      rename_i wl p1 p2 H2 c2 fw f1 f2 gw g1 g2
      have b2 := b.keep c2
      have adn : ∀ {kvs' : List (List Key × V)} {a : Addr} {xs : List V}, Adj H H' kvs' nb → H' a = some (.lst xs) → a ≠ wl := fun _ e => ne_of_none e fw
      have ad2 := ad.ch c2
      have hbd2 : H2 bd = some (.dT kvs) := c2.get hbd1 (by simp)
      have isd2 : IsD H2 bd := .inr ⟨kvs, .inl hbd2⟩
      have wno : V.ref wl ∉ kvs.map (·.2) := fun z => by
        obtain ⟨a', xs', ea', hxa⟩ := vals_have ad.pr _ z
        cases ea'
        rw [fw] at hxa; cases hxa
      refine cut_by (fun σ H'' => σ = [some (.ref fl), some (.ref ja), some (.ref bd), some (.ref jn), some (.ref wl)] ∧ BS H H'' bd (addN nb j.e.1 j.e.2) (2 * i + 1) ∧ H'' wl = some (.lst [.ref p1, .ref p2]) ∧ H'' p1 = some (.tup (j.e.1.map kV)) ∧ H'' p2 = some (.tup (j.e.2.map kV)) ∧ ∃ kvs', H'' bd = some (.dT kvs') ∧ V.ref wl ∉ kvs'.map (·.2)) ?_ ?_
      · walk_at "rd"
        rename_i l0 hl0
        have c3 : Ch [] H2 (upd H2 l0 (.lst [])) := Ch.new hl0 _
        refine ⟨fun v' ev => ?_, fun en => ?_⟩
        · obtain ⟨a, ps, rfl, h0a, ha, hws, hmem, hy⟩ := adj_there ad2.pr ev
          have ha3 : (upd H2 l0 (.lst [])) a = some (.lst (ps.map V.ref)) := g_new hl0 ha
          have lps : (ps.map V.ref).length < sizeLine := by
            have e1 := Paired.length hws
            have e2 := lnb (wK (sideW j.x j.y j.s1 j.tr))
            rw [sizeLine_eq, List.length_map]; omega
          obtain ⟨a', xs', ea', hxa⟩ := vals_have ad.pr _ hmem
          cases ea'
          have naw : a ≠ wl := ne_of_none hxa fw
          walk_at "rd"
          have hw3 : (upd H2 l0 (.lst [])) p2 = some (.tup (j.e.2.map kV)) := g_new hl0 g2
          exact ⟨bs_old (k := j.e.1) (b2.ch.trans c3) b2.fr (g_new hl0 hbd2) (ad2.ch c3) hkl ev h0a ha3 hw3 hy, g_put naw.symm (g_new hl0 gw), g_put (ne_of (g_new hl0 g1) ha3 (by intro z; cases z)) (g_new hl0 g1), g_put (ne_of hw3 ha3 (by intro z; cases z)) hw3, kvs, g_put (ne_of (g_new hl0 hbd2) ha3 (by intro z; cases z)) (g_new hl0 hbd2), wno⟩
        · have nlb : l0 ≠ bd := (ne_of_none hbd2 hl0).symm
          have nwb : wl ≠ bd := ne_of gw hbd2 (by intro z; cases z)
          have nwl : wl ≠ l0 := ne_of_none gw hl0
          have n1b : p1 ≠ bd := ne_of g1 hbd2 (by intro z; cases z)
          have n2b : p2 ≠ bd := ne_of g2 hbd2 (by intro z; cases z)
          have n1l : p1 ≠ l0 := ne_of_none g1 hl0
          have n2l : p2 ≠ l0 := ne_of_none g2 hl0
          obtain ⟨H4, e4⟩ : ∃ H4, upd (upd H2 l0 (.lst [])) bd (.dT (putK kvs (wK (sideW j.x j.y j.s1 j.tr)) (.ref l0))) = H4 := ⟨_, rfl⟩
          have k4 : H4 l0 = some (.lst []) := by rw [← e4, upd_ne nlb]; exact upd_same
          have kw4 : H4 wl = some (.lst [.ref p1, .ref p2]) := by rw [← e4]; exact g_put nwb (g_new hl0 gw)
          have l00 : ([] : List V).length < sizeLine := by rw [sizeLine_eq]; decide
          rw [e4]
          walk_at "rd"
          rw [← e4]
          exact ⟨bs_new (k := j.e.1) b2.ch b2.fr hbd2 ad2 hkl en hl0 (show H2 p2 = some (.tup (j.e.2.map kV)) from g2), g_put nwl (g_put nwb (g_new hl0 gw)), g_put n1l (g_put n1b (g_new hl0 g1)), g_put n2l (g_put n2b (g_new hl0 g2)), _, g_put nlb.symm upd_same, by
            unfold putK
            rw [if_neg (by rw [val_any en]; simp), List.map_append]
            intro z
            rcases List.mem_append.mp z with z | z
            · exact wno z
            · have z : wl = l0 := by simpa using z
              exact nwl z⟩
      · rintro σ' H5 ⟨rfl, b5, w5, q1, q2, kvs5, hbd5, wno5⟩
        obtain ⟨kvs6, hbd6, ad5, hkl5⟩ := b5.ex
        rw [hbd5] at hbd6
        cases hbd6
        have hkz5 : kvs5.length < sizeLine := by rw [sizeLine_eq]; omega
        have isd5 : IsD H5 bd := .inr ⟨kvs5, .inl hbd5⟩
        have et2 : 2 * (i + 1) = 2 * i + 1 + 1 := by omega
        rw [et2]
        clear b b2 ad ad2 hbd1 hbd2 isd2 c2 fw f1 f2 gw g1 g2 adn hp hb hf1 hkz hkl wno et
        walk_at "rd"
        rename_i l0 hl0
        have c3 : Ch [] H5 (upd H5 l0 (.lst [])) := Ch.new hl0 _
        refine ⟨fun v' ev => ?_, fun en => ?_⟩
        · obtain ⟨a, ps, rfl, h0a, ha, hws, hmem, hy⟩ := adj_there ad5.pr ev
          have ha3 : (upd H5 l0 (.lst [])) a = some (.lst (ps.map V.ref)) := g_new hl0 ha
          have lps : (ps.map V.ref).length < sizeLine := by
            have e1 := Paired.length hws
            have e2 := lnb j.e.2
            have e3 := nbr_add_len nb j.e.1 j.e.2 j.e.2
            rw [sizeLine_eq, List.length_map]; omega
          walk_at "rd"
          exact bs_old (k := j.e.2) (b5.ch.trans c3) b5.fr (g_new hl0 hbd5) (ad5.ch c3) hkl5 ev h0a ha3 (g_new hl0 q1) hy
        · have nlb : l0 ≠ bd := (ne_of_none hbd5 hl0).symm
          have nwb : wl ≠ bd := ne_of w5 hbd5 (by intro z; cases z)
          obtain ⟨H4, e4⟩ : ∃ H4, upd (upd H5 l0 (.lst [])) bd (.dT (putK kvs5 j.e.2 (.ref l0))) = H4 := ⟨_, rfl⟩
          have k4 : H4 l0 = some (.lst []) := by rw [← e4, upd_ne nlb]; exact upd_same
          have kw4 : H4 wl = some (.lst [.ref p1, .ref p2]) := by rw [← e4]; exact g_put nwb (g_new hl0 w5)
          have l00 : ([] : List V).length < sizeLine := by rw [sizeLine_eq]; decide
          rw [e4]
          walk_at "rd"
          rw [← e4]
          exact bs_new (k := j.e.2) b5.ch b5.fr hbd5 ad5 hkl5 en hl0 q1
    · rintro σ H' ⟨u, v, rfl, b⟩
      rw [hj.len, List.take_length] at b
      walk_at "rd"
      exact q bd _ b
end
end

section
section
variable {P : Program} {w : World} {K : PySem.W.Frag} {mg : Str → Option Value} {base : Heap} {f : Addr} {fd : FuncData} {k : Nat}
theorem v10m0_3 : Vs (defScope (inClass (top 10) 0)) "tracks" := by decide +kernel
theorem d10m0_3 : Nd "tracks" := by decide +kernel
theorem c10m0_3 : Nc "tracks" := by decide +kernel
theorem v10m0_2 : Vs (defScope (inClass (top 10) 0)) "columns" := by decide +kernel
theorem d10m0_2 : Nd "columns" := by decide +kernel
theorem c10m0_2 : Nc "columns" := by decide +kernel
theorem v10m0_1 : Vs (defScope (inClass (top 10) 0)) "rows" := by decide +kernel
theorem d10m0_1 : Nd "rows" := by decide +kernel
theorem c10m0_1 : Nc "rows" := by decide +kernel
theorem l10m0_5 : Lc (defScope (inClass (top 10) 0)) "most" := by decide +kernel
theorem l10m0_4 : Lc (defScope (inClass (top 10) 0)) "size" := by decide +kernel
theorem v10m0_4 : Vs (defScope (inClass (top 10) 0)) "size" := by decide +kernel
theorem d10m0_4 : Nd "size" := by decide +kernel
theorem c10m0_4 : Nc "size" := by decide +kernel
theorem v10m0_5 : Vs (defScope (inClass (top 10) 0)) "most" := by decide +kernel
theorem d10m0_5 : Nd "most" := by decide +kernel
theorem c10m0_5 : Nc "most" := by decide +kernel
theorem g10m0_is_whole : Gi (defScope (inClass (top 10) 0)) "is_whole" := by decide +kernel
theorem v10m0_0 : Vs (defScope (inClass (top 10) 0)) "self" := by decide +kernel
theorem d10m0_0 : Nd "self" := by decide +kernel
theorem c10m0_0 : Nc "self" := by decide +kernel
def spFloor (C : Addr) : Sp := fun vs H Q _ => ∃ (x dx : Addr) (r c t : Int), vs = [.ref x, .int r, .int c, .int t] ∧ H x = some (.ins C dx []) ∧ 1 ≤ r ∧ r ≤ 10 ∧ 1 ≤ c ∧ c ≤ 10 ∧ 1 ≤ t ∧ t ≤ 8 ∧ ∀ dx' H', Ch [x] H H' → H' x = some (.ins C dx' (fldsF r c t)) → Q .non H'
theorem scFloor : FnScope ["self", "rows", "columns", "tracks", "size", "most"] ["self", "rows", "columns", "tracks"] (defScope (inClass (top 10) 0)) := ⟨rfl, rfl, rfl, by decide +kernel, rfl, by decide +kernel, by decide +kernel⟩
theorem ok_Floor {C : Addr} (F : Fun K "__init__" "Floor.__init__" (inClass (top 10) 0) f fd) (cl : Cls K C) (nR : NoAttr K C "rows") (nC : NoAttr K C "columns") (nT : NoAttr K C "tracks") (Dis_whole : DefOk P w K mg base CX0 k "is_whole" ["thing"] spWhole) :
    FnOk P w K mg base CX0 (k + 1) f fd ["self", "rows", "columns", "tracks"] (spFloor C) := by
  have nd := scFloor.nd
  refine F.ok scFloor (fun vs H Q E h => by obtain ⟨x, dx, r, c, t, rfl, _⟩ := h; rfl) (fun cdv A outer s H vs Q E hr h => ?_)
  obtain ⟨x, dx, r, c, t, rfl, hx, r0, r1, c0, c1, t0, t1, q⟩ := h
  refine ⟨_, (Pr.h (qpss_cons (qps_loop PassesOwn.never rfl (qpi_tup (qpe_tup (qpa_cons (qpe_tup (qpa_cons (qpe_var (i := 1) rfl v10m0_1 d10m0_1 c10m0_1) (qpa_cons qpe_int qpa_nil se_Constant) se_Name)) (qpa_cons (qpe_tup (qpa_cons (qpe_var (i := 2) rfl v10m0_2 d10m0_2 c10m0_2) (qpa_cons qpe_int qpa_nil se_Constant) se_Name)) (qpa_cons (qpe_tup (qpa_cons (qpe_var (i := 3) rfl v10m0_3 d10m0_3 c10m0_3) (qpa_cons qpe_int qpa_nil se_Constant) se_Name)) qpa_nil se_Tuple) se_Tuple) se_Tuple))) (qpg_tup rfl (qpgs_cons (qpg_name (i := 4) nd rfl l10m0_4) (qpgs_cons (qpg_name (i := 5) nd rfl l10m0_5) qpgs_nil)))
  (qpss_one (qps_if (qPW_pt (qpw_or (qpt_not (qpt_val (qpe_callD Dis_whole hr g10m0_is_whole pass0 (qpa_cons (qpe_var (i := 4) rfl v10m0_4 d10m0_4 c10m0_4) qpa_nil se_Name) gd_is_whole))) (qpw_or1 (qpt_not (qpt_chain op_le op_le qpe_int (qpe_var (i := 4) rfl v10m0_4 d10m0_4 c10m0_4) (qpe_var (i := 5) rfl v10m0_5 d10m0_5 c10m0_5))))))
  (qpss_one qps_never)
  qpss_nil)))
 (qpss_cons (qps_fld (qpe_var (i := 0) rfl v10m0_0 d10m0_0 c10m0_0) (qpe_var (i := 1) rfl v10m0_1 d10m0_1 c10m0_1) rfl)
 (qpss_cons (qps_fld (qpe_var (i := 0) rfl v10m0_0 d10m0_0 c10m0_0) (qpe_var (i := 2) rfl v10m0_2 d10m0_2 c10m0_2) rfl)
 (qpss_one (qps_fld (qpe_var (i := 0) rfl v10m0_0 d10m0_0 c10m0_0) (qpe_var (i := 3) rfl v10m0_3 d10m0_3 c10m0_3) rfl)))))), ?_⟩
  (try dsimp only [cxOf])
  walk_at "rd"
  rename_i a1 h1 a2 h2 a3 h3 a4 h4
  obtain ⟨H4, e4⟩ : ∃ H4, upd (upd (upd (upd H a1 (.tup [.int r, .int 10])) a2 (.tup [.int c, .int 10])) a3 (.tup [.int t, .int 8])) a4 (.tup [.ref a1, .ref a2, .ref a3]) = H4 := ⟨_, rfl⟩
  have ch4 : Ch [] H H4 := by rw [← e4]; exact (((Ch.new h1 _).trans (Ch.new h2 _)).trans (Ch.new h3 _)).trans (Ch.new h4 _)
  have g4 : H4 a4 = some (.tup [.ref a1, .ref a2, .ref a3]) := by rw [← e4]; exact upd_same
  have g3 : H4 a3 = some (.tup [.int t, .int 8]) := by rw [← e4]; exact g_new h4 upd_same
  have g2 : H4 a2 = some (.tup [.int c, .int 10]) := by rw [← e4]; exact g_new h4 (g_new h3 upd_same)
  have g1 : H4 a1 = some (.tup [.int r, .int 10]) := by rw [← e4]; exact g_new h4 (g_new h3 (g_new h2 upd_same))
  rw [e4]
  clear e4 h1 h2 h3 h4
  refine loop_tup (xs := [.ref a1, .ref a2, .ref a3]) (fun i σ H' => H' = H4 ∧ ∃ u v, σ = [some (.ref x), some (.int r), some (.int c), some (.int t), u, v]) ⟨rfl, _, _, rfl⟩ ?_ ?_ ?_
  · rintro i σ H' hi ⟨rfl, _⟩
    exact SqT.of g4
  · rintro i z σ H' hz ⟨rfl, u, v, rfl⟩
    obtain ⟨b, sz, m, hb, hm0, hm1, rfl⟩ : ∃ (b : Addr) (sz m : Int), H' b = some (.tup [.int sz, .int m]) ∧ 1 ≤ sz ∧ sz ≤ m ∧ z = .ref b := by
      have hi : i < 3 := (List.getElem?_eq_some_iff.mp hz).1
      have : i = 0 ∨ i = 1 ∨ i = 2 := by omega
      rcases this with rfl | rfl | rfl
      · cases hz; exact ⟨a1, r, 10, g1, r0, r1, rfl⟩
      · cases hz; exact ⟨a2, c, 10, g2, c0, c1, rfl⟩
      · cases hz; exact ⟨a3, t, 8, g3, t0, t1, rfl⟩
    walk_at "rd"
    refine iteD hm0 ?_
    walk_at "rd"
    rw [decide_eq_true hm1]
    exact iteF ⟨rfl, _, _, rfl⟩
  · rintro σ H' ⟨rfl, u, v, rfl⟩
    have hx4 : H' x = some (.ins C dx []) := ch4.get hx (by simp)
    walk_at "rd"
    exact q dx _ (ch4.wk.trans (Ch.put.trans (Ch.put.trans Ch.put))) (by rw [upd_same]; rfl)
end
end

section
section
variable {P : Program} {w : World} {K : PySem.W.Frag} {mg : Str → Option Value} {base : Heap} {f : Addr} {fd : FuncData} {k : Nat}
theorem v21_0 : Vs (defScope (top 21)) "_law_box" := by decide +kernel
theorem d21_0 : Nd "_law_box" := by decide +kernel
theorem c21_0 : Nc "_law_box" := by decide +kernel
theorem l21_4 : Lc (defScope (top 21)) "_law_column" := by decide +kernel
theorem l21_3 : Lc (defScope (top 21)) "_law_row" := by decide +kernel
theorem v21_1 : Vs (defScope (top 21)) "_law_side_here" := by decide +kernel
theorem d21_1 : Nd "_law_side_here" := by decide +kernel
theorem c21_1 : Nc "_law_side_here" := by decide +kernel
theorem v21_2 : Vs (defScope (top 21)) "_law_track" := by decide +kernel
theorem d21_2 : Nd "_law_track" := by decide +kernel
theorem c21_2 : Nc "_law_track" := by decide +kernel
theorem v21_4 : Vs (defScope (top 21)) "_law_column" := by decide +kernel
theorem d21_4 : Nd "_law_column" := by decide +kernel
theorem c21_4 : Nc "_law_column" := by decide +kernel
theorem v21_3 : Vs (defScope (top 21)) "_law_row" := by decide +kernel
theorem d21_3 : Nd "_law_row" := by decide +kernel
theorem c21_3 : Nc "_law_row" := by decide +kernel
def spLSide : Sp := fun vs H Q _ => ∃ (bx : Addr) (x y sd tr : Int), vs = [.ref bx, .int sd, .int tr] ∧ H bx = some (.tup [.int x, .int y]) ∧ 0 ≤ sd ∧ sd < 4 ∧ ∀ p H', Ch [] H H' → H p = none → H' p = some (.tup ((wK (sideW x y sd tr)).map kV)) → Q (.ref p) H'
theorem scLSide : FnScope ["_law_box", "_law_side_here", "_law_track", "_law_row", "_law_column"] ["_law_box", "_law_side_here", "_law_track"] (defScope (top 21)) := ⟨rfl, rfl, rfl, by decide +kernel, rfl, by decide +kernel, by decide +kernel⟩
theorem ok_lside (F : Fun K "_law_side" "_law_side" (top 21) f fd) : FnOk P w K mg base CX0 (k + 1) f fd ["_law_box", "_law_side_here", "_law_track"] spLSide := by
  have nd := scLSide.nd
  refine F.ok scLSide (fun vs H Q E h => by obtain ⟨bx, x, y, sd, tr, rfl, _⟩ := h; rfl) (fun cdv A outer s H vs Q E hr h => ?_)
  obtain ⟨bx, x, y, sd, tr, rfl, hb, s0, s1, q⟩ := h
  refine ⟨_, (Pr.h (qpss_cons (qps_asg (qpe_var (i := 0) rfl v21_0 d21_0 c21_0) (qpg_tup rfl (qpgs_cons (qpg_name (i := 3) nd rfl l21_3) (qpgs_cons (qpg_name (i := 4) nd rfl l21_4) qpgs_nil))))
 (qpss_cons (qps_if (qpt_cmpR op_lt (qpe_var (i := 1) rfl v21_1 d21_1 c21_1) qpe_int (nomark _))
  (qpss_one (qps_ret (qpe_tup (qpa_cons qpe_str (qpa_cons (qpe_var (i := 3) rfl v21_3 d21_3 c21_3) (qpa_cons (qpe_op op_add (qpe_op op_sub (qpe_var (i := 4) rfl v21_4 d21_4 c21_4) qpe_int) (qpe_var (i := 1) rfl v21_1 d21_1 c21_1)) (qpa_cons (qpe_var (i := 2) rfl v21_2 d21_2 c21_2) qpa_nil se_Name) se_BinOp) se_Name) se_Constant))))
  qpss_nil)
 (qpss_one (qps_ret (qpe_tup (qpa_cons qpe_str (qpa_cons (qpe_op op_add (qpe_op op_sub (qpe_var (i := 3) rfl v21_3 d21_3 c21_3) qpe_int) (qpe_var (i := 1) rfl v21_1 d21_1 c21_1)) (qpa_cons (qpe_var (i := 4) rfl v21_4 d21_4 c21_4) (qpa_cons (qpe_var (i := 2) rfl v21_2 d21_2 c21_2) qpa_nil se_Name) se_Name) se_BinOp) se_Constant))))))), ?_⟩
  (try dsimp only [cxOf])
  walk_at "rd"
  refine ite2 (fun hc => ?_) (fun hc => ?_)
  · have hc : sd < 2 := by simpa using hc
    walk_at "rd"
    rename_i p hp
    refine q p _ (Ch.new hp _) hp ?_
    rw [upd_same]
    have : sd = 0 ∨ sd = 1 := by omega
    rcases this with rfl | rfl
    · show some (HO.tup [.str "h", .int x, .int (y - 1 + 0), .int tr]) = some (HO.tup [.str "h", .int x, .int (y - 1), .int tr])
      rw [Int.add_zero]
    · show some (HO.tup [.str "h", .int x, .int (y - 1 + 1), .int tr]) = some (HO.tup [.str "h", .int x, .int y, .int tr])
      rw [show y - 1 + 1 = y from by omega]
  · have hc : ¬ sd < 2 := by simpa using hc
    walk_at "rd"
    rename_i p hp
    refine q p _ (Ch.new hp _) hp ?_
    rw [upd_same]
    have : sd = 2 ∨ sd = 3 := by omega
    rcases this with rfl | rfl
    · show some (HO.tup [.str "v", .int (x - 3 + 2), .int y, .int tr]) = some (HO.tup [.str "v", .int (x - 1), .int y, .int tr])
      rw [show x - 3 + 2 = x - 1 from by omega]
    · show some (HO.tup [.str "v", .int (x - 3 + 3), .int y, .int tr]) = some (HO.tup [.str "v", .int x, .int y, .int tr])
      rw [show x - 3 + 3 = x from by omega]
end
end

section
def spNext (K : PySem.W.Frag) : Sp := fun vs H Q _ => ∃ (a b : Addr) (ns : List Int) (c : Int), vs = [.ref a, .ref b] ∧ Scr K H a ns ∧ H b = some (.lst [.int c]) ∧ 0 ≤ c ∧ c < 2 ^ 60 ∧
  ∀ (n : Int) (H' : Hp), 0 ≤ n → n < 2147483629 → Ch [b] H H' → H' b = some (.lst [.int (c + 1)]) → Q (.int n) H'
section
variable {P : Program} {w : World} {K : PySem.W.Frag} {mg : Str → Option Value} {base : Heap} {f : Addr} {fd : FuncData} {k : Nat}
theorem v19_1 : Vs (defScope (top 19)) "_law_at" := by decide +kernel
theorem d19_1 : Nd "_law_at" := by decide +kernel
theorem c19_1 : Nc "_law_at" := by decide +kernel
theorem l19_2 : Lc (defScope (top 19)) "_law_cell" := by decide +kernel
theorem g19_len : Gi (defScope (top 19)) "len" := by decide +kernel
theorem v19_0 : Vs (defScope (top 19)) "_law_script" := by decide +kernel
theorem d19_0 : Nd "_law_script" := by decide +kernel
theorem c19_0 : Nc "_law_script" := by decide +kernel
theorem l19_3 : Lc (defScope (top 19)) "_law_figures" := by decide +kernel
theorem v19_2 : Vs (defScope (top 19)) "_law_cell" := by decide +kernel
theorem d19_2 : Nd "_law_cell" := by decide +kernel
theorem c19_2 : Nc "_law_cell" := by decide +kernel
theorem g19_range : Gi (defScope (top 19)) "range" := by decide +kernel
theorem l19_4 : Lc (defScope (top 19)) "_law_k" := by decide +kernel
theorem v19_3 : Vs (defScope (top 19)) "_law_figures" := by decide +kernel
theorem d19_3 : Nd "_law_figures" := by decide +kernel
theorem c19_3 : Nc "_law_figures" := by decide +kernel
theorem l19_5 : Lc (defScope (top 19)) "_law_m" := by decide +kernel
theorem v19_5 : Vs (defScope (top 19)) "_law_m" := by decide +kernel
theorem d19_5 : Nd "_law_m" := by decide +kernel
theorem c19_5 : Nc "_law_m" := by decide +kernel
theorem scNext : FnScope ["_law_script", "_law_at", "_law_cell", "_law_figures", "_law_k", "_law_m"] ["_law_script", "_law_at"] (defScope (top 19)) := ⟨rfl, rfl, rfl, by decide +kernel, rfl, by decide +kernel, by decide +kernel⟩
theorem ok_next (F : Fun K "_law_next" "_law_next" (top 19) f fd) (z_len : mg "len" = none) (z_range : mg "range" = none) :
    FnOk P w K mg base CX0 (k + 1) f fd ["_law_script", "_law_at"] (spNext K) := by
  have nd := scNext.nd
  refine F.ok scNext (fun vs H Q E h => ?_) (fun cdv A outer s H vs Q E hr h => ?_)
  · obtain ⟨a, b, ns, c, rfl, _⟩ := h
    rfl
  obtain ⟨a, b, ns, c, rfl, hS, hb, h0, h1, q⟩ := h
  refine ⟨_, (Pr.h (qpss_cons (qps_asg (qpe_op op_add (qpe_ix ixa_list (qpe_var (i := 1) rfl v19_1 d19_1 c19_1) qpe_int (fun _ _ => rfl)) qpe_int) (qpg_sub (qpe_var (i := 1) rfl v19_1 d19_1 c19_1) qpe_int set_list))
 (qpss_cons (qps_set (i := 2) nd rfl l19_2 qpe_int)
 (qpss_cut (qps_if (qpt_cmpR op_gt (qpe_callB call_len_seq g19_len z_len PySem.boot_len (qpa_cons (qpe_var (i := 0) rfl v19_0 d19_0 c19_0) qpa_nil se_Name) nn_len gd_len) qpe_int (nomark _))
  (qpss_one (qps_set (i := 2) nd rfl l19_2 (qpe_ix ixa_list (qpe_var (i := 0) rfl v19_0 d19_0 c19_0) (qpe_op op_mod (qpe_ix ixa_list (qpe_var (i := 1) rfl v19_1 d19_1 c19_1) qpe_int (fun _ _ => rfl)) (qpe_callB call_len_seq g19_len z_len PySem.boot_len (qpa_cons (qpe_var (i := 0) rfl v19_0 d19_0 c19_0) qpa_nil se_Name) nn_len gd_len)) (fun _ _ => rfl))))
  qpss_nil)
 (qpss_cut (qps_if (qPW_pt (qpw_and (qpt_cmpR op_gt (qpe_callB call_len_seq g19_len z_len PySem.boot_len (qpa_cons (qpe_var (i := 0) rfl v19_0 d19_0 c19_0) qpa_nil se_Name) nn_len gd_len) qpe_int (nomark _)) (qpw_and1 (qpt_cmpR op_eq (qpe_op op_mod (qpe_ix ixa_list (qpe_var (i := 0) rfl v19_0 d19_0 c19_0) qpe_int (fun _ _ => rfl)) qpe_int) qpe_int (nomark _)))))
  (qpss_cons (qps_set (i := 3) nd rfl l19_3 (qpe_var (i := 2) rfl v19_2 d19_2 c19_2))
 (qpss_cons (qps_loop PassesOwn.never rfl (qpi_range1 g19_range z_range (qpa_cons (qpe_op op_mod (qpe_op op_fdivW (qpe_ix ixa_list (qpe_var (i := 1) rfl v19_1 d19_1 c19_1) qpe_int (fun _ _ => rfl)) (qpe_callB call_len_seq g19_len z_len PySem.boot_len (qpa_cons (qpe_var (i := 0) rfl v19_0 d19_0 c19_0) qpa_nil se_Name) nn_len gd_len)) qpe_int) qpa_nil se_BinOp)) (qpg_name (i := 4) nd rfl l19_4)
  (qpss_one (qps_set (i := 3) nd rfl l19_3 (qpe_op op_fdivW (qpe_var (i := 3) rfl v19_3 d19_3 c19_3) qpe_int))))
 (qpss_one (qps_if (qPW_pt (qpw_or (qpt_cmpR op_notIn_seq (qpe_var (i := 3) rfl v19_3 d19_3 c19_3) (qpe_tup (qpa_cons qpe_int (qpa_cons (qpe_un un_neg qpe_int) qpa_nil se_UnaryOp) se_Constant)) rfl) (qpw_or1 (qpt_cmpR op_lt (qpe_ix ixa_list (qpe_var (i := 1) rfl v19_1 d19_1 c19_1) qpe_int (fun _ _ => rfl)) (qpe_callB call_len_seq g19_len z_len PySem.boot_len (qpa_cons (qpe_var (i := 0) rfl v19_0 d19_0 c19_0) qpa_nil se_Name) nn_len gd_len) (nomark _)))))
  (qpss_one (qps_ret (qpe_op op_mod (qpe_var (i := 3) rfl v19_3 d19_3 c19_3) qpe_int)))
  qpss_nil))))
  qpss_nil)
 (qpss_cons (qps_set (i := 5) nd rfl l19_5 (qpe_op op_mod (qpe_op op_mul (qpe_op op_add (qpe_op op_add (qpe_op op_mod (qpe_var (i := 2) rfl v19_2 d19_2 c19_2) qpe_int) (qpe_op op_mul (qpe_op op_mul (qpe_ix ixa_list (qpe_var (i := 1) rfl v19_1 d19_1 c19_1) qpe_int (fun _ _ => rfl)) (qpe_ix ixa_list (qpe_var (i := 1) rfl v19_1 d19_1 c19_1) qpe_int (fun _ _ => rfl))) qpe_int)) qpe_int) qpe_int) qpe_int))
 (qpss_cons (qps_set (i := 5) nd rfl l19_5 (qpe_op op_mod (qpe_op op_mul (qpe_var (i := 5) rfl v19_5 d19_5 c19_5) (qpe_var (i := 5) rfl v19_5 d19_5 c19_5)) qpe_int))
 (qpss_one (qps_ret (qpe_op op_mod (qpe_op op_mul (qpe_op op_add (qpe_var (i := 5) rfl v19_5 d19_5 c19_5) (qpe_op op_mul (qpe_ix ixa_list (qpe_var (i := 1) rfl v19_1 d19_1 c19_1) qpe_int (fun _ _ => rfl)) qpe_int)) qpe_int) qpe_int)))))))))), ?_⟩
  have h63 : ns.length ≤ 63 := hS.1
  (try dsimp only [cxOf])
  walk_at "rd"
  refine cut_by (fun σ H' => ∃ n : Int, σ = [some (.ref a), some (.ref b), some (.int n), none, none, none] ∧ Ch [b] H H' ∧ H' b = some (.lst [.int (c + 1)])) ?_ ?_
  · walk_at "rd"
    refine ite2 (fun hc => ?_) (fun hc => ?_)
    · have hc' : 0 < (ns.length : Int) := by simpa using hc
      have e1 : 0 ≤ (c + 1) % (ns.length : Int) := Int.emod_nonneg _ (by omega)
      have e2 : (c + 1) % (ns.length : Int) < (ns.length : Int) := Int.emod_lt_of_pos _ hc'
      obtain ⟨n, hn⟩ := atI_ints e1 e2
      walk_at "rd"
    · walk_at "rd"
  · rintro σ H1 ⟨n, rfl, c1, b1⟩
    have hS1 : Scr K H1 a ns := hS.ch hb c1
    refine cut_by (fun σ H' => ∃ u v w, σ = [some (.ref a), some (.ref b), some (.int n), u, v, w] ∧ Ch [b] H H' ∧ H' b = some (.lst [.int (c + 1)])) ?_ ?_
    · walk_at "rd"
      refine ite2 (fun hc => ?_) (fun hc => iteF ?_)
      · have hc' : 0 < (ns.length : Int) := by simpa using hc
        obtain ⟨n0, hn0⟩ := atI_ints (ns := ns) (i := 0) (by omega) hc'
        walk_at "rd"
        refine ite2 (fun hd => ?_) (fun hd => ?_)
        · walk_at "rd"
          refine loop_range (fun i σ H' => H' = H1 ∧ ∃ g kk, σ = [some (.ref a), some (.ref b), some (.int n), some (.int g), kk, none]) ⟨rfl, _, _, rfl⟩ ?_ ?_
          · rintro i σ H' hi ⟨rfl, g, kk, rfl⟩
            walk_at "rd"
          · rintro σ H' ⟨rfl, g, kk, rfl⟩
            walk_at "rd"
            refine ite2 (fun hd => iteT ?_) (fun hd => ?_)
            · walk_at "rd"
              exact q _ _ (Int.emod_nonneg _ (by decide)) (Int.lt_of_lt_of_le (Int.emod_lt_of_pos _ (by decide)) (by decide)) (c1.trans (Ch.new (by assumption) _)) (by walk_at "get")
            · walk_at "rd"
              refine ite2 (fun he => ?_) (fun he => ?_)
              · walk_at "rd"
                exact q _ _ (Int.emod_nonneg _ (by decide)) (Int.lt_of_lt_of_le (Int.emod_lt_of_pos _ (by decide)) (by decide)) (c1.trans (Ch.new (by assumption) _)) (by walk_at "get")
              · walk_at "rd"
        · walk_at "rd"
      · walk_at "rd"
    · rintro σ H2 ⟨u, v, w, rfl, c2, b2⟩
      walk_at "rd"
      exact q _ _ (Int.emod_nonneg _ (by decide)) (Int.emod_lt_of_pos _ (by decide)) c2 b2
end
end

section
structure Wires (H : Hp) (n : Nat) (ys : List V) : Prop where
  ex : ∃ (ws : List Wr) (ps : List Addr), ys = ps.map V.ref ∧ WsAt H ws ps ∧ ws.length = n ∧ ∀ w ∈ ws, ∃ v, w = wK v
theorem Wires.len {H : Hp} {n : Nat} {ys : List V} (s : Wires H n ys) : ys.length = n := by
  obtain ⟨ws, ps, rfl, a, b, _⟩ := s.ex
  rw [List.length_map, ← Paired.length a, b]
theorem Wires.ch {H H' : Hp} {n : Nat} {ys : List V} (s : Wires H n ys) (c : Ch [] H H') : Wires H' n ys := by
  obtain ⟨ws, ps, e, a, b, d⟩ := s.ex
  exact ⟨ws, ps, e, a.imp fun p xs h => c.get h (by simp), b, d⟩
theorem Wires.put {H : Hp} {n : Nat} {ys xs zs : List V} {q : Addr} (s : Wires H n ys) (hq : H q = some (.lst xs)) : Wires (upd H q (.lst zs)) n ys := by
  obtain ⟨ws, ps, e, a, b, d⟩ := s.ex
  exact ⟨ws, ps, e, a.imp fun p us h => by rw [upd_ne (ne_of h hq (by intro z; cases z))]; exact h, b, d⟩
theorem ws_app {H : Hp} : ∀ {ws ws' : List Wr} {ps ps' : List Addr}, WsAt H ws ps → WsAt H ws' ps' → WsAt H (ws ++ ws') (ps ++ ps')
  | _, _, _, _, .nil, b => b
  | _, _, _, _, .cons h t, b => .cons h (ws_app t b)
theorem Wires.app {H : Hp} {n m : Nat} {ys zs : List V} (s : Wires H n ys) (t : Wires H m zs) : Wires H (n + m) (ys ++ zs) := by
  obtain ⟨ws, ps, rfl, a, b, d⟩ := s.ex
  obtain ⟨ws', ps', rfl, a', b', d'⟩ := t.ex
  exact ⟨ws ++ ws', ps ++ ps', by simp, ws_app a a', by simp [b, b'], fun w hw => (List.mem_append.mp hw).elim (d w) (d' w)⟩
theorem Wires.one {H : Hp} {p : Addr} {v : Bool × Int × Int × Int} (h : H p = some (.tup ((wK v).map kV))) : Wires H 1 [.ref p] := by
  refine ⟨[wK v], [p], rfl, ?_, rfl, fun w hw => ⟨v, by simpa using hw⟩⟩
  refine .cons ?_ .nil
  exact h
theorem Wires.nil {H : Hp} : Wires H 0 [] := ⟨[], [], rfl, .nil, rfl, by simp⟩
section
variable {P : Program} {w : World} {K : PySem.W.Frag} {mg : Str → Option Value} {base : Heap} {f : Addr} {fd : FuncData} {k : Nat}
theorem gd__law_side : Nd "_law_side" := by decide +kernel
theorem l22_2 : Lc (defScope (top 22)) "_law_wires" := by decide +kernel
theorem g22_range : Gi (defScope (top 22)) "range" := by decide +kernel
theorem l22_3 : Lc (defScope (top 22)) "_law_side_here" := by decide +kernel
theorem v22_2 : Vs (defScope (top 22)) "_law_wires" := by decide +kernel
theorem d22_2 : Nd "_law_wires" := by decide +kernel
theorem c22_2 : Nc "_law_wires" := by decide +kernel
theorem v22_0 : Vs (defScope (top 22)) "_law_floor" := by decide +kernel
theorem d22_0 : Nd "_law_floor" := by decide +kernel
theorem c22_0 : Nc "_law_floor" := by decide +kernel
def csc22_0 : Scope := { kind := PySem.ScopeKind.function, names := [ (PySem.Str.ofString ".0", PySem.NameKind.local), (PySem.Str.ofString "_law_track", PySem.NameKind.local), (PySem.Str.ofString "_law_side", PySem.NameKind.globalImplicit), (PySem.Str.ofString "_law_box", PySem.NameKind.free), (PySem.Str.ofString "_law_side_here", PySem.NameKind.free)], isGenerator := false, isCoroutine := false, more := [] : PySem.Scope }
theorem cok22_0 : CompOk csc22_0 (defScope (top 22)) (["_law_track"] : List Str) (["_law_floor", "_law_box", "_law_wires", "_law_side_here"] : List Str) [1, 3] (["_law_track", "_law_box", "_law_side_here"] : List Str) := compOk rfl (by decide +kernel) (by decide +kernel) (by decide +kernel) (by decide +kernel) rfl (by decide +kernel)
theorem kq22_0_0 : (relab csc22_0 (defScope (top 22))).names.lookup (Str.ofString "_law_track") = some NameKind.local := by decide +kernel
theorem gq22_0__law_side : Gi (relab csc22_0 (defScope (top 22))) "_law_side" := by decide +kernel
theorem vq22_0_0 : Vs (relab csc22_0 (defScope (top 22))) "_law_track" := by decide +kernel
theorem dq22_0_0 : Nd "_law_track" := by decide +kernel
theorem cq22_0_0 : Nc "_law_track" := by decide +kernel
theorem vq22_0_2 : Vs (relab csc22_0 (defScope (top 22))) "_law_side_here" := by decide +kernel
theorem dq22_0_2 : Nd "_law_side_here" := by decide +kernel
theorem cq22_0_2 : Nc "_law_side_here" := by decide +kernel
theorem vq22_0_1 : Vs (relab csc22_0 (defScope (top 22))) "_law_box" := by decide +kernel
theorem dq22_0_1 : Nd "_law_box" := by decide +kernel
theorem cq22_0_1 : Nc "_law_box" := by decide +kernel
def spLBox : Sp := fun vs H Q _ => ∃ (fa bx : Addr) (r c x y : Int) (t : Nat), vs = [.ref fa, .ref bx] ∧ H fa = some (.lst [.int r, .int c, .int (t : Int)]) ∧ H bx = some (.tup [.int x, .int y]) ∧ t ≤ 10 ∧ ∀ p ys H', Ch [] H H' → H p = none → H' p = some (.lst ys) → Wires H' (4 * t) ys → Q (.ref p) H'
theorem scLBox : FnScope ["_law_floor", "_law_box", "_law_wires", "_law_side_here"] ["_law_floor", "_law_box"] (defScope (top 22)) := ⟨rfl, rfl, rfl, by decide +kernel, rfl, by decide +kernel, by decide +kernel⟩
theorem ok_lbox (F : Fun K "_law_box_wires" "_law_box_wires" (top 22) f fd) (D_law_side : DefOk P w K mg base CX0 k "_law_side" ["_law_box", "_law_side_here", "_law_track"] spLSide) (z_range : mg "range" = none) : FnOk P w K mg base CX0 (k + 1) f fd ["_law_floor", "_law_box"] spLBox := by
  have nd := scLBox.nd
  refine F.ok scLBox (fun vs H Q E h => by obtain ⟨fa, bx, r, c, x, y, t, rfl, _⟩ := h; rfl) (fun cdv A outer s H vs Q E hr h => ?_)
  obtain ⟨fa, bx, r, c, x, y, t, rfl, hf, hb, ht, q⟩ := h
  refine ⟨_, (Pr.h (qpss_cons (qps_set (i := 2) nd rfl l22_2 (qpe_lst qpa_nil))
 (qpss_cons (qps_loop PassesOwn.never rfl (qpi_range1 g22_range z_range (qpa_cons qpe_int qpa_nil se_Constant)) (qpg_name (i := 3) nd rfl l22_3)
  (qpss_one (qps_expr (qpe_bm PySem.F.plainAttrs_list PySem.F.slot_list_extend PySem.F.type_list_extend mt_extend (qpe_var (i := 2) rfl v22_2 d22_2 c22_2) (qpa_cons (qpe_comp rfl cok22_0 (qpi_range1 g22_range z_range (qpa_cons (qpe_ix ixa_list (qpe_var (i := 0) rfl v22_0 d22_0 c22_0) qpe_int (fun _ _ => rfl)) qpa_nil se_Subscript)) (fun _ _ _ _ _ => (qpg_name (i := 0) cok22_0.nd rfl (Or.inl kq22_0_0) (Or.inr kq22_0_0))) (fun _ _ _ _ _ => qpif_nil) (fun _ _ _ _ _ => (qpe_callD D_law_side hr gq22_0__law_side pass0 (qpa_cons (qpe_var (i := 1) rfl vq22_0_1 dq22_0_1 cq22_0_1) (qpa_cons (qpe_var (i := 2) rfl vq22_0_2 dq22_0_2 cq22_0_2) (qpa_cons (qpe_var (i := 0) rfl vq22_0_0 dq22_0_0 cq22_0_0) qpa_nil se_Name) se_Name) se_Name) gd__law_side))) qpa_nil se_ListComp)))))
 (qpss_one (qps_ret (qpe_var (i := 2) rfl v22_2 d22_2 c22_2)))))), ?_⟩
  (try dsimp only [cxOf])
  walk_at "rd"
  rename_i wl hwl
  refine loop_range (fun i σ H' => ∃ u ys, σ = [some (.ref fa), some (.ref bx), some (.ref wl), u] ∧ Ch [] H H' ∧ H' wl = some (.lst ys) ∧ Wires H' (i * t) ys) ⟨_, _, rfl, Ch.new hwl _, upd_same, by rw [Nat.zero_mul]; exact .nil⟩ ?_ ?_
  · rintro i σ H' hi ⟨u, ys, rfl, c1, gw, wi⟩
    have hi4 : i < 4 := hi
    have lw := wi.len
    have lb : i * t ≤ 40 := Nat.mul_le_mul (show i ≤ 4 by omega) ht
    have hf1 : H' fa = some (.lst [.int r, .int c, .int (t : Int)]) := c1.get hf (by simp)
    have hb1 : H' bx = some (.tup [.int x, .int y]) := c1.get hb (by simp)
    walk_at "rd"
    refine comp_range (fun m zs σ H'' => Ch [] H' H'' ∧ Wires H'' m zs ∧ ∃ u, σ = [u, some (.ref bx), some (.int (0 + (i : Int)))]) (by rw [sizeLine_eq]; omega) ⟨Ch.refl _ _, .nil, _, rfl⟩ ?_ ?_ ?_
    · rintro m zs σ H'' hm ⟨_, wz, _⟩
      rw [wz.len]; exact Nat.le_refl _
    · rintro m zs σ H'' hm ⟨c2, wz, u2, rfl⟩
      have hb2 : H'' bx = some (.tup [.int x, .int y]) := c2.get hb1 (by simp)
      walk_at "rd"
      rename_i p H3 c3 f3 g3
      exact ⟨(wz.ch c3).app (.one g3), _, rfl⟩
    · rintro zs σ H'' ⟨c2, wz, u2, rfl⟩
      intro D hD
      have lz := wz.len
      have gw2 : (upd H'' D (.lst zs)) wl = some (.lst ys) := g_new hD (c2.get gw (by simp))
      have gD : (upd H'' D (.lst zs)) D = some (.lst zs) := upd_same
      have cD : Ch [] H' (upd H'' D (.lst zs)) := c2.trans (Ch.new hD _)
      have lt : ys.length + zs.length ≤ sizeLine := by rw [lw, lz, sizeLine_eq, Int.toNat_natCast]; omega
      walk_at "rd"
      rw [show (i + 1) * t = i * t + t from by rw [Nat.add_mul, Nat.one_mul]]
      have wz2 : Wires H'' t zs := by rw [show t = Int.toNat (t : Int) from by simp]; exact wz
      exact ((wi.ch cD).put gw2).app ((wz2.ch (Ch.new hD _)).put gw2)
  · rintro σ H' ⟨u, ys, rfl, c1, gw, wi⟩
    walk_at "rd"
    exact q wl ys _ c1 hwl gw wi
end
end

section
local macro_rules | `(tactic| walk_at "user") => `(tactic| first
  | (apply Exists.intro; apply Sq.ofO; walk_at "get")
  | (apply isD_t; walk_at "get")
  | (apply dget_some; (focus walk_at "get"); (focus walk_at "get"); (focus with_reducible assumption))
  | (apply dget_none; (focus walk_at "get"); (focus walk_at "get"); (focus with_reducible assumption))
  | (apply DPut.t; (focus walk_at "get"); (focus walk_at "get"); (focus with_reducible assumption)))
theorem rch_shape {js : List Jn} {ds : List Wr} (hd : ∀ w ∈ ds, ∃ v, w = wK v) {x : Wr} (h : Rch (js.map Jn.e) ds x) : x.map Sum.isLeft = [false, true, true, true] := by
  have := rch_ends h
  unfold ends at this
  rcases List.mem_append.mp this with z | z
  · obtain ⟨v, rfl⟩ := hd x z; rfl
  · rcases List.mem_append.mp z with z | z
    · rw [List.map_map] at z
      obtain ⟨j, _, rfl⟩ := List.mem_map.mp z; rfl
    · rw [List.map_map] at z
      obtain ⟨j, _, rfl⟩ := List.mem_map.mp z; rfl
theorem ws_get {H : Hp} : ∀ {ws : List Wr} {ps : List Addr}, WsAt H ws ps → ∀ (i : Nat) (x : V), (ps.map V.ref)[i]? = some x → ∃ p k, x = .ref p ∧ ws[i]? = some k ∧ H p = some (.tup (k.map kV))
  | _, _, .nil, i, x, h => by simp at h
  | k :: ws, p :: ps, .cons a t, 0, x, h => ⟨p, k, by simpa using h.symm, rfl, a⟩
  | k :: ws, p :: ps, .cons a t, i + 1, x, h => by
    obtain ⟨p', k', e1, e2, e3⟩ := ws_get t i x (by simpa using h)
    exact ⟨p', k', e1, by simpa using e2, e3⟩
theorem ws_put {H : Hp} {ws : List Wr} {ps : List Addr} {a : Addr} {o o' : HO} (h : WsAt H ws ps) (ha : H a = some o) (n : ∀ xs, o ≠ .tup xs) : WsAt (upd H a o') ws ps := h.imp fun p xs e => by rw [upd_ne (fun z => n xs (by rw [z, ha] at e; exact Option.some.inj e))]; exact e
structure CS (E : List (Wr × Wr)) (ds : List Wr) (Hb H' : Hp) (cd : Addr) (kvs : List (List Key × V)) (wait : List Wr) : Prop where
  ch : Ch [] Hb H'
  cd : H' cd = some (.dT kvs)
  sk : Seek E ds (kvs.map (·.1)) wait
structure LW (H' : Hp) (a : Addr) (ws : List Wr) (ps : List Addr) : Prop where
  at_ : H' a = some (.lst (ps.map V.ref))
  ws : WsAt H' ws ps
theorem seek_new {E : List (Wr × Wr)} {ds : List Wr} {kvs : List (List Key × V)} {x : Wr} {rest fws ns : List Wr} (v : V) (s : Seek E ds (kvs.map (·.1)) (x :: rest ++ fws)) (hv : valV kvs x = none) (hn : ∀ y, y ∈ ns ↔ Bes E x y) : Seek E ds ((putK kvs x v).map (·.1)) (rest ++ (fws ++ ns)) := by
  rw [putK_new v hv, List.map_append]
  have rx : Rch E ds x := s.wr x (by simp)
  refine s.find (valV_not hv) rx (fun y hy => ?_) (fun y hy => ?_) (fun y hb => ?_)
  · rcases List.mem_append.mp hy with h | h
    · rcases List.mem_cons.mp h with h | h
      · exact .inl h
      · exact .inr (List.mem_append_left _ h)
    · exact .inr (List.mem_append_right _ (List.mem_append_left _ h))
  · rcases List.mem_append.mp hy with h | h
    · exact s.wr y (by simp [h])
    · rcases List.mem_append.mp h with h | h
      · exact s.wr y (by simp [h])
      · exact .step rx ((hn y).mp h)
  · exact List.mem_append_right _ (List.mem_append_right _ ((hn y).mpr hb))
theorem seek_old {E : List (Wr × Wr)} {ds : List Wr} {kvs : List (List Key × V)} {x : Wr} {rest fws : List Wr} {v : V} (s : Seek E ds (kvs.map (·.1)) (x :: rest ++ fws)) (hv : valV kvs x = some v) : Seek E ds (kvs.map (·.1)) (rest ++ fws) := by
  refine s.drop (valV_in hv) (fun y hy => ?_) (fun y hy => s.wr y (by simp at hy ⊢; exact .inr hy))
  simp at hy ⊢
  exact hy
theorem few {E : List (Wr × Wr)} {ds : List Wr} {kvs : List (List Key × V)} {wait : List Wr} (s : Seek E ds (kvs.map (·.1)) wait) : kvs.length ≤ ds.length + 2 * E.length := by
  have := rch_few s.nd s.fr
  rwa [List.length_map] at this
theorem put_len {kvs : List (List Key × V)} {x : Wr} (v : V) (hv : valV kvs x = none) : (putK kvs x v).length = kvs.length + 1 := by rw [putK_new v hv, List.length_append]; rfl
theorem nbr_all (E : List (Wr × Wr)) (x y : Wr) : y ∈ nbr (E.foldl add2 []) x ↔ Bes E x y := by
  rw [nbr_build]
  simp [nbr]
theorem cs_new0 {E : List (Wr × Wr)} {ds : List Wr} {Hb H2 : Hp} {cd fa l : Addr} {kvs : List (List Key × V)} {x : Wr} {v : V} {rest fws ns : List Wr} {fps ps : List Addr} (hcd : Hb cd = none) (hfa : Hb fa = none) (cs : CS E ds Hb H2 cd kvs (x :: rest ++ fws)) (l2 : LW H2 fa fws fps)
    (hv : valV kvs x = none) (hn : ∀ y, y ∈ ns ↔ Bes E x y) (hw : WsAt H2 ns ps) (hl : (upd H2 cd (.dT (putK kvs x v))) l = none) :
    CS E ds Hb (upd (upd (upd H2 cd (.dT (putK kvs x v))) l (.lst [])) fa (.lst (fps.map V.ref ++ ps.map V.ref))) cd (putK kvs x v) (rest ++ (fws ++ ns)) ∧
    LW (upd (upd (upd H2 cd (.dT (putK kvs x v))) l (.lst [])) fa (.lst (fps.map V.ref ++ ps.map V.ref))) fa (fws ++ ns) (fps ++ ps) ∧
    ∀ p xs, H2 p = some (.tup xs) → (upd (upd (upd H2 cd (.dT (putK kvs x v))) l (.lst [])) fa (.lst (fps.map V.ref ++ ps.map V.ref))) p = some (.tup xs) := by
  have hl0 : Hb l = none := by
    have := chFree (Ch.own hcd cs.ch (o := .dT (putK kvs x v))) hl
    exact this
  have tu : ∀ p xs, H2 p = some (.tup xs) → (upd (upd (upd H2 cd (.dT (putK kvs x v))) l (.lst [])) fa (.lst (fps.map V.ref ++ ps.map V.ref))) p = some (.tup xs) := fun p xs e =>
    g_put (ne_of e l2.at_ (by intro z; cases z)) (g_new hl (g_put (ne_of e cs.cd (by intro z; cases z)) e))
  exact ⟨⟨Ch.own hfa (Ch.own hl0 (Ch.own hcd cs.ch)), g_put (ne_of cs.cd l2.at_ (by intro z; cases z)) (g_new hl upd_same), seek_new v cs.sk hv hn⟩, ⟨by rw [upd_same, List.map_append], ws_app (l2.ws.imp tu) (hw.imp tu)⟩, tu⟩
theorem cs_new {E : List (Wr × Wr)} {ds : List Wr} {Hb H2 : Hp} {cd fa na l : Addr} {kvs : List (List Key × V)} {x : Wr} {v : V} {rest fws ns nws : List Wr} {fps ps nps : List Addr} (hcd : Hb cd = none) (hfa : Hb fa = none) (cs : CS E ds Hb H2 cd kvs (x :: rest ++ fws)) (l1 : LW H2 na nws nps) (l2 : LW H2 fa fws fps) (nn : na ≠ fa)
    (hv : valV kvs x = none) (hn : ∀ y, y ∈ ns ↔ Bes E x y) (hw : WsAt H2 ns ps) (hl : (upd H2 cd (.dT (putK kvs x v))) l = none) :
    CS E ds Hb (upd (upd (upd H2 cd (.dT (putK kvs x v))) l (.lst [])) fa (.lst (fps.map V.ref ++ ps.map V.ref))) cd (putK kvs x v) (rest ++ (fws ++ ns)) ∧
    LW (upd (upd (upd H2 cd (.dT (putK kvs x v))) l (.lst [])) fa (.lst (fps.map V.ref ++ ps.map V.ref))) na nws nps ∧
    LW (upd (upd (upd H2 cd (.dT (putK kvs x v))) l (.lst [])) fa (.lst (fps.map V.ref ++ ps.map V.ref))) fa (fws ++ ns) (fps ++ ps) :=
  let ⟨a, b, tu⟩ := cs_new0 hcd hfa cs l2 hv hn hw hl
  ⟨a, ⟨g_put nn (g_new hl (g_put (ne_of l1.at_ cs.cd (by intro z; cases z)) l1.at_)), l1.ws.imp tu⟩, b⟩
section
variable {P : Program} {w : World} {K : PySem.W.Frag} {mg : Str → Option Value} {base : Heap} {f : Addr} {fd : FuncData} {k : Nat}
theorem gd_wires_beside : Nd "wires_beside" := by decide +kernel
theorem l16_2 : Lc (defScope (top 16)) "beside" := by decide +kernel
theorem g16_wires_beside : Gi (defScope (top 16)) "wires_beside" := by decide +kernel
theorem v16_1 : Vs (defScope (top 16)) "way" := by decide +kernel
theorem d16_1 : Nd "way" := by decide +kernel
theorem c16_1 : Nc "way" := by decide +kernel
theorem v16_0 : Vs (defScope (top 16)) "floor" := by decide +kernel
theorem d16_0 : Nd "floor" := by decide +kernel
theorem c16_0 : Nc "floor" := by decide +kernel
theorem l16_3 : Lc (defScope (top 16)) "counts" := by decide +kernel
theorem l16_4 : Lc (defScope (top 16)) "nearest" := by decide +kernel
def csc16_0 : Scope := { kind := PySem.ScopeKind.function, names := [ (PySem.Str.ofString ".0", PySem.NameKind.local), (PySem.Str.ofString "wire", PySem.NameKind.local), (PySem.Str.ofString "tuple", PySem.NameKind.globalImplicit)], isGenerator := false, isCoroutine := false, more := [] : PySem.Scope }
theorem cok16_0 : CompOk csc16_0 (defScope (top 16)) (["wire"] : List Str) (["floor", "way", "beside", "counts", "nearest", "count", "further", "wire"] : List Str) [] (["wire"] : List Str) := compOk rfl (by decide +kernel) (by decide +kernel) (by decide +kernel) (by decide +kernel) rfl (by decide +kernel)
theorem kq16_0_0 : (relab csc16_0 (defScope (top 16))).names.lookup (Str.ofString "wire") = some NameKind.local := by decide +kernel
theorem gq16_0_tuple : Gi (relab csc16_0 (defScope (top 16))) "tuple" := by decide +kernel
theorem vq16_0_0 : Vs (relab csc16_0 (defScope (top 16))) "wire" := by decide +kernel
theorem dq16_0_0 : Nd "wire" := by decide +kernel
theorem cq16_0_0 : Nc "wire" := by decide +kernel
theorem l16_5 : Lc (defScope (top 16)) "count" := by decide +kernel
theorem g16_len : Gi (defScope (top 16)) "len" := by decide +kernel
theorem v16_4 : Vs (defScope (top 16)) "nearest" := by decide +kernel
theorem d16_4 : Nd "nearest" := by decide +kernel
theorem c16_4 : Nc "nearest" := by decide +kernel
theorem l16_6 : Lc (defScope (top 16)) "further" := by decide +kernel
theorem l16_7 : Lc (defScope (top 16)) "wire" := by decide +kernel
theorem v16_7 : Vs (defScope (top 16)) "wire" := by decide +kernel
theorem d16_7 : Nd "wire" := by decide +kernel
theorem c16_7 : Nc "wire" := by decide +kernel
theorem v16_3 : Vs (defScope (top 16)) "counts" := by decide +kernel
theorem d16_3 : Nd "counts" := by decide +kernel
theorem c16_3 : Nc "counts" := by decide +kernel
theorem v16_5 : Vs (defScope (top 16)) "count" := by decide +kernel
theorem d16_5 : Nd "count" := by decide +kernel
theorem c16_5 : Nc "count" := by decide +kernel
theorem v16_6 : Vs (defScope (top 16)) "further" := by decide +kernel
theorem d16_6 : Nd "further" := by decide +kernel
theorem c16_6 : Nc "further" := by decide +kernel
theorem v16_2 : Vs (defScope (top 16)) "beside" := by decide +kernel
theorem d16_2 : Nd "beside" := by decide +kernel
theorem c16_2 : Nc "beside" := by decide +kernel
def spCounts (C : Addr) : Sp := fun vs H Q _ => ∃ (kd kj : SK) (fl dx wy da ja za : Addr) (r c t : Int) (js : List Jn) (xs : List V) (ds : List Wr) (dps : List Addr), vs = [.ref fl, .ref wy] ∧ H fl = some (.ins C dx (fldsF r c t)) ∧ H wy = some (.tup [.ref da, .ref ja, .ref za]) ∧ H da = some (sqO kd (dps.map V.ref)) ∧ WsAt H ds dps ∧ SqX kj H ja xs ∧ JsAt H js xs ∧ (∀ j ∈ js, j.ok r c t) ∧ js.length ≤ 12 ∧ ds.length ≤ 3 ∧ (∀ w ∈ ds, ∃ v, w = wK v) ∧
  ∀ cd kvs H', Ch [] H H' → H cd = none → H' cd = some (.dT kvs) → (kvs.map (·.1)).Nodup → (∀ x, x ∈ kvs.map (·.1) ↔ Rch (js.map Jn.e) ds x) → Q (.ref cd) H'
theorem scCounts : FnScope ["floor", "way", "beside", "counts", "nearest", "count", "further", "wire"] ["floor", "way"] (defScope (top 16)) := ⟨rfl, rfl, rfl, by decide +kernel, rfl, by decide +kernel, by decide +kernel⟩
theorem ok_counts {C : Addr} (F : Fun K "wire_counts" "wire_counts" (top 16) f fd) (Dwires_beside : DefOk P w K mg base CX0 k "wires_beside" ["floor", "joins"] (spBes C)) (z_len : mg "len" = none) (z_tuple : mg "tuple" = none) :
    FnOk P w K mg base CX0 (k + 1) f fd ["floor", "way"] (spCounts C) := by
  have nd := scCounts.nd
  refine F.ok scCounts (fun vs H Q E h => by obtain ⟨kd, kj, fl, dx, wy, da, ja, za, r, c, t, js, xs, ds, dps, rfl, _⟩ := h; rfl) (fun cdv A outer s H vs Q E hr h => ?_)
  obtain ⟨kd, kj, fl, dx, wy, da, ja, za, r, c, t, js, xs, ds, dps, rfl, hf, hw, hd, hws, hk, hj, ok, hl, hdl, hdk, q⟩ := h
  have hu := hu_of hr
  have hl100 : js.length ≤ 100 := by omega
  refine ⟨_, (Pr.h (qpss_cons (qps_set (i := 2) nd rfl l16_2 (qpe_callD Dwires_beside hr g16_wires_beside pass0 (qpa_cons (qpe_var (i := 0) rfl v16_0 d16_0 c16_0) (qpa_cons (qpe_ix ixa_tup (qpe_var (i := 1) rfl v16_1 d16_1 c16_1) qpe_int (fun _ _ => rfl)) qpa_nil se_Subscript) se_Name) gd_wires_beside))
 (qpss_cons (qps_set (i := 3) nd rfl l16_3 qpe_dnewT)
 (qpss_cons (qps_setC (i := 4) nd rfl l16_4 rfl cok16_0 (qpi_sqK K rfl kd (qpe_ix ixa_tup (qpe_var (i := 1) rfl v16_1 d16_1 c16_1) qpe_int (fun _ _ => rfl))) (fun _ _ _ _ _ => (qpg_name (i := 0) cok16_0.nd rfl (Or.inl kq16_0_0) (Or.inr kq16_0_0))) (fun _ _ _ _ _ => qpif_nil) (fun _ _ _ _ _ => (qpe_callTy (callK_tuple_of K rfl) gq16_0_tuple z_tuple bo_tuple (qpa_cons (qpe_var (i := 0) rfl vq16_0_0 dq16_0_0 cq16_0_0) qpa_nil se_Name) nn_tuple gd_tuple)) rfl)
 (qpss_cons (qps_set (i := 5) nd rfl l16_5 qpe_int)
 (qpss_cons (qps_while PassesOwn.never (qpt_cmpR op_gt (qpe_callB call_len_seq g16_len z_len PySem.boot_len (qpa_cons (qpe_var (i := 4) rfl v16_4 d16_4 c16_4) qpa_nil se_Name) nn_len gd_len) qpe_int (nomark _))
  (qpss_cons (qps_aug (i := 5) nd rfl l16_5 qpe_int ip_add)
 (qpss_cons (qps_set (i := 6) nd rfl l16_6 (qpe_lst qpa_nil))
 (qpss_cons (qps_loop PassesOwn.never rfl (qpi_list (qpe_var (i := 4) rfl v16_4 d16_4 c16_4)) (qpg_name (i := 7) nd rfl l16_7)
  (qpss_one (qps_if (qpt_dnotin hu (qpe_var (i := 7) rfl v16_7 d16_7 c16_7) (qpe_var (i := 3) rfl v16_3 d16_3 c16_3))
  (qpss_cons (qps_dput hu (qpe_var (i := 3) rfl v16_3 d16_3 c16_3) (qpe_var (i := 7) rfl v16_7 d16_7 c16_7) (qpe_var (i := 5) rfl v16_5 d16_5 c16_5) rfl)
 (qpss_one (qps_expr (qpe_bm PySem.F.plainAttrs_list PySem.F.slot_list_extend PySem.F.type_list_extend mt_extend (qpe_var (i := 6) rfl v16_6 d16_6 c16_6) (qpa_cons (qpe_dget2 hu (qpe_var (i := 2) rfl v16_2 d16_2 c16_2) (qpe_var (i := 7) rfl v16_7 d16_7 c16_7) (qpe_lst qpa_nil) ⟨rfl, rfl, rfl, rfl⟩) qpa_nil se_Call)))))
  qpss_nil)))
 (qpss_one (qps_set (i := 4) nd rfl l16_4 (qpe_var (i := 6) rfl v16_6 d16_6 c16_6)))))))
 (qpss_one (qps_ret (qpe_var (i := 3) rfl v16_3 d16_3 c16_3))))))))), ?_⟩
  (try dsimp only [cxOf])
  walk_at "rd"
  rename_i bd Hb b cd hcd
  have cb := b.ch
  obtain ⟨E, hE⟩ : ∃ E, E = js.map Jn.e := ⟨_, rfl⟩
  have lE : E.length ≤ 12 := by rw [hE, List.length_map]; exact hl
  rw [← hE] at b q
  have cC : Ch [] Hb (upd Hb cd (.dT [])) := Ch.new hcd _
  have nbc : bd ≠ cd := by obtain ⟨_, g, _⟩ := b.ex; exact ne_of_none g hcd
  have e0 := Paired.length hws
  have hw1 : (upd Hb cd (.dT [])) wy = some (.tup [.ref da, .ref ja, .ref za]) := (cb.trans cC).get hw (by simp)
  have hd1 : (upd Hb cd (.dT [])) da = some (sqO kd (dps.map V.ref)) := (cb.trans cC).get hd (by simp)
  walk_at "rd"
  refine comp_sq (dps.map V.ref) (fun i ys σ H' => H' = upd Hb cd (.dT []) ∧ ys = (dps.map V.ref).take i ∧ ∃ u, σ = [u]) (by rw [sizeLine_eq, List.length_map]; omega) ⟨rfl, rfl, _, rfl⟩ ?_ ?_ ?_
  · rintro i ys σ H' hi ⟨rfl, rfl, _⟩
    exact ⟨by rw [List.length_take]; omega, Sq.ofO hd1⟩
  · rintro i ys σ H' z hz ⟨rfl, rfl, u, rfl⟩
    obtain ⟨p, x, rfl, _, hp⟩ := ws_get hws i z hz
    have hp1 : (upd Hb cd (.dT [])) p = some (.tup (x.map kV)) := (cb.trans cC).get hp (by simp)
    walk_at "rd"
    exact ⟨by rw [List.take_add_one, hz]; rfl, _, rfl⟩
  rintro ys σ H' ⟨rfl, rfl, _⟩
  rw [List.take_length]
  intro na hna
  have n0 : Seek E ds [] ds := ⟨List.nodup_nil, by simp, fun x hx => .base hx, fun x hx => .inr hx, by simp⟩
  have cn : cd ≠ na := fun z => by rw [← z, upd_same] at hna; cases hna
  show tWhile _ _ _ _ _
  refine while_at (fun m σ H' => ∃ (na : Addr) (cnt : Int) (u v : Option V) (kvs : List (List Key × V)) (nws : List Wr) (nps : List Addr), σ = [some (.ref fl), some (.ref wy), some (.ref bd), some (.ref cd), some (.ref na), some (.int cnt), u, v] ∧
    CS E ds Hb H' cd kvs nws ∧ LW H' na nws nps ∧ m = 2 * (ds.length + 2 * E.length - kvs.length) + (if nws = [] then 0 else 1))
    ⟨_, na, 0, _, _, [], ds, dps, rfl, ⟨cC.trans (Ch.new hna _), g_new hna upd_same, n0⟩, ⟨upd_same, hws.imp fun p xs e => g_new hna ((cb.trans cC).get e (by simp))⟩, rfl⟩ ?_ ?_
  · rintro m σ H1 ⟨na, cnt, u, v, kvs, nws, nps, rfl, cs, ln, rfl⟩
    have hna1 := ln.at_
    have eln := Paired.length ln.ws
    walk_at "rd"
    refine ite2 (fun hc => ?_) (fun hc => ?_)
    · have hne : nws ≠ [] := by
        rintro rfl
        have : nps = [] := by cases nps with | nil => rfl | cons _ _ => simp at eln
        subst this
        simp at hc
      rw [if_neg hne]
      walk_at "rd"
      rename_i fa hfa
      have fk := few cs.sk
      refine loop_list (xs := nps.map V.ref) (fun i σ H' => ∃ (v : Option V) (kvs' : List (List Key × V)) (fws : List Wr) (fps : List Addr), σ = [some (.ref fl), some (.ref wy), some (.ref bd), some (.ref cd), some (.ref na), some (.int (cnt + 1)), some (.ref fa), v] ∧
        CS E ds Hb H' cd kvs' (nws.drop i ++ fws) ∧ LW H' na nws nps ∧ LW H' fa fws fps ∧ fws.length ≤ kvs'.length * 24 ∧ kvs.length ≤ kvs'.length ∧ (kvs'.length = kvs.length → fws = [])) ?_ ?_ ?_ ?_
      · exact ⟨_, kvs, [], [], rfl, ⟨cs.ch.trans (Ch.new hfa _), g_new hfa cs.cd, by rw [List.drop_zero, List.append_nil]; exact cs.sk⟩, ⟨g_new hfa ln.at_, ln.ws.imp fun p xs e => g_new hfa e⟩, ⟨upd_same, .nil⟩, by simp, Nat.le_refl _, fun _ => rfl⟩
      · rintro i σ H' hi ⟨v, kvs', fws, fps, rfl, cs2, l1, l2, _⟩
        exact SqL.of l1.at_
      · rintro i z σ H2 hz ⟨v, kvs', fws, fps, rfl, cs2, l1, l2, b1, b2, b3⟩
        obtain ⟨p, x, rfl, hx, hp⟩ := ws_get l1.ws i z hz
        obtain ⟨hi, ex⟩ := List.getElem?_eq_some_iff.mp hx
        have hr2 : nws.drop i = x :: nws.drop (i + 1) := by rw [List.drop_eq_getElem_cons hi, ex]
        have sk2 := cs2.sk
        rw [hr2] at sk2
        have hcd2 := cs2.cd
        have hna2 := l1.at_
        have hfa2 := l2.at_
        have b' := b.keep cs2.ch
        obtain ⟨kb, hbd2, ad, hkl⟩ := b'.ex
        have fk2 := few sk2
        have elf := Paired.length l2.ws
        have lfp : (fps.map V.ref).length ≤ 700 := by rw [List.length_map, ← elf]; omega
        have hkz : kvs'.length < sizeLine := by rw [sizeLine_eq]; omega
        have ncf : fa ≠ cd := ne_of hfa2 hcd2 (by intro z; cases z)
        have hf0 : Hb fa = none := chFree cs.ch hfa
        have nnf : na ≠ fa := ne_of_none hna1 hfa
        cases h1 : valV kvs' x with
        | some vv =>
          walk_at "rd"
          exact ⟨⟨cs2.ch, hcd2, seek_old sk2 h1⟩, l1, l2, b1, b2, b3⟩
        | none =>
          have pl := put_len (.int (cnt + 1)) h1
          have cp : Ch [] Hb (upd H2 cd (.dT (putK kvs' x (.int (cnt + 1))))) := Ch.own hcd cs2.ch
          cases h2 : valV kb x with
          | none =>
            walk_at "rd"
            rename_i l0 hl0
            have nn : nbr (E.foldl add2 []) x = [] := nbr_miss (by rw [← adj_keys ad.pr x]; exact val_any h2)
            obtain ⟨r1, r2, r3⟩ := cs_new hcd hf0 ⟨cs2.ch, hcd2, sk2⟩ l1 l2 nnf h1 (ns := []) (ps := []) (fun y => by rw [← nn]; exact nbr_all E x y) .nil hl0
            exact ⟨r1, r2, r3, by rw [pl, List.append_nil]; omega, by omega, fun z => by omega⟩
          | some bv =>
            obtain ⟨a, ps, rfl, h0a, ha, hwn, hmem, _⟩ := adj_there ad.pr h2
            have na1 : a ≠ cd := ne_of ha hcd2 (by intro z; cases z)
            have lps : (ps.map V.ref).length ≤ 24 := by
              have z1 := nbr_build_len E [] x
              have z2 := Paired.length hwn
              rw [show (nbr [] x).length = 0 from rfl] at z1
              rw [List.length_map]; omega
            walk_at "rd"
            rename_i l0 hl0
            obtain ⟨r1, r2, r3⟩ := cs_new hcd hf0 ⟨cs2.ch, hcd2, sk2⟩ l1 l2 nnf h1 (nbr_all E x) hwn hl0
            refine ⟨r1, r2, r3, ?_, by omega, fun z => by omega⟩
            have z2 := Paired.length hwn
            rw [List.length_map] at lps
            rw [pl, List.length_append]; omega
      · rintro σ H' ⟨v, kvs', fws, fps, rfl, cs2, l1, l2, b1, b2, b3⟩
        rw [List.length_map, ← eln, List.drop_length, List.nil_append] at cs2
        have fk2 := few cs2.sk
        walk_at "rd"
        refine ⟨?_, fa, cnt + 1, _, _, kvs', fws, fps, rfl, cs2, l2, rfl⟩
        by_cases hk : kvs'.length = kvs.length
        · rw [if_pos (b3 hk), hk]; omega
        · split <;> omega
    · have hnil : nws = [] := by
        cases nws with
        | nil => rfl
        | cons _ _ =>
          have : 0 < nps.length := by rw [← eln]; simp
          exact absurd hc (by simpa using fun z => by rw [z] at this; cases this)
      subst hnil
      walk_at "rd"
      exact q cd kvs _ (cb.trans cs.ch) (chFree cb hcd) cs.cd cs.sk.nd cs.sk.done
  · rintro σ H Q Q' hq ⟨v, h1, p, ys, h2, h3, i, j, h4, h5, k, h6, h7⟩
    exact ⟨v, h1, p, ys, h2, h3, i, j, h4, h5, k, h6, hq _ _ h7⟩
end
end

section
structure Srt (E : List (Wr × Wr)) (ds : List Wr) (H : Hp) (ks : List Wr) (ps : List Addr) : Prop where
  pw : ks.Pairwise kLex
  ws : WsAt H ks ps
  mem : ∀ x, x ∈ ks ↔ Rch E ds x
  nd : ks.length < 64
theorem keys_few {js : List Jn} {ds : List Wr} {kvs : List (List Key × V)} (nd : (kvs.map (·.1)).Nodup) (m : ∀ x, x ∈ kvs.map (·.1) ↔ Rch (js.map Jn.e) ds x) (hl : js.length ≤ 12) (hdl : ds.length ≤ 3) : kvs.length < 64 := by
  have := rch_few nd fun x hx => (m x).mp hx
  rw [List.length_map, List.length_map] at this
  omega
theorem keys_shape {js : List Jn} {ds : List Wr} {kvs : List (List Key × V)} (m : ∀ x, x ∈ kvs.map (·.1) ↔ Rch (js.map Jn.e) ds x) (hdk : ∀ w ∈ ds, ∃ v, w = wK v) : ∀ p ∈ kvs, p.1.map Sum.isLeft = false :: [true, true, true] :=
  fun p hp => rch_shape hdk ((m p.1).mp (List.mem_map.mpr ⟨p, hp, rfl⟩))
theorem Srt.of {E : List (Wr × Wr)} {ds : List Wr} {kvs : List (List Key × V)} {H : Hp} {D : Addr} {o : HO} {ks : List Wr} {ps : List Addr} (hD : H D = none) (m : ∀ x, x ∈ kvs.map (·.1) ↔ Rch E ds x) (l : kvs.length < 64) (pm : ks.Perm (kvs.map (·.1))) (pw : ks.Pairwise kLex) (ws : Paired (fun k p => H p = some (.tup (k.map kV))) ks ps) : Srt E ds (upd H D o) ks ps :=
  ⟨pw, WsAt.imp (H := H) (fun p xs e => g_new hD e) ws, fun x => by rw [pm.mem_iff]; exact m x, by have := pm.length_eq; rw [List.length_map] at this; omega⟩
section
variable {P : Program} {w : World} {K : PySem.W.Frag} {mg : Str → Option Value} {base : Heap} {f : Addr} {fd : FuncData} {k : Nat}
theorem bo_sorted : bootBuiltins "sorted" = some (.builtin "sorted") := by decide +kernel
theorem gd_wire_counts : Nd "wire_counts" := by decide +kernel
theorem nn_sorted : ("sorted" : Str) ≠ "__name__" := by decide +kernel
theorem gd_sorted : Nd "sorted" := by decide +kernel
theorem g17_sorted : Gi (defScope (top 17)) "sorted" := by decide +kernel
theorem g17_wire_counts : Gi (defScope (top 17)) "wire_counts" := by decide +kernel
theorem v17_1 : Vs (defScope (top 17)) "way" := by decide +kernel
theorem d17_1 : Nd "way" := by decide +kernel
theorem c17_1 : Nc "way" := by decide +kernel
theorem v17_0 : Vs (defScope (top 17)) "floor" := by decide +kernel
theorem d17_0 : Nd "floor" := by decide +kernel
theorem c17_0 : Nc "floor" := by decide +kernel
def spWires (C : Addr) : Sp := fun vs H Q _ => ∃ (kd kj : SK) (fl dx wy da ja za : Addr) (r c t : Int) (js : List Jn) (xs : List V) (ds : List Wr) (dps : List Addr), vs = [.ref fl, .ref wy] ∧ H fl = some (.ins C dx (fldsF r c t)) ∧ H wy = some (.tup [.ref da, .ref ja, .ref za]) ∧ H da = some (sqO kd (dps.map V.ref)) ∧ WsAt H ds dps ∧ SqX kj H ja xs ∧ JsAt H js xs ∧ (∀ j ∈ js, j.ok r c t) ∧ js.length ≤ 12 ∧ ds.length ≤ 3 ∧ (∀ w ∈ ds, ∃ v, w = wK v) ∧
  ∀ D ks ps H', Ch [] H H' → H D = none → H' D = some (.lst (ps.map V.ref)) → Srt (js.map Jn.e) ds H' ks ps → Q (.ref D) H'
theorem scWires : FnScope ["floor", "way"] ["floor", "way"] (defScope (top 17)) := ⟨rfl, rfl, rfl, by decide +kernel, rfl, by decide +kernel, by decide +kernel⟩
theorem ok_wires {C : Addr} (F : Fun K "way_wires" "way_wires" (top 17) f fd) (Dwire_counts : DefOk P w K mg base CX0 k "wire_counts" ["floor", "way"] (spCounts C)) (z_sorted : mg "sorted" = none) :
    FnOk P w K mg base CX0 (k + 1) f fd ["floor", "way"] (spWires C) := by
  have nd := scWires.nd
  refine F.ok scWires (fun vs H Q E h => by obtain ⟨kd, kj, fl, dx, wy, da, ja, za, r, c, t, js, xs, ds, dps, rfl, _⟩ := h; rfl) (fun cdv A outer s H vs Q E hr h => ?_)
  obtain ⟨kd, kj, fl, dx, wy, da, ja, za, r, c, t, js, xs, ds, dps, rfl, hf, hw, hd, hws, hk, hj, ok, hl, hdl, hdk, q⟩ := h
  have hu := hu_of hr
  refine ⟨_, (Pr.h (qpss_one (qps_ret (qpe_callB (call_sortedT rfl) g17_sorted z_sorted bo_sorted (qpa_cons (qpe_callD Dwire_counts hr g17_wire_counts pass0 (qpa_cons (qpe_var (i := 0) rfl v17_0 d17_0 c17_0) (qpa_cons (qpe_var (i := 1) rfl v17_1 d17_1 c17_1) qpa_nil se_Name) se_Name) gd_wire_counts) qpa_nil se_Call) nn_sorted gd_sorted)))), ?_⟩
  (try dsimp only [cxOf])
  walk_at "rd"
  rename_i cd kvs H1 c1 f1 g1 nd1 m1
  have l64 := keys_few nd1 m1 hl hdl
  refine ⟨l64, keys_shape m1 hdk, fun D ks ps hD pm pw pr => ?_⟩
  exact q D ks ps _ (c1.trans (Ch.new hD _)) (chFree c1 hD) upd_same (.of hD m1 l64 pm pw pr)
end
end

section
local macro_rules | `(tactic| walk_at "user") => `(tactic| first
  | (apply isD_t; walk_at "get")
  | (apply dget_some; (focus walk_at "get"); (focus walk_at "get"); (focus with_reducible assumption))
  | (apply dget_none; (focus walk_at "get"); (focus walk_at "get"); (focus with_reducible assumption))
  | (apply DPut.t; (focus walk_at "get"); (focus walk_at "get"); (focus with_reducible assumption)))
theorem Seek.perm {E : List (Wr × Wr)} {D found wait wait' : List Wr} (s : Seek E D found wait) (h : ∀ y, y ∈ wait ↔ y ∈ wait') : Seek E D found wait' :=
  ⟨s.nd, s.fr, fun y hy => s.wr y ((h y).mpr hy), fun y hy => (s.dr y hy).imp id (h y).mp, fun y hy z b => (s.cl y hy z b).imp id (h z).mp⟩
def nbAt (nb : List (Wr × List Wr)) (e : Wr × Wr) : Nat → List (Wr × List Wr)
  | 0 => nb
  | 1 => addN nb e.1 e.2
  | _ => add2 nb e
structure IW (H' : Hp) (bd wl la p1 p2 : Addr) (e : Wr × Wr) : Prop where
  hw : H' wl = some (.lst [.ref p1, .ref p2])
  hl : H' la = some (.lst [.int 0, .int 1])
  h1 : H' p1 = some (.tup (e.1.map kV))
  h2 : H' p2 = some (.tup (e.2.map kV))
  no : ∃ kvs, H' bd = some (.dT kvs) ∧ V.ref wl ∉ kvs.map (·.2) ∧ V.ref la ∉ kvs.map (·.2)
theorem ws_snoc {H : Hp} : ∀ {ws : List Wr} {ps : List Addr}, WsAt H ws ps → ws ≠ [] → ∃ (x : Wr) (p : Addr) (ws' : List Wr) (ps' : List Addr), ws = ws' ++ [x] ∧ ps = ps' ++ [p] ∧ WsAt H ws' ps' ∧ H p = some (.tup (x.map kV))
  | _, _, .nil, h => absurd rfl h
  | [x], [p], .cons a .nil, _ => ⟨x, p, [], [], rfl, rfl, .nil, a⟩
  | k :: k2 :: ws, p :: p2 :: ps, .cons a t, _ => by
    obtain ⟨x, q, ws', ps', e1, e2, e3, e4⟩ := ws_snoc t (by simp)
    exact ⟨x, q, k :: ws', p :: ps', by rw [e1]; rfl, by rw [e2]; rfl, .cons a e3, e4⟩
section
variable {P : Program} {w : World} {K : PySem.W.Frag} {mg : Str → Option Value} {base : Heap} {f : Addr} {fd : FuncData} {k : Nat}
theorem l23_2 : Lc (defScope (top 23)) "_law_beside" := by decide +kernel
theorem v23_1 : Vs (defScope (top 23)) "_law_joins" := by decide +kernel
theorem d23_1 : Nd "_law_joins" := by decide +kernel
theorem c23_1 : Nc "_law_joins" := by decide +kernel
theorem l23_6 : Lc (defScope (top 23)) "_law_track" := by decide +kernel
theorem l23_5 : Lc (defScope (top 23)) "_law_other" := by decide +kernel
theorem l23_4 : Lc (defScope (top 23)) "_law_one" := by decide +kernel
theorem l23_3 : Lc (defScope (top 23)) "_law_box" := by decide +kernel
theorem l23_7 : Lc (defScope (top 23)) "_law_wires" := by decide +kernel
theorem g23__law_side : Gi (defScope (top 23)) "_law_side" := by decide +kernel
theorem v23_6 : Vs (defScope (top 23)) "_law_track" := by decide +kernel
theorem d23_6 : Nd "_law_track" := by decide +kernel
theorem c23_6 : Nc "_law_track" := by decide +kernel
theorem v23_5 : Vs (defScope (top 23)) "_law_other" := by decide +kernel
theorem d23_5 : Nd "_law_other" := by decide +kernel
theorem c23_5 : Nc "_law_other" := by decide +kernel
theorem v23_3 : Vs (defScope (top 23)) "_law_box" := by decide +kernel
theorem d23_3 : Nd "_law_box" := by decide +kernel
theorem c23_3 : Nc "_law_box" := by decide +kernel
theorem v23_4 : Vs (defScope (top 23)) "_law_one" := by decide +kernel
theorem d23_4 : Nd "_law_one" := by decide +kernel
theorem c23_4 : Nc "_law_one" := by decide +kernel
theorem l23_8 : Lc (defScope (top 23)) "_law_k" := by decide +kernel
theorem v23_2 : Vs (defScope (top 23)) "_law_beside" := by decide +kernel
theorem d23_2 : Nd "_law_beside" := by decide +kernel
theorem c23_2 : Nc "_law_beside" := by decide +kernel
theorem v23_7 : Vs (defScope (top 23)) "_law_wires" := by decide +kernel
theorem d23_7 : Nd "_law_wires" := by decide +kernel
theorem c23_7 : Nc "_law_wires" := by decide +kernel
theorem v23_8 : Vs (defScope (top 23)) "_law_k" := by decide +kernel
theorem d23_8 : Nd "_law_k" := by decide +kernel
theorem c23_8 : Nc "_law_k" := by decide +kernel
theorem l23_9 : Lc (defScope (top 23)) "_law_found" := by decide +kernel
theorem l23_10 : Lc (defScope (top 23)) "_law_waiting" := by decide +kernel
theorem g23_list : Gi (defScope (top 23)) "list" := by decide +kernel
theorem v23_0 : Vs (defScope (top 23)) "_law_drives" := by decide +kernel
theorem d23_0 : Nd "_law_drives" := by decide +kernel
theorem c23_0 : Nc "_law_drives" := by decide +kernel
theorem g23_len : Gi (defScope (top 23)) "len" := by decide +kernel
theorem v23_10 : Vs (defScope (top 23)) "_law_waiting" := by decide +kernel
theorem d23_10 : Nd "_law_waiting" := by decide +kernel
theorem c23_10 : Nc "_law_waiting" := by decide +kernel
theorem l23_11 : Lc (defScope (top 23)) "_law_wire" := by decide +kernel
theorem v23_11 : Vs (defScope (top 23)) "_law_wire" := by decide +kernel
theorem d23_11 : Nd "_law_wire" := by decide +kernel
theorem c23_11 : Nc "_law_wire" := by decide +kernel
theorem v23_9 : Vs (defScope (top 23)) "_law_found" := by decide +kernel
theorem d23_9 : Nd "_law_found" := by decide +kernel
theorem c23_9 : Nc "_law_found" := by decide +kernel
def spReach : Sp := fun vs H Q _ => ∃ (da ja : Addr) (r c t : Int) (js : List Jn) (xs : List V) (ds : List Wr) (dps : List Addr), vs = [.ref da, .ref ja] ∧ H da = some (.lst (dps.map V.ref)) ∧ WsAt H ds dps ∧ H ja = some (.lst xs) ∧ JsAt H js xs ∧ (∀ j ∈ js, j.ok r c t) ∧ js.length ≤ 12 ∧ ds.length ≤ 3 ∧
  ∀ cd kvs H', Ch [] H H' → H cd = none → H' cd = some (.dT kvs) → (kvs.map (·.1)).Nodup → (∀ x, x ∈ kvs.map (·.1) ↔ Rch (js.map Jn.e) ds x) → Q (.ref cd) H'
theorem scReach : FnScope ["_law_drives", "_law_joins", "_law_beside", "_law_box", "_law_one", "_law_other", "_law_track", "_law_wires", "_law_k", "_law_found", "_law_waiting", "_law_wire"] ["_law_drives", "_law_joins"] (defScope (top 23)) := ⟨rfl, rfl, rfl, by decide +kernel, rfl, by decide +kernel, by decide +kernel⟩
theorem ok_reach (F : Fun K "_law_reached" "_law_reached" (top 23) f fd) (D_law_side : DefOk P w K mg base CX0 k "_law_side" ["_law_box", "_law_side_here", "_law_track"] spLSide) (z_len : mg "len" = none) (z_list : mg "list" = none) :
    FnOk P w K mg base CX0 (k + 1) f fd ["_law_drives", "_law_joins"] spReach := by
  have nd := scReach.nd
  refine F.ok scReach (fun vs H Q E h => by obtain ⟨da, ja, r, c, t, js, xs, ds, dps, rfl, _⟩ := h; rfl) (fun cdv A outer s H vs Q E hr h => ?_)
  obtain ⟨da, ja, r, c, t, js, xs, ds, dps, rfl, hd, hws, hk, hj, ok, hl, hdl, q⟩ := h
  have hu := hu_of hr
  refine ⟨_, (Pr.h (qpss_cons (qps_set (i := 2) nd rfl l23_2 qpe_dnewT)
 (qpss_cons (qps_loop PassesOwn.never rfl (qpi_list (qpe_var (i := 1) rfl v23_1 d23_1 c23_1)) (qpg_tup rfl (qpgs_cons (qpg_name (i := 3) nd rfl l23_3) (qpgs_cons (qpg_name (i := 4) nd rfl l23_4) (qpgs_cons (qpg_name (i := 5) nd rfl l23_5) (qpgs_cons (qpg_name (i := 6) nd rfl l23_6) qpgs_nil)))))
  (qpss_cons (qps_set (i := 7) nd rfl l23_7 (qpe_lst (qpa_cons (qpe_callD D_law_side hr g23__law_side pass0 (qpa_cons (qpe_var (i := 3) rfl v23_3 d23_3 c23_3) (qpa_cons (qpe_var (i := 4) rfl v23_4 d23_4 c23_4) (qpa_cons (qpe_var (i := 6) rfl v23_6 d23_6 c23_6) qpa_nil se_Name) se_Name) se_Name) gd__law_side) (qpa_cons (qpe_callD D_law_side hr g23__law_side pass0 (qpa_cons (qpe_var (i := 3) rfl v23_3 d23_3 c23_3) (qpa_cons (qpe_var (i := 5) rfl v23_5 d23_5 c23_5) (qpa_cons (qpe_var (i := 6) rfl v23_6 d23_6 c23_6) qpa_nil se_Name) se_Name) se_Name) gd__law_side) qpa_nil se_Call) se_Call)))
 (qpss_one (qps_loop PassesOwn.never rfl (qpi_list (qpe_lst (qpa_cons qpe_int (qpa_cons qpe_int qpa_nil se_Constant) se_Constant))) (qpg_name (i := 8) nd rfl l23_8)
  (qpss_one (qps_expr (qpe_bm PySem.F.plainAttrs_list PySem.F.slot_list_append PySem.F.type_list_append mt_append (qpe_dsetd hu (qpe_var (i := 2) rfl v23_2 d23_2 c23_2) (qpe_ix ixa_list (qpe_var (i := 7) rfl v23_7 d23_7 c23_7) (qpe_var (i := 8) rfl v23_8 d23_8 c23_8) (fun _ _ => rfl)) (qpe_lst qpa_nil) ⟨rfl, rfl, rfl, rfl⟩) (qpa_cons (qpe_ix ixa_list (qpe_var (i := 7) rfl v23_7 d23_7 c23_7) (qpe_op op_sub qpe_int (qpe_var (i := 8) rfl v23_8 d23_8 c23_8)) (fun _ _ => rfl)) qpa_nil se_Subscript))))))))
 (qpss_cons (qps_set (i := 9) nd rfl l23_9 qpe_dnewT)
 (qpss_cons (qps_set (i := 10) nd rfl l23_10 (qpe_callTy call_list_of g23_list z_list bo_list (qpa_cons (qpe_var (i := 0) rfl v23_0 d23_0 c23_0) qpa_nil se_Name) nn_list gd_list))
 (qpss_cons (qps_while PassesOwn.never (qpt_cmpR op_gt (qpe_callB call_len_seq g23_len z_len PySem.boot_len (qpa_cons (qpe_var (i := 10) rfl v23_10 d23_10 c23_10) qpa_nil se_Name) nn_len gd_len) qpe_int (nomark _))
  (qpss_cons (qps_set (i := 11) nd rfl l23_11 (qpe_pop (qpe_var (i := 10) rfl v23_10 d23_10 c23_10)))
 (qpss_one (qps_if (qpt_dnotin hu (qpe_var (i := 11) rfl v23_11 d23_11 c23_11) (qpe_var (i := 9) rfl v23_9 d23_9 c23_9))
  (qpss_cons (qps_dput hu (qpe_var (i := 9) rfl v23_9 d23_9 c23_9) (qpe_var (i := 11) rfl v23_11 d23_11 c23_11) qpe_bl rfl)
 (qpss_one (qps_expr (qpe_bm PySem.F.plainAttrs_list PySem.F.slot_list_extend PySem.F.type_list_extend mt_extend (qpe_var (i := 10) rfl v23_10 d23_10 c23_10) (qpa_cons (qpe_dget2 hu (qpe_var (i := 2) rfl v23_2 d23_2 c23_2) (qpe_var (i := 11) rfl v23_11 d23_11 c23_11) (qpe_lst qpa_nil) ⟨rfl, rfl, rfl, rfl⟩) qpa_nil se_Call)))))
  qpss_nil))))
 (qpss_one (qps_ret (qpe_var (i := 9) rfl v23_9 d23_9 c23_9))))))))), ?_⟩
  (try dsimp only [cxOf])
  walk_at "rd"
  rename_i bd hbd
  refine loop_list (xs := xs) (fun i σ H' => ∃ u3 u4 u5 u6 u7 u8, σ = [some (.ref da), some (.ref ja), some (.ref bd), u3, u4, u5, u6, u7, u8, none, none, none] ∧ BS H H' bd (((js.take i).map Jn.e).foldl add2 []) (2 * i)) ⟨_, _, _, _, _, _, rfl, Ch.new hbd _, hbd, [], upd_same, ⟨.nil, by simp, by simp⟩, by simp⟩ ?_ ?_ ?_
  · rintro i σ H' hi ⟨_, _, _, _, _, _, rfl, b⟩
    exact SqL.of (b.ch.get hk (by simp))
  · rintro i z σ H' hz ⟨u3, u4, u5, u6, u7, u8, rfl, b⟩
    obtain ⟨jn, bx, j, rfl, hji, hp, hb⟩ := (hj.ch b.ch).at_ i z hz
    obtain ⟨x0, x1, y0, y1, a0, a1, b0, b1, t0, t1⟩ := ok j (List.mem_of_getElem? hji)
    have hi : i < js.length := (List.getElem?_eq_some_iff.mp hji).1
    have et : ((js.take (i + 1)).map Jn.e).foldl add2 [] = add2 (((js.take i).map Jn.e).foldl add2 []) j.e := by rw [List.take_add_one, hji, List.map_append, List.foldl_append]; rfl
    rw [et]
    have lnb : ∀ k, (nbr (((js.take i).map Jn.e).foldl add2 []) k).length ≤ 200 := fun k => by
      have := nbr_build_len ((js.take i).map Jn.e) [] k
      rw [List.length_map, List.length_take, show (nbr [] k).length = 0 from rfl] at this
      omega
    generalize hnb : ((js.take i).map Jn.e).foldl add2 [] = nb at b lnb ⊢
    obtain ⟨kvs, hbd1, ad, hkl⟩ := b.ex
    walk_at "rd"
    rename_i p1 G1 c1 f1 g1 p2 G2 c2 f2 g2 wl hwl la hla
    have c12 := c1.trans c2
    have cW : Ch [] H' (upd (upd G2 wl (.lst [.ref p1, .ref p2])) la (.lst [.int 0, .int 1])) := (c12.trans (Ch.new hwl _)).trans (Ch.new hla _)
    have nwl : wl ≠ la := fun z => by rw [← z, upd_same] at hla; cases hla
    have no : ∀ (b : Addr), H' b = none → V.ref b ∉ kvs.map (·.2) := fun b hb z => by
      obtain ⟨a', xs', ea', hxa⟩ := vals_have ad.pr _ z
      cases ea'
      rw [hb] at hxa; cases hxa
    have fwl : H' wl = none := chFree c12 hwl
    have fla : H' la = none := chFree (c12.trans (Ch.new hwl _)) hla
    refine loop_list (xs := [.int 0, .int 1]) (fun m σ H'' => ∃ u, σ = [some (.ref da), some (.ref ja), some (.ref bd), some (.ref bx), some (.int j.s1), some (.int j.s2), some (.int j.tr), some (.ref wl), u, none, none, none] ∧ BS H H'' bd (nbAt nb j.e m) (2 * i + m) ∧ IW H'' bd wl la p1 p2 j.e) ?_ ?_ ?_ ?_
    · exact ⟨_, rfl, b.keep cW, ⟨g_new hla upd_same, upd_same, g_new hla (g_new hwl (c2.get g1 (by simp))), g_new hla (g_new hwl g2), kvs, cW.get hbd1 (by simp), no wl fwl, no la fla⟩⟩
    · rintro m σ H'' hm ⟨_, rfl, _, iw⟩
      exact SqL.of iw.hl
    · rintro m z σ H5 hz ⟨u, rfl, b5, iw⟩
      obtain ⟨w5, l5, q1, q2, kvs5, hbd5, wno5, lno5⟩ := iw
      obtain ⟨kvs6, hbd6, ad5, hkl5⟩ := b5.ex
      rw [hbd5] at hbd6
      cases hbd6
      obtain ⟨kk, x, y, px, py, rfl, hx1, hx2, gx, gy, eadd, hm⟩ : ∃ (kk : Int) (x y : Wr) (px py : Addr), z = .int kk ∧ atI [V.ref p1, V.ref p2] kk = some (.ref px) ∧ atI [V.ref p1, V.ref p2] (1 - kk) = some (.ref py) ∧ H5 px = some (.tup (x.map kV)) ∧ H5 py = some (.tup (y.map kV)) ∧ nbAt nb j.e (m + 1) = addN (nbAt nb j.e m) x y ∧ m < 2 := by
        have hm : m < 2 := (List.getElem?_eq_some_iff.mp hz).1
        have : m = 0 ∨ m = 1 := by omega
        rcases this with rfl | rfl
        · cases hz; exact ⟨0, j.e.1, j.e.2, p1, p2, rfl, rfl, rfl, q1, q2, rfl, hm⟩
        · cases hz; exact ⟨1, j.e.2, j.e.1, p2, p1, rfl, rfl, rfl, q2, q1, rfl, hm⟩
      rw [eadd, show 2 * i + (m + 1) = 2 * i + m + 1 from by omega]
      have lnb5 : ∀ k, (nbr (nbAt nb j.e m) k).length ≤ 202 := fun k => by
        have z1 := lnb k
        have z2 := nbr_add_len nb j.e.1 j.e.2 k
        have : m = 0 ∨ m = 1 := by omega
        rcases this with rfl | rfl
        · exact Nat.le_trans z1 (by omega)
        · exact Nat.le_trans z2 (by omega)
      generalize nbAt nb j.e m = nb5 at b5 ad5 lnb5 ⊢
      have hkz5 : kvs5.length < sizeLine := by rw [sizeLine_eq]; omega
      have isd5 : IsD H5 bd := isD_t hbd5
      clear b ad hbd1 c1 f1 g1 c2 f2 g2 hwl hla c12 cW fwl fla no hp hb hkl et
      walk_at "rd"
      rename_i l0 hl0
      have c3 : Ch [] H5 (upd H5 l0 (.lst [])) := Ch.new hl0 _
      refine ⟨fun v' ev => ?_, fun en => ?_⟩
      · obtain ⟨a, ps, rfl, h0a, ha, hws', hmem, hy⟩ := adj_there ad5.pr ev
        have ha3 : (upd H5 l0 (.lst [])) a = some (.lst (ps.map V.ref)) := g_new hl0 ha
        have lps : (ps.map V.ref).length < sizeLine := by
          have e1 := Paired.length hws'
          have e2 := lnb5 x
          rw [sizeLine_eq, List.length_map]; omega
        have naw : a ≠ wl := fun z => wno5 (by rw [← z]; exact hmem)
        have nal : a ≠ la := fun z => lno5 (by rw [← z]; exact hmem)
        walk_at "rd"
        have hb3 : (upd H5 l0 (.lst [])) bd = some (.dT kvs5) := g_new hl0 hbd5
        refine ⟨bs_old (k := x) (b5.ch.trans c3) b5.fr hb3 (ad5.ch c3) hkl5 ev h0a ha3 (g_new hl0 gy) hy, g_put naw.symm (g_new hl0 w5), g_put nal.symm (g_new hl0 l5), g_put (ne_of (g_new hl0 q1) ha3 (by intro z; cases z)) (g_new hl0 q1), g_put (ne_of (g_new hl0 q2) ha3 (by intro z; cases z)) (g_new hl0 q2), kvs5, g_put (ne_of hb3 ha3 (by intro z; cases z)) hb3, wno5, lno5⟩
      · have nlb : l0 ≠ bd := (ne_of_none hbd5 hl0).symm
        have nwb : wl ≠ bd := ne_of w5 hbd5 (by intro z; cases z)
        have nlb' : la ≠ bd := ne_of l5 hbd5 (by intro z; cases z)
        have n1b : p1 ≠ bd := ne_of q1 hbd5 (by intro z; cases z)
        have n2b : p2 ≠ bd := ne_of q2 hbd5 (by intro z; cases z)
        have nw0 : wl ≠ l0 := ne_of_none w5 hl0
        have nl0 : la ≠ l0 := ne_of_none l5 hl0
        have n10 : p1 ≠ l0 := ne_of_none q1 hl0
        have n20 : p2 ≠ l0 := ne_of_none q2 hl0
        obtain ⟨H4, e4⟩ : ∃ H4, upd (upd H5 l0 (.lst [])) bd (.dT (putK kvs5 x (.ref l0))) = H4 := ⟨_, rfl⟩
        have k4 : H4 l0 = some (.lst []) := by rw [← e4, upd_ne nlb]; exact upd_same
        have kw4 : H4 wl = some (.lst [.ref p1, .ref p2]) := by rw [← e4]; exact g_put nwb (g_new hl0 w5)
        have l00 : ([] : List V).length < sizeLine := by rw [sizeLine_eq]; decide
        rw [e4]
        walk_at "rd"
        rw [← e4]
        have pno : ∀ b : Addr, b ≠ l0 → V.ref b ∉ kvs5.map (·.2) → V.ref b ∉ (putK kvs5 x (.ref l0)).map (·.2) := fun b nb hb z => by
          unfold putK at z
          rw [if_neg (by rw [val_any en]; simp), List.map_append] at z
          rcases List.mem_append.mp z with z | z
          · exact hb z
          · have z : b = l0 := by simpa using z
            exact nb z
        exact ⟨bs_new (k := x) b5.ch b5.fr hbd5 ad5 hkl5 en hl0 gy, g_put nw0 (g_put nwb (g_new hl0 w5)), g_put nl0 (g_put nlb' (g_new hl0 l5)), g_put n10 (g_put n1b (g_new hl0 q1)), g_put n20 (g_put n2b (g_new hl0 q2)), _, g_put nlb.symm upd_same, pno wl nw0 wno5, pno la nl0 lno5⟩
    · rintro σ H5 ⟨u, rfl, b5, _⟩
      exact ⟨_, _, _, _, _, _, rfl, b5⟩
  · rintro σ Hb ⟨u3, u4, u5, u6, u7, u8, rfl, b⟩
    rw [hj.len, List.take_length] at b
    obtain ⟨E, hE⟩ : ∃ E, E = js.map Jn.e := ⟨_, rfl⟩
    have lE : E.length ≤ 12 := by rw [hE, List.length_map]; exact hl
    rw [← hE] at b q
    intro cd hcd
    have cb := b.ch
    have cC : Ch [] Hb (upd Hb cd (.dT [])) := Ch.new hcd _
    have nbc : bd ≠ cd := by obtain ⟨_, g, _⟩ := b.ex; exact ne_of_none g hcd
    have hda : (upd Hb cd (.dT [])) da = some (.lst (dps.map V.ref)) := (cb.trans cC).get hd (by simp)
    refine ⟨_, rfl, da, dps.map V.ref, rfl, .inl (SqL.of hda), fun wa hwa => ?_⟩
    have e0 := Paired.length hws
    have n0 : Seek E ds [] ds := ⟨List.nodup_nil, by simp, fun x hx => .base hx, fun x hx => .inr hx, by simp⟩
    have hwa0 : Hb wa = none := chFree cC hwa
    show tWhile _ _ _ _ _
    refine while_at (fun m σ H' => ∃ (u : Option V) (kvs : List (List Key × V)) (ws : List Wr) (ps : List Addr), σ = [some (.ref da), some (.ref ja), some (.ref bd), u3, u4, u5, u6, u7, u8, some (.ref cd), some (.ref wa), u] ∧
      CS E ds Hb H' cd kvs ws ∧ LW H' wa ws ps ∧ ws.length ≤ 3 + kvs.length * 24 ∧ m = 25 * (ds.length + 2 * E.length - kvs.length) + ws.length)
      ⟨_, _, [], ds, dps, rfl, ⟨cC.trans (Ch.new hwa _), g_new hwa upd_same, n0⟩, ⟨upd_same, hws.imp fun p xs e => g_new hwa ((cb.trans cC).get e (by simp))⟩, by omega, rfl⟩ ?_ ?_
    · rintro m σ H1 ⟨u, kvs, ws, ps, rfl, cs, lw, bw, rfl⟩
      have hwa1 := lw.at_
      have eln := Paired.length lw.ws
      walk_at "rd"
      refine ite2 (fun hc => ?_) (fun hc => ?_)
      · have hne : ws ≠ [] := by
          rintro rfl
          have : ps = [] := by cases ps with | nil => rfl | cons _ _ => simp at eln
          subst this
          simp at hc
        obtain ⟨x, p, ws', ps', rfl, rfl, hw', hp⟩ := ws_snoc lw.ws hne
        have hla : ((ps' ++ [p]).map V.ref)[((ps' ++ [p]).map V.ref).length - 1]? = some (.ref p) := by simp
        have edl : ((ps' ++ [p]).map V.ref).dropLast = ps'.map V.ref := by rw [List.map_append]; exact List.dropLast_concat
        have bw' : ws'.length + 1 ≤ 3 + kvs.length * 24 := by rw [List.length_append] at bw; exact bw
        rw [List.length_append, List.length_singleton]
        have fk := few cs.sk
        have el' := Paired.length hw'
        have hcd1 := cs.cd
        have npw : p ≠ wa := ne_of hp hwa1 (by intro z; cases z)
        have ncw : cd ≠ wa := ne_of hcd1 hwa1 (by intro z; cases z)
        have csP : CS E ds Hb (upd H1 wa (.lst (ps'.map V.ref))) cd kvs (x :: [] ++ ws') := ⟨Ch.own hwa0 cs.ch, g_put ncw hcd1, Seek.perm cs.sk fun y => by simp; exact or_comm⟩
        have lwP : LW (upd H1 wa (.lst (ps'.map V.ref))) wa ws' ps' := ⟨upd_same, ws_put hw' hwa1 (by intro xs z; cases z)⟩
        obtain ⟨H2, e2⟩ : ∃ H2, upd H1 wa (.lst (ps'.map V.ref)) = H2 := ⟨_, rfl⟩
        rw [e2] at csP lwP
        have hp2 : H2 p = some (.tup (x.map kV)) := by rw [← e2]; exact g_put npw hp
        have hcd2 := csP.cd
        have hwa2 := lwP.at_
        have b' := b.keep csP.ch
        obtain ⟨kb, hbd2, ad, hkl⟩ := b'.ex
        have lfp : (ps'.map V.ref).length ≤ 700 := by rw [List.length_map]; omega
        have hkz : kvs.length < sizeLine := by rw [sizeLine_eq]; omega
        have ncf : wa ≠ cd := ncw.symm
        refine ⟨_, rfl, .inl ⟨rfl, _, SqL.of hwa1⟩, wa, _, _, rfl, rfl, hwa1, hla, ?_⟩
        rw [edl, e2]
        clear e2 hp hwa1 hcd1 npw hw' hla
        cases h1 : valV kvs x with
        | some vv =>
          walk_at "rd"
          refine ⟨?_, _, kvs, ws', ps', rfl, ⟨csP.ch, hcd2, seek_old csP.sk h1⟩, lwP, by omega, rfl⟩
          omega
        | none =>
          have pl := put_len (.bl true) h1
          cases h2 : valV kb x with
          | none =>
            walk_at "rd"
            rename_i l0 hl0
            have nn : nbr (E.foldl add2 []) x = [] := nbr_miss (by rw [← adj_keys ad.pr x]; exact val_any h2)
            obtain ⟨r1, r2, _⟩ := cs_new0 hcd hwa0 csP lwP h1 (ns := []) (ps := []) (fun y => by rw [← nn]; exact nbr_all E x y) .nil hl0
            have fk2 := few r1.sk
            refine ⟨?_, _, _, _, _, rfl, r1, r2, by rw [pl]; simp; omega, rfl⟩
            rw [pl] at fk2 ⊢
            simp; omega
          | some bv =>
            obtain ⟨a, ps, rfl, h0a, ha, hwn, hmem, _⟩ := adj_there ad.pr h2
            have na1 : a ≠ cd := ne_of ha hcd2 (by intro z; cases z)
            have lps : (ps.map V.ref).length ≤ 24 := by
              have z1 := nbr_build_len E [] x
              have z2 := Paired.length hwn
              rw [show (nbr [] x).length = 0 from rfl] at z1
              rw [List.length_map]; omega
            walk_at "rd"
            rename_i l0 hl0
            obtain ⟨r1, r2, _⟩ := cs_new0 hcd hwa0 csP lwP h1 (nbr_all E x) hwn hl0
            have fk2 := few r1.sk
            have z2 := Paired.length hwn
            rw [List.length_map] at lps
            refine ⟨?_, _, _, _, _, rfl, r1, r2, by rw [pl]; simp; omega, rfl⟩
            rw [pl] at fk2 ⊢
            simp; omega
      · have hnil : ws = [] := by
          cases ws with
          | nil => rfl
          | cons _ _ =>
            have : 0 < ps.length := by rw [← eln]; simp
            exact absurd hc (by simpa using fun z => by rw [z] at this; cases this)
        subst hnil
        walk_at "rd"
        exact q cd kvs _ (cb.trans cs.ch) (chFree cb hcd) cs.cd cs.sk.nd cs.sk.done
    · rintro σ H Q Q' hq ⟨v, h1, p, ys, h2, h3, i, j, h4, h5, k, h6, h7⟩
      exact ⟨v, h1, p, ys, h2, h3, i, j, h4, h5, k, h6, hq _ _ h7⟩
end
end

section
theorem JsAt.put {H H' : Hp} {b : Addr} {zs : List V} {js : List Jn} {xs : List V} (s : JsAt H js xs) (hb : H b = some (.lst zs)) (c : Ch [b] H H') : JsAt H' js xs := ⟨s.len, fun i x e => let ⟨p, bx, j, a, d, g1, g2⟩ := s.at_ i x e; ⟨p, bx, j, a, d, c.get g1 (by simpa using ne_of g1 hb (by intro z; cases z)), c.get g2 (by simpa using ne_of g2 hb (by intro z; cases z))⟩⟩
theorem Wires.chB {H H' : Hp} {n : Nat} {ys zs : List V} {b : Addr} (s : Wires H n ys) (hb : H b = some (.lst zs)) (c : Ch [b] H H') : Wires H' n ys := by
  obtain ⟨ws, ps, e, a, d, f⟩ := s.ex
  exact ⟨ws, ps, e, a.imp fun p xs h => c.get h (by simpa using ne_of h hb (by intro z; cases z)), d, f⟩
theorem atI_two {u v i : Int} (h0 : 0 ≤ i) (h1 : i < 2) : atI [V.int u, V.int v] i = some (.int (if i = 0 then u else v)) := by
  have : i = 0 ∨ i = 1 := by omega
  rcases this with rfl | rfl
  · rfl
  · rfl
theorem Wires.at_ {H : Hp} {n : Nat} {zs : List V} (s : Wires H n zs) (i : Nat) (hi : i < n) : ∃ p v, zs[i]? = some (.ref p) ∧ H p = some (.tup ((wK v).map kV)) := by
  have hl := s.len
  obtain ⟨ws, ps, rfl, a, b, d⟩ := s.ex
  obtain ⟨p, k, e1, e2, e3⟩ := ws_get a i ((ps.map V.ref)[i]'(by omega)) (List.getElem?_eq_getElem (by omega))
  obtain ⟨v, rfl⟩ := d k (List.mem_of_getElem? e2)
  exact ⟨p, v, by rw [List.getElem?_eq_getElem (by omega), e1], e3⟩
theorem Wires.mod {H : Hp} {n : Nat} {zs : List V} (s : Wires H n zs) (h0 : 0 < n) (m : Int) : ∃ p v, atI zs (m % (zs.length : Int)) = some (.ref p) ∧ H p = some (.tup ((wK v).map kV)) := by
  have hl := s.len
  have e1 : 0 ≤ m % (zs.length : Int) := Int.emod_nonneg _ (by omega)
  have e2 : m % (zs.length : Int) < (zs.length : Int) := Int.emod_lt_of_pos _ (by omega)
  obtain ⟨p, v, g1, g2⟩ := s.at_ (m % (zs.length : Int)).toNat (by omega)
  refine ⟨p, v, ?_, g2⟩
  have := atI_nat g1
  rwa [Int.toNat_of_nonneg e1] at this
theorem JsAt.last {H : Hp} {js : List Jn} {xs : List V} (s : JsAt H js xs) (h : 0 < js.length) : ∃ (p bx : Addr) (j : Jn), atI xs (-1) = some (.ref p) ∧ j ∈ js ∧ H p = some (.tup [.ref bx, .int j.s1, .int j.s2, .int j.tr]) ∧ H bx = some (.tup [.int j.x, .int j.y]) := by
  have hl := s.len
  obtain ⟨p, bx, j, e1, e2, g1, g2⟩ := s.at_ (xs.length - 1) (xs[xs.length - 1]'(by omega)) (List.getElem?_eq_getElem (by omega))
  refine ⟨p, bx, j, ?_, List.mem_of_getElem? e2, g1, g2⟩
  have hx : xs = xs.dropLast ++ [.ref p] := by
    rw [← e1, ← List.getLast_eq_getElem (by intro z; rw [z] at hl; simp at hl; omega)]
    exact (List.dropLast_concat_getLast _).symm
  rw [hx]
  exact atI_last _ _
theorem JsAt.snoc {H : Hp} {js : List Jn} {xs : List V} {p bx : Addr} {j : Jn} (s : JsAt H js xs) (g1 : H p = some (.tup [.ref bx, .int j.s1, .int j.s2, .int j.tr])) (g2 : H bx = some (.tup [.int j.x, .int j.y])) : JsAt H (js ++ [j]) (xs ++ [.ref p]) := by
  have hl := s.len
  refine ⟨by simp [hl], fun i x e => ?_⟩
  by_cases hi : i < xs.length
  · rw [List.getElem?_append_left hi] at e
    obtain ⟨p', bx', j', a, b, c, d⟩ := s.at_ i x e
    exact ⟨p', bx', j', a, by rw [List.getElem?_append_left (by omega)]; exact b, c, d⟩
  · have hi2 := (List.getElem?_eq_some_iff.mp e).1
    rw [List.length_append, List.length_singleton] at hi2
    have ei : i = xs.length := by omega
    subst ei
    rw [List.getElem?_append_right (Nat.le_refl _), Nat.sub_self] at e
    cases e
    exact ⟨p, bx, j, rfl, by rw [hl, List.getElem?_append_right (Nat.le_refl _), Nat.sub_self]; rfl, g1, g2⟩
structure DS (K : PySem.W.Frag) (H H' : Hp) (a b fa : Addr) (ns : List Int) (c' r cc : Int) (t : Nat) : Prop where
  ch : Ch [b] H H'
  hS : Scr K H' a ns
  hf : H' fa = some (.lst [.int r, .int cc, .int (t : Int)])
  hb : H' b = some (.lst [.int c'])
  nb : fa ≠ b
theorem DS.next {K : PySem.W.Frag} {H H' H'' : Hp} {a b fa : Addr} {ns : List Int} {c' c'' r cc : Int} {t : Nat} (d : DS K H H' a b fa ns c' r cc t) (c : Ch [b] H' H'') (h : H'' b = some (.lst [.int c''])) : DS K H H'' a b fa ns c'' r cc t :=
  ⟨d.ch.trans c, d.hS.ch d.hb c, c.get d.hf (by simpa using d.nb), h, d.nb⟩
theorem DS.new {K : PySem.W.Frag} {H H' H'' : Hp} {a b fa : Addr} {ns : List Int} {c' r cc : Int} {t : Nat} (d : DS K H H' a b fa ns c' r cc t) (c : Ch [] H' H'') : DS K H H'' a b fa ns c' r cc t :=
  ⟨d.ch.trans c.wk, d.hS.same c, c.get d.hf (by simp), c.get d.hb (by simp), d.nb⟩
theorem DS.own {K : PySem.W.Frag} {H H' : Hp} {a b fa q : Addr} {ns : List Int} {c' r cc : Int} {t : Nat} {xs zs : List V} (d : DS K H H' a b fa ns c' r cc t) (h0 : H q = none) (hq : H' q = some (.lst xs)) (nb : b ≠ q) (nf : fa ≠ q) : DS K H (upd H' q (.lst zs)) a b fa ns c' r cc t :=
  ⟨Ch.own h0 d.ch, d.hS.ch hq Ch.put, g_put nf d.hf, g_put nb d.hb, d.nb⟩
section
variable {P : Program} {w : World} {K : PySem.W.Frag} {mg : Str → Option Value} {base : Heap} {f : Addr} {fd : FuncData} {k : Nat}
theorem gd__law_next : Nd "_law_next" := by decide +kernel
theorem gd__law_box_wires : Nd "_law_box_wires" := by decide +kernel
theorem bo_min : bootBuiltins "min" = some (.builtin "min") := by decide +kernel
theorem nn_min : ("min" : Str) ≠ "__name__" := by decide +kernel
theorem gd_min : Nd "min" := by decide +kernel
theorem l24_3 : Lc (defScope (top 24)) "_law_box" := by decide +kernel
theorem g24__law_next : Gi (defScope (top 24)) "_law_next" := by decide +kernel
theorem v24_1 : Vs (defScope (top 24)) "_law_at" := by decide +kernel
theorem d24_1 : Nd "_law_at" := by decide +kernel
theorem c24_1 : Nc "_law_at" := by decide +kernel
theorem v24_0 : Vs (defScope (top 24)) "_law_script" := by decide +kernel
theorem d24_0 : Nd "_law_script" := by decide +kernel
theorem c24_0 : Nc "_law_script" := by decide +kernel
theorem v24_2 : Vs (defScope (top 24)) "_law_floor" := by decide +kernel
theorem d24_2 : Nd "_law_floor" := by decide +kernel
theorem c24_2 : Nc "_law_floor" := by decide +kernel
theorem l24_4 : Lc (defScope (top 24)) "_law_begin" := by decide +kernel
theorem g24__law_box_wires : Gi (defScope (top 24)) "_law_box_wires" := by decide +kernel
theorem v24_3 : Vs (defScope (top 24)) "_law_box" := by decide +kernel
theorem d24_3 : Nd "_law_box" := by decide +kernel
theorem c24_3 : Nc "_law_box" := by decide +kernel
theorem l24_5 : Lc (defScope (top 24)) "_law_m" := by decide +kernel
theorem v24_5 : Vs (defScope (top 24)) "_law_m" := by decide +kernel
theorem d24_5 : Nd "_law_m" := by decide +kernel
theorem c24_5 : Nc "_law_m" := by decide +kernel
theorem g24_range : Gi (defScope (top 24)) "range" := by decide +kernel
def csc24_0 : Scope := { kind := PySem.ScopeKind.function, names := [ (PySem.Str.ofString ".0", PySem.NameKind.local), (PySem.Str.ofString "_law_track", PySem.NameKind.local), (PySem.Str.ofString "_law_box", PySem.NameKind.free), (PySem.Str.ofString "_law_floor", PySem.NameKind.free), (PySem.Str.ofString "_law_m", PySem.NameKind.free)], isGenerator := false, isCoroutine := false, more := [] : PySem.Scope }
theorem cok24_0 : CompOk csc24_0 (defScope (top 24)) (["_law_track"] : List Str) (["_law_script", "_law_at", "_law_floor", "_law_box", "_law_begin", "_law_m", "_law_drives", "_law_joins", "_law_k", "_law_n", "_law_cell", "_law_one"] : List Str) [3, 2, 5] (["_law_track", "_law_box", "_law_floor", "_law_m"] : List Str) := compOk rfl (by decide +kernel) (by decide +kernel) (by decide +kernel) (by decide +kernel) rfl (by decide +kernel)
theorem kq24_0_0 : (relab csc24_0 (defScope (top 24))).names.lookup (Str.ofString "_law_track") = some NameKind.local := by decide +kernel
theorem vq24_0_0 : Vs (relab csc24_0 (defScope (top 24))) "_law_track" := by decide +kernel
theorem dq24_0_0 : Nd "_law_track" := by decide +kernel
theorem cq24_0_0 : Nc "_law_track" := by decide +kernel
theorem vq24_0_2 : Vs (relab csc24_0 (defScope (top 24))) "_law_floor" := by decide +kernel
theorem dq24_0_2 : Nd "_law_floor" := by decide +kernel
theorem cq24_0_2 : Nc "_law_floor" := by decide +kernel
theorem vq24_0_3 : Vs (relab csc24_0 (defScope (top 24))) "_law_m" := by decide +kernel
theorem dq24_0_3 : Nd "_law_m" := by decide +kernel
theorem cq24_0_3 : Nc "_law_m" := by decide +kernel
theorem vq24_0_1 : Vs (relab csc24_0 (defScope (top 24))) "_law_box" := by decide +kernel
theorem dq24_0_1 : Nd "_law_box" := by decide +kernel
theorem cq24_0_1 : Nc "_law_box" := by decide +kernel
theorem l24_6 : Lc (defScope (top 24)) "_law_drives" := by decide +kernel
def csc24_1 : Scope := { kind := PySem.ScopeKind.function, names := [ (PySem.Str.ofString ".0", PySem.NameKind.local), (PySem.Str.ofString "_law_k", PySem.NameKind.local), (PySem.Str.ofString "_law_next", PySem.NameKind.globalImplicit), (PySem.Str.ofString "len", PySem.NameKind.globalImplicit), (PySem.Str.ofString "_law_at", PySem.NameKind.free), (PySem.Str.ofString "_law_begin", PySem.NameKind.free), (PySem.Str.ofString "_law_script", PySem.NameKind.free)], isGenerator := false, isCoroutine := false, more := [] : PySem.Scope }
theorem cok24_1 : CompOk csc24_1 (defScope (top 24)) (["_law_k"] : List Str) (["_law_script", "_law_at", "_law_floor", "_law_box", "_law_begin", "_law_m", "_law_drives", "_law_joins", "_law_k", "_law_n", "_law_cell", "_law_one"] : List Str) [4, 0, 1] (["_law_k", "_law_begin", "_law_script", "_law_at"] : List Str) := compOk rfl (by decide +kernel) (by decide +kernel) (by decide +kernel) (by decide +kernel) rfl (by decide +kernel)
theorem kq24_1_0 : (relab csc24_1 (defScope (top 24))).names.lookup (Str.ofString "_law_k") = some NameKind.local := by decide +kernel
theorem vq24_1_1 : Vs (relab csc24_1 (defScope (top 24))) "_law_begin" := by decide +kernel
theorem dq24_1_1 : Nd "_law_begin" := by decide +kernel
theorem cq24_1_1 : Nc "_law_begin" := by decide +kernel
theorem gq24_1__law_next : Gi (relab csc24_1 (defScope (top 24))) "_law_next" := by decide +kernel
theorem vq24_1_3 : Vs (relab csc24_1 (defScope (top 24))) "_law_at" := by decide +kernel
theorem dq24_1_3 : Nd "_law_at" := by decide +kernel
theorem cq24_1_3 : Nc "_law_at" := by decide +kernel
theorem vq24_1_2 : Vs (relab csc24_1 (defScope (top 24))) "_law_script" := by decide +kernel
theorem dq24_1_2 : Nd "_law_script" := by decide +kernel
theorem cq24_1_2 : Nc "_law_script" := by decide +kernel
theorem gq24_1_len : Gi (relab csc24_1 (defScope (top 24))) "len" := by decide +kernel
theorem l24_7 : Lc (defScope (top 24)) "_law_joins" := by decide +kernel
theorem l24_8 : Lc (defScope (top 24)) "_law_k" := by decide +kernel
theorem l24_9 : Lc (defScope (top 24)) "_law_n" := by decide +kernel
theorem l24_10 : Lc (defScope (top 24)) "_law_cell" := by decide +kernel
theorem v24_9 : Vs (defScope (top 24)) "_law_n" := by decide +kernel
theorem d24_9 : Nd "_law_n" := by decide +kernel
theorem c24_9 : Nc "_law_n" := by decide +kernel
theorem g24_len : Gi (defScope (top 24)) "len" := by decide +kernel
theorem v24_7 : Vs (defScope (top 24)) "_law_joins" := by decide +kernel
theorem d24_7 : Nd "_law_joins" := by decide +kernel
theorem c24_7 : Nc "_law_joins" := by decide +kernel
theorem g24_min : Gi (defScope (top 24)) "min" := by decide +kernel
theorem l24_11 : Lc (defScope (top 24)) "_law_one" := by decide +kernel
theorem v24_11 : Vs (defScope (top 24)) "_law_one" := by decide +kernel
theorem d24_11 : Nd "_law_one" := by decide +kernel
theorem c24_11 : Nc "_law_one" := by decide +kernel
theorem v24_10 : Vs (defScope (top 24)) "_law_cell" := by decide +kernel
theorem d24_10 : Nd "_law_cell" := by decide +kernel
theorem c24_10 : Nc "_law_cell" := by decide +kernel
theorem v24_6 : Vs (defScope (top 24)) "_law_drives" := by decide +kernel
theorem d24_6 : Nd "_law_drives" := by decide +kernel
theorem c24_6 : Nc "_law_drives" := by decide +kernel
structure Way (H' : Hp) (r c t : Int) (wy da ja za : Addr) (ds : List Wr) (dps : List Addr) (js : List Jn) (xs : List V) : Prop where
  hw : H' wy = some (.tup [.ref da, .ref ja, .ref za])
  hd : H' da = some (.lst (dps.map V.ref))
  ws : WsAt H' ds dps
  hj : H' ja = some (.lst xs)
  at_ : JsAt H' js xs
  ok : ∀ j ∈ js, j.ok r c t
  jl : js.length ≤ 12
  dl : ds.length ≤ 3
  dk : ∀ w ∈ ds, ∃ v, w = wK v
  hz : H' za = some (.lst [])
def spDrawn (K : PySem.W.Frag) : Sp := fun vs H Q _ => ∃ (a b fa : Addr) (ns : List Int) (c r cc : Int) (t : Nat), vs = [.ref a, .ref b, .ref fa] ∧ Scr K H a ns ∧ H b = some (.lst [.int c]) ∧ 0 ≤ c ∧ c < 2 ^ 50 ∧ H fa = some (.lst [.int r, .int cc, .int (t : Int)]) ∧ fa ≠ b ∧ 1 ≤ r ∧ r ≤ 4 ∧ 1 ≤ cc ∧ cc ≤ 4 ∧ 1 ≤ t ∧ t ≤ 4 ∧
  ∀ (wy da ja za : Addr) (ds : List Wr) (dps : List Addr) (js : List Jn) (xs : List V) (c' : Int) (H' : Hp), Ch [b] H H' → H' b = some (.lst [.int c']) → 0 ≤ c' → c' ≤ c + 20 → Way H' r cc t wy da ja za ds dps js xs → Q (.ref wy) H'
theorem scDrawn : FnScope ["_law_script", "_law_at", "_law_floor", "_law_box", "_law_begin", "_law_m", "_law_drives", "_law_joins", "_law_k", "_law_n", "_law_cell", "_law_one"] ["_law_script", "_law_at", "_law_floor"] (defScope (top 24)) := ⟨rfl, rfl, rfl, by decide +kernel, rfl, by decide +kernel, by decide +kernel⟩
theorem ok_drawn (F : Fun K "_law_drawn" "_law_drawn" (top 24) f fd) (D_law_next : DefOk P w K mg base CX0 k "_law_next" ["_law_script", "_law_at"] (spNext K)) (D_law_box_wires : DefOk P w K mg base CX0 k "_law_box_wires" ["_law_floor", "_law_box"] spLBox) (z_len : mg "len" = none) (z_range : mg "range" = none) (z_min : mg "min" = none) :
    FnOk P w K mg base CX0 (k + 1) f fd ["_law_script", "_law_at", "_law_floor"] (spDrawn K) := by
  have nd := scDrawn.nd
  refine F.ok scDrawn (fun vs H Q E h => by obtain ⟨a, b, fa, ns, c, r, cc, t, rfl, _⟩ := h; rfl) (fun cdv A outer s H vs Q E hr h => ?_)
  obtain ⟨a, b, fa, ns, c, r, cc, t, rfl, hS, hb, c0, c1, hf, nfb, r0, r1, q0, q1, t0, t1, q⟩ := h
  have hu := hu_of hr
  refine ⟨_, (Pr.h (qpss_cons (qps_set (i := 3) nd rfl l24_3 (qpe_tup (qpa_cons (qpe_op op_mod (qpe_callD D_law_next hr g24__law_next pass0 (qpa_cons (qpe_var (i := 0) rfl v24_0 d24_0 c24_0) (qpa_cons (qpe_var (i := 1) rfl v24_1 d24_1 c24_1) qpa_nil se_Name) se_Name) gd__law_next) (qpe_ix ixa_list (qpe_var (i := 2) rfl v24_2 d24_2 c24_2) qpe_int (fun _ _ => rfl))) (qpa_cons (qpe_op op_mod (qpe_callD D_law_next hr g24__law_next pass0 (qpa_cons (qpe_var (i := 0) rfl v24_0 d24_0 c24_0) (qpa_cons (qpe_var (i := 1) rfl v24_1 d24_1 c24_1) qpa_nil se_Name) se_Name) gd__law_next) (qpe_ix ixa_list (qpe_var (i := 2) rfl v24_2 d24_2 c24_2) qpe_int (fun _ _ => rfl))) qpa_nil se_BinOp) se_BinOp)))
 (qpss_cons (qps_set (i := 4) nd rfl l24_4 (qpe_callD D_law_box_wires hr g24__law_box_wires pass0 (qpa_cons (qpe_var (i := 2) rfl v24_2 d24_2 c24_2) (qpa_cons (qpe_var (i := 3) rfl v24_3 d24_3 c24_3) qpa_nil se_Name) se_Name) gd__law_box_wires))
 (qpss_cons (qps_set (i := 5) nd rfl l24_5 (qpe_callD D_law_next hr g24__law_next pass0 (qpa_cons (qpe_var (i := 0) rfl v24_0 d24_0 c24_0) (qpa_cons (qpe_var (i := 1) rfl v24_1 d24_1 c24_1) qpa_nil se_Name) se_Name) gd__law_next))
 (qpss_cut (qps_if (qpt_cmpR op_eq (qpe_op op_mod (qpe_var (i := 5) rfl v24_5 d24_5 c24_5) qpe_int) qpe_int (nomark _))
  (qpss_one (qps_set (i := 4) nd rfl l24_4 (qpe_comp rfl cok24_0 (qpi_range1 g24_range z_range (qpa_cons (qpe_ix ixa_list (qpe_var (i := 2) rfl v24_2 d24_2 c24_2) qpe_int (fun _ _ => rfl)) qpa_nil se_Subscript)) (fun _ _ _ _ _ => (qpg_name (i := 0) cok24_0.nd rfl (Or.inl kq24_0_0) (Or.inr kq24_0_0))) (fun _ _ _ _ _ => qpif_nil) (fun _ _ _ _ _ => (qpe_tup (qpa_cons qpe_str (qpa_cons (qpe_ix (ixaK_tup K rfl) (qpe_var (i := 1) rfl vq24_0_1 dq24_0_1 cq24_0_1) qpe_int (fun _ _ => rfl)) (qpa_cons (qpe_ix (ixaK_list K rfl) (qpe_lst (qpa_cons (qpe_un un_neg qpe_int) (qpa_cons (qpe_op op_sub (qpe_ix (ixaK_list K rfl) (qpe_var (i := 2) rfl vq24_0_2 dq24_0_2 cq24_0_2) qpe_int (fun _ _ => rfl)) qpe_int) qpa_nil se_BinOp) se_UnaryOp)) (qpe_op op_mod (qpe_op op_fdivW (qpe_var (i := 3) rfl vq24_0_3 dq24_0_3 cq24_0_3) qpe_int) qpe_int) (fun _ _ => rfl)) (qpa_cons (qpe_var (i := 0) rfl vq24_0_0 dq24_0_0 cq24_0_0) qpa_nil se_Name) se_Subscript) se_Subscript) se_Constant))))))
  qpss_nil)
 (qpss_cons (qps_setC (i := 6) nd rfl l24_6 rfl cok24_1 (qpi_range1 g24_range z_range (qpa_cons (qpe_op op_mod (qpe_op op_fdivW (qpe_var (i := 5) rfl v24_5 d24_5 c24_5) qpe_int) qpe_int) qpa_nil se_BinOp)) (fun _ _ _ _ _ => (qpg_name (i := 0) cok24_1.nd rfl (Or.inl kq24_1_0) (Or.inr kq24_1_0))) (fun _ _ _ _ _ => qpif_nil) (fun _ _ _ _ _ => (qpe_ix (ixaK_list K rfl) (qpe_var (i := 1) rfl vq24_1_1 dq24_1_1 cq24_1_1) (qpe_op op_mod (qpe_callD D_law_next hr gq24_1__law_next pass0 (qpa_cons (qpe_var (i := 2) rfl vq24_1_2 dq24_1_2 cq24_1_2) (qpa_cons (qpe_var (i := 3) rfl vq24_1_3 dq24_1_3 cq24_1_3) qpa_nil se_Name) se_Name) gd__law_next) (qpe_callB (callK_len_seq K rfl) gq24_1_len z_len PySem.boot_len (qpa_cons (qpe_var (i := 1) rfl vq24_1_1 dq24_1_1 cq24_1_1) qpa_nil se_Name) nn_len gd_len)) (fun _ _ => rfl))) rfl)
 (qpss_cons (qps_set (i := 7) nd rfl l24_7 (qpe_lst qpa_nil))
 (qpss_cons (qps_loop PassesOwn.never rfl (qpi_range1 g24_range z_range (qpa_cons (qpe_op op_mod (qpe_op op_fdivW (qpe_var (i := 5) rfl v24_5 d24_5 c24_5) qpe_int) qpe_int) qpa_nil se_BinOp)) (qpg_name (i := 8) nd rfl l24_8)
  (qpss_cons (qps_set (i := 9) nd rfl l24_9 (qpe_callD D_law_next hr g24__law_next pass0 (qpa_cons (qpe_var (i := 0) rfl v24_0 d24_0 c24_0) (qpa_cons (qpe_var (i := 1) rfl v24_1 d24_1 c24_1) qpa_nil se_Name) se_Name) gd__law_next))
 (qpss_cons (qps_set (i := 10) nd rfl l24_10 (qpe_tup (qpa_cons (qpe_op op_mod (qpe_var (i := 9) rfl v24_9 d24_9 c24_9) (qpe_ix ixa_list (qpe_var (i := 2) rfl v24_2 d24_2 c24_2) qpe_int (fun _ _ => rfl))) (qpa_cons (qpe_op op_mod (qpe_op op_fdivW (qpe_var (i := 9) rfl v24_9 d24_9 c24_9) qpe_int) (qpe_ix ixa_list (qpe_var (i := 2) rfl v24_2 d24_2 c24_2) qpe_int (fun _ _ => rfl))) qpa_nil se_BinOp) se_BinOp)))
 (qpss_cut (qps_if (qPW_pt (qpw_and (qpt_cmpR op_gt (qpe_op op_mod (qpe_op op_fdivW (qpe_var (i := 9) rfl v24_9 d24_9 c24_9) qpe_int) qpe_int) qpe_int (nomark _)) (qpw_and1 (qpt_cmpR op_gt (qpe_callB call_len_seq g24_len z_len PySem.boot_len (qpa_cons (qpe_var (i := 7) rfl v24_7 d24_7 c24_7) qpa_nil se_Name) nn_len gd_len) qpe_int (nomark _)))))
  (qpss_one (qps_set (i := 10) nd rfl l24_10 (qpe_tup (qpa_cons (qpe_callB (call_min2 rfl) g24_min z_min bo_min (qpa_cons (qpe_op op_sub (qpe_ix ixa_list (qpe_var (i := 2) rfl v24_2 d24_2 c24_2) qpe_int (fun _ _ => rfl)) qpe_int) (qpa_cons (qpe_op op_add (qpe_ix ixa_tup (qpe_ix ixa_tup (qpe_ix ixa_list (qpe_var (i := 7) rfl v24_7 d24_7 c24_7) (qpe_un un_neg qpe_int) (fun _ _ => rfl)) qpe_int (fun _ _ => rfl)) qpe_int (fun _ _ => rfl)) (qpe_op op_mod (qpe_op op_fdivW (qpe_var (i := 9) rfl v24_9 d24_9 c24_9) qpe_int) qpe_int)) qpa_nil se_BinOp) se_BinOp) nn_min gd_min) (qpa_cons (qpe_ix ixa_tup (qpe_ix ixa_tup (qpe_ix ixa_list (qpe_var (i := 7) rfl v24_7 d24_7 c24_7) (qpe_un un_neg qpe_int) (fun _ _ => rfl)) qpe_int (fun _ _ => rfl)) qpe_int (fun _ _ => rfl)) qpa_nil se_Subscript) se_Call))))
  qpss_nil)
 (qpss_cons (qps_set (i := 11) nd rfl l24_11 (qpe_op op_mod (qpe_op op_fdivW (qpe_var (i := 9) rfl v24_9 d24_9 c24_9) qpe_int) qpe_int))
 (qpss_one (qps_expr (qpe_bm PySem.F.plainAttrs_list PySem.F.slot_list_append PySem.F.type_list_append mt_append (qpe_var (i := 7) rfl v24_7 d24_7 c24_7) (qpa_cons (qpe_tup (qpa_cons (qpe_var (i := 10) rfl v24_10 d24_10 c24_10) (qpa_cons (qpe_var (i := 11) rfl v24_11 d24_11 c24_11) (qpa_cons (qpe_op op_add (qpe_op op_add (qpe_var (i := 11) rfl v24_11 d24_11 c24_11) qpe_int) (qpe_op op_mod (qpe_op op_fdivW (qpe_var (i := 9) rfl v24_9 d24_9 c24_9) qpe_int) (qpe_op op_sub qpe_int (qpe_var (i := 11) rfl v24_11 d24_11 c24_11)))) (qpa_cons (qpe_ix ixa_list (qpe_lst (qpa_cons qpe_int (qpa_cons (qpe_op op_mod (qpe_op op_fdivW (qpe_var (i := 9) rfl v24_9 d24_9 c24_9) qpe_int) (qpe_ix ixa_list (qpe_var (i := 2) rfl v24_2 d24_2 c24_2) qpe_int (fun _ _ => rfl))) qpa_nil se_BinOp) se_Constant)) (qpe_op op_mod (qpe_op op_fdivW (qpe_var (i := 9) rfl v24_9 d24_9 c24_9) qpe_int) qpe_int) (fun _ _ => rfl)) qpa_nil se_Subscript) se_BinOp) se_Name) se_Name)) qpa_nil se_Tuple)))))))))
 (qpss_one (qps_ret (qpe_tup (qpa_cons (qpe_var (i := 6) rfl v24_6 d24_6 c24_6) (qpa_cons (qpe_var (i := 7) rfl v24_7 d24_7 c24_7) (qpa_cons (qpe_lst qpa_nil) qpa_nil se_List) se_Name) se_Name)))))))))))), ?_⟩
  (try dsimp only [cxOf])
  have h63 : ns.length ≤ 63 := hS.1
  have hb' := hb
  walk_at "rd"
  rename_i n1 G1 u1 u2 d1 e1 n2 G2 u3 u4 d2 e2 bx hbx bg ys G3 d3 hbg gbg wi m G4 m0 m1 d4 e4
  have D2 : DS K H G2 a b fa ns (c + 1 + 1) r cc t := (DS.next (c' := c) ⟨Ch.refl _ _, hS, hf, hb, nfb⟩ d1 e1).next d2 e2
  have cX : Ch [] G2 (upd G2 bx (.tup [.int (n1 % r), .int (n2 % cc)])) := Ch.new hbx _
  have D3 := D2.new (cX.trans d3)
  have D4 := D3.next d4 e4
  have nbb : bg ≠ b := (ne_of_none (cX.get e2 (by simp)) hbg).symm
  have gbg4 : G4 bg = some (.lst ys) := d4.get gbg (by simpa using nbb)
  have wi4 := wi.chB D3.hb d4
  have gx3 : G3 bx = some (.tup [.int (n1 % r), .int (n2 % cc)]) := d3.get upd_same (by simp)
  have nxb : bx ≠ b := ne_of gx3 D3.hb (by intro z; cases z)
  have gx4 : G4 bx = some (.tup [.int (n1 % r), .int (n2 % cc)]) := d4.get gx3 (by simpa using nxb)
  have x0 : 0 ≤ n1 % r := Int.emod_nonneg _ (by omega)
  have x1 : n1 % r < r := Int.emod_lt_of_pos _ (by omega)
  have y0 : 0 ≤ n2 % cc := Int.emod_nonneg _ (by omega)
  have y1 : n2 % cc < cc := Int.emod_lt_of_pos _ (by omega)
  generalize n1 % r = x at gx4 x0 x1
  generalize n2 % cc = y at gx4 y0 y1
  clear gx3 cX hbx hbg gbg wi d1 e1 d2 e2 d3 d4 e4 u1 u2 u3 u4 hb' D2 D3
  obtain ⟨ch4, hS4, hf4, hb4, _⟩ := id D4
  refine cut_by (fun σ H' => ∃ (bg : Addr) (n : Nat) (zs : List V), σ = [some (.ref a), some (.ref b), some (.ref fa), some (.ref bx), some (.ref bg), some (.int m), none, none, none, none, none, none] ∧ DS K H H' a b fa ns (c + 1 + 1 + 1) r cc t ∧ bg ≠ b ∧ H' bg = some (.lst zs) ∧ Wires H' n zs ∧ 0 < n ∧ n ≤ 16) ?_ ?_
  · walk_at "rd"
    refine ite2 (fun hc => ?_) (fun hc => ?_)
    · have hm0 : 0 ≤ m / 3 % 2 := by omega
      have hm1 : m / 3 % 2 < 2 := by omega
      have hyy := atI_two (u := -1) (v := cc - 1) hm0 hm1
      walk_at "rd"
      refine comp_range (fun i zs σ H' => Ch [] G4 H' ∧ Wires H' i zs ∧ ∃ u, σ = [u, some (.ref bx), some (.ref fa), some (.int m)]) (by rw [sizeLine_eq]; omega) ⟨Ch.refl _ _, .nil, _, rfl⟩ ?_ ?_ ?_
      · rintro i zs σ H' hi ⟨_, wz, _⟩
        rw [wz.len]; exact Nat.le_refl _
      · rintro i zs σ H' hi ⟨c5, wz, u, rfl⟩
        have hf5 : H' fa = some (.lst [.int r, .int cc, .int (t : Int)]) := c5.get hf4 (by simp)
        have gx5 : H' bx = some (.tup [.int x, .int y]) := c5.get gx4 (by simp)
        walk_at "rd"
        rename_i p1 h1 p2 h2
        exact ⟨(wz.ch ((Ch.new h1 _).trans (Ch.new h2 _))).app (.one (v := (true, x, (if m / 3 % 2 = 0 then -1 else cc - 1), 0 + ↑i)) upd_same), _, rfl⟩
      · rintro zs σ H' ⟨c5, wz, _⟩
        intro D hD
        have cD : Ch [] G4 (upd H' D (.lst zs)) := c5.trans (Ch.new hD _)
        refine ⟨D, t, zs, rfl, D4.new cD, (ne_of_none (c5.get hb4 (by simp)) hD).symm, upd_same, ?_, by omega, by omega⟩
        have wz2 : Wires H' t zs := by rw [show t = Int.toNat (t : Int) from by simp]; exact wz
        exact wz2.ch (Ch.new hD _)
    · walk_at "rd"
      show 4 * t ≤ 16
      omega
  · clear D4 gbg4 wi4 nbb ch4 hS4 hf4 hb4 gx4
    rintro σ G5 ⟨bg, n, zs, rfl, D5, nbb, gbg, wi, n0, n16⟩
    obtain ⟨ch5, hS5, hf5, hb5, _⟩ := id D5
    have hm0 : 0 ≤ m / 6 % 4 := by omega
    have hm1 : m / 6 % 4 < 4 := by omega
    walk_at "rd"
    refine comp_range (fun i ws σ H' => DS K H H' a b fa ns (c + 1 + 1 + 1 + i) r cc t ∧ Wires H' i ws ∧ H' bg = some (.lst zs) ∧ Wires H' n zs ∧ ∃ u, σ = [u, some (.ref bg), some (.ref a), some (.ref b)]) (by rw [sizeLine_eq]; omega) ⟨by simpa using D5, .nil, gbg, wi, _, rfl⟩ ?_ ?_ ?_
    · rintro i ws σ H' hi ⟨_, w1, _⟩
      rw [w1.len]; exact Nat.le_refl _
    · rintro i ws σ H' hi ⟨D6, w1, g6, w6, u, rfl⟩
      obtain ⟨ch6, hS6, hf6, hb6, _⟩ := id D6
      have hi4 : i < 4 := by omega
      have lz := w6.len
      walk_at "rd"
      rename_i nn G6 v0 v1 d6 e6
      have w7 := w6.chB hb6 d6
      obtain ⟨p, v, g1, g2⟩ := w7.mod n0 nn
      refine Atx.of g1 ?_
      exact ⟨D6.next d6 (by rw [e6, show c + 1 + 1 + 1 + ((i + 1 : Nat) : Int) = c + 1 + 1 + 1 + (i : Int) + 1 from by omega]), (w1.chB hb6 d6).app (.one g2), d6.get g6 (by simpa using nbb), w7, _, rfl⟩
    rintro ws σ G6 ⟨D6, w6, _⟩
    intro dr hdr
    generalize hdn : (m / 6 % 4).toNat = dn at D6 w6
    have hdn4 : dn < 4 := by omega
    have D7 := D6.new (Ch.new (o := .lst ws) hdr)
    have w7 := w6.ch (Ch.new (o := .lst ws) hdr)
    have g7 : (upd G6 dr (.lst ws)) dr = some (.lst ws) := upd_same
    have ndb : dr ≠ b := (ne_of_none D6.hb hdr).symm
    generalize upd G6 dr (.lst ws) = G7 at D7 w7 g7 ⊢
    clear D6 w6 hdr D5 gbg wi ch5 hS5 hf5 hb5 nbb n0 n16
    obtain ⟨ch7, hS7, hf7, hb7, _⟩ := id D7
    have hm2 : 0 ≤ m / 24 % 13 := by omega
    have hm3 : m / 24 % 13 < 13 := by omega
    walk_at "rd"
    rename_i jl hjl
    have njb : jl ≠ b := (ne_of_none hb7 hjl).symm
    have njd : jl ≠ dr := (ne_of_none g7 hjl).symm
    have hj0 : H jl = none := by
      cases e : H jl with
      | none => rfl
      | some o => rw [ch7.get e (by simpa using njb)] at hjl; cases hjl
    have nfj : fa ≠ jl := ne_of_none hf hj0
    refine loop_range (fun i σ H' => ∃ (u8 u9 u10 u11 : Option V) (js : List Jn) (xs : List V), σ = [some (.ref a), some (.ref b), some (.ref fa), some (.ref bx), some (.ref bg), some (.int m), some (.ref dr), some (.ref jl), u8, u9, u10, u11] ∧ DS K H H' a b fa ns (c + 1 + 1 + 1 + dn + i) r cc t ∧ H' dr = some (.lst ws) ∧ Wires H' dn ws ∧ H' jl = some (.lst xs) ∧ JsAt H' js xs ∧ js.length = i ∧ ∀ j ∈ js, j.ok r cc t)
      ⟨_, _, _, _, [], [], rfl, by simpa using D7.new (Ch.new hjl _), g_new hjl g7, w7.ch (Ch.new hjl _), upd_same, ⟨rfl, by simp⟩, rfl, by simp⟩ ?_ ?_
    · rintro i σ H1 hi ⟨u8, u9, u10, u11, js, xs, rfl, D8, gd, wd, gj, ja, ji, jo⟩
      obtain ⟨ch8, hS8, hf8, hb8, _⟩ := id D8
      have hi13 : i < 13 := by omega
      have lx := ja.len
      walk_at "rd"
      rename_i nn G2 v0 v1 d2 e2 ce hce
      have cN : Ch [] G2 (upd G2 ce (.tup [.int (nn % r), .int (nn / 10 % cc)])) := Ch.new hce _
      have D9 := (D8.next d2 e2).new cN
      have gd9 : (upd G2 ce (.tup [.int (nn % r), .int (nn / 10 % cc)])) dr = some (.lst ws) := cN.get (d2.get gd (by simpa using ndb)) (by simp)
      have wd9 := (wd.chB hb8 d2).ch cN
      have gj9 : (upd G2 ce (.tup [.int (nn % r), .int (nn / 10 % cc)])) jl = some (.lst xs) := cN.get (d2.get gj (by simpa using njb)) (by simp)
      have ja9 := (ja.put hb8 d2).ch cN
      have gc9 : (upd G2 ce (.tup [.int (nn % r), .int (nn / 10 % cc)])) ce = some (.tup [.int (nn % r), .int (nn / 10 % cc)]) := upd_same
      have x0' : 0 ≤ nn % r := Int.emod_nonneg _ (by omega)
      have x1' : nn % r < r := Int.emod_lt_of_pos _ (by omega)
      have y0' : 0 ≤ nn / 10 % cc := Int.emod_nonneg _ (by omega)
      have y1' : nn / 10 % cc < cc := Int.emod_lt_of_pos _ (by omega)
      generalize upd G2 ce (.tup [.int (nn % r), .int (nn / 10 % cc)]) = G3 at D9 gd9 wd9 gj9 ja9 gc9 ⊢
      generalize nn % r = x' at gc9 x0' x1' ⊢
      generalize nn / 10 % cc = y' at gc9 y0' y1' ⊢
      clear D8 gd wd gj ja ch8 hS8 hf8 hb8 d2 e2 hce cN D7 w7 g7 ch7 hS7 hf7 hb7 hjl
      obtain ⟨ch9, hS9, hf9, hb9, _⟩ := id D9
      have dw : 0 ≤ nn / 300 % 2 := by omega
      have dw1 : nn / 300 % 2 < 2 := by omega
      refine cut_by (fun σ H' => ∃ (ce : Addr) (x y : Int), σ = [some (.ref a), some (.ref b), some (.ref fa), some (.ref bx), some (.ref bg), some (.int m), some (.ref dr), some (.ref jl), some (.int (0 + (i : Int))), some (.int nn), some (.ref ce), u11] ∧ H' ce = some (.tup [.int x, .int y]) ∧ 0 ≤ x ∧ x < r ∧ 0 ≤ y ∧ y < cc ∧ DS K H H' a b fa ns (c + 1 + 1 + 1 + dn + i + 1) r cc t ∧ H' dr = some (.lst ws) ∧ Wires H' dn ws ∧ H' jl = some (.lst xs) ∧ JsAt H' js xs) ?_ ?_
      · walk_at "rd"
        refine ite2 (fun hc => ?_) (fun hc => ?_)
        · walk_at "rd"
          refine ite2 (fun hc2 => ?_) (fun hc2 => ?_)
          · obtain ⟨p, bx', j, k1, k2, k3, k4⟩ := ja9.last (by rw [← lx]; simpa using hc2)
            obtain ⟨xx0, xx1, yy0, yy1, _, _, _, _, _, _⟩ := jo j k2
            walk_at "rd"
            rename_i p2 h2
            have cM : Ch [] G3 (upd G3 p2 (.tup [.int (if j.x + nn / 300 % 2 < r - 1 then j.x + nn / 300 % 2 else r - 1), .int j.y])) := Ch.new h2 _
            exact ⟨D9.new cM, cM.get gd9 (by simp), wd9.ch cM, cM.get gj9 (by simp), ja9.ch cM⟩
          · walk_at "rd"
        · walk_at "rd"
      · clear D9 gd9 wd9 gj9 ja9 gc9 x0' x1' y0' y1' ch9 hS9 hf9 hb9
        rintro σ' G4 ⟨ce', x2, y2, rfl, gc, xx0, xx1, yy0, yy1, D10, gd, wd, gj, ja⟩
        obtain ⟨ch10, hS10, hf10, hb10, _⟩ := id D10
        have o0 : 0 ≤ nn / 1000 % 3 := by omega
        have o1 : nn / 1000 % 3 < 3 := by omega
        have z0 : 0 ≤ nn / 90000 % 2 := by omega
        have z1 : nn / 90000 % 2 < 2 := by omega
        have hzz := atI_two (u := 0) (v := nn / 9000 % (t : Int)) z0 z1
        have s0 : 0 ≤ nn / 3000 % (3 - nn / 1000 % 3) := Int.emod_nonneg _ (by omega)
        have s1 : nn / 3000 % (3 - nn / 1000 % 3) < 3 - nn / 1000 % 3 := Int.emod_lt_of_pos _ (by omega)
        have tr0 : 0 ≤ nn / 9000 % (t : Int) := Int.emod_nonneg _ (by omega)
        have tr1 : nn / 9000 % (t : Int) < (t : Int) := Int.emod_lt_of_pos _ (by omega)
        have lxs : xs.length < sizeLine := by rw [sizeLine_eq]; omega
        walk_at "rd"
        rename_i l1 h1 p2 h2
        have cM : Ch [] G4 (upd (upd G4 l1 (.lst [.int 0, .int (nn / 9000 % (t : Int))])) p2 (.tup [.ref ce', .int (nn / 1000 % 3), .int (nn / 1000 % 3 + 1 + nn / 3000 % (3 - nn / 1000 % 3)), .int (if nn / 90000 % 2 = 0 then 0 else nn / 9000 % (t : Int))])) := (Ch.new h1 _).trans (Ch.new h2 _)
        have gp : (upd (upd G4 l1 (.lst [.int 0, .int (nn / 9000 % (t : Int))])) p2 (.tup [.ref ce', .int (nn / 1000 % 3), .int (nn / 1000 % 3 + 1 + nn / 3000 % (3 - nn / 1000 % 3)), .int (if nn / 90000 % 2 = 0 then 0 else nn / 9000 % (t : Int))])) p2 = some (.tup [.ref ce', .int (nn / 1000 % 3), .int (nn / 1000 % 3 + 1 + nn / 3000 % (3 - nn / 1000 % 3)), .int (if nn / 90000 % 2 = 0 then 0 else nn / 9000 % (t : Int))]) := upd_same
        have D11 := D10.new cM
        have gj11 := cM.get gj (by simp)
        have gd11 := cM.get gd (by simp)
        have gc11 := cM.get gc (by simp)
        have wd11 := wd.ch cM
        have ja11 := ja.ch cM
        rw [show c + 1 + 1 + 1 + (dn : Int) + ((i + 1 : Nat) : Int) = c + 1 + 1 + 1 + dn + i + 1 from by omega]
        refine ⟨D11.own hj0 gj11 njb.symm nfj, g_put njd.symm gd11, wd11.put gj11, upd_same, JsAt.snoc (j := ⟨x2, y2, nn / 1000 % 3, nn / 1000 % 3 + 1 + nn / 3000 % (3 - nn / 1000 % 3), if nn / 90000 % 2 = 0 then 0 else nn / 9000 % (t : Int)⟩) (ja11.put gj11 Ch.put) (g_put (ne_of gp gj11 (by intro z; cases z)) gp) (g_put (ne_of gc11 gj11 (by intro z; cases z)) gc11), by simp [ji], fun j hj => ?_⟩
        rcases List.mem_append.mp hj with hj | hj
        · exact jo j hj
        · rw [List.mem_singleton.mp hj]
          exact ⟨xx0, xx1, yy0, yy1, o0, by show nn / 1000 % 3 < 4; omega, by show 0 ≤ nn / 1000 % 3 + 1 + nn / 3000 % (3 - nn / 1000 % 3); omega, by show nn / 1000 % 3 + 1 + nn / 3000 % (3 - nn / 1000 % 3) < 4; omega, by show 0 ≤ (if nn / 90000 % 2 = 0 then 0 else nn / 9000 % (t : Int)); split <;> omega, by show (if nn / 90000 % 2 = 0 then 0 else nn / 9000 % (t : Int)) < (t : Int); split <;> omega⟩
    · rintro σ H1 ⟨u8, u9, u10, u11, js, xs, rfl, D8, gd, wd, gj, ja, ji, jo⟩
      obtain ⟨dws, dps, rfl, wsa, ln, dk⟩ := wd.ex
      walk_at "rd"
      rename_i zl hzl wy hwy
      have cE : Ch [] H1 (upd (upd H1 zl (.lst [])) wy (.tup [.ref dr, .ref jl, .ref zl])) := (Ch.new hzl _).trans (Ch.new hwy _)
      have D9 := D8.new cE
      exact q wy dr jl zl dws dps js xs _ _ D9.ch D9.hb (by omega) (by omega) ⟨upd_same, cE.get gd (by simp), wsa.imp fun p xs h => cE.get h (by simp), cE.get gj (by simp), ja.ch cE, jo, by omega, by omega, dk, g_new hwy upd_same⟩
end
end

section
section
variable {P : Program} {w : World} {K : PySem.W.Frag} {mg : Str → Option Value} {base : Heap} {f : Addr} {fd : FuncData} {k : Nat}
theorem bo_dict : bootBuiltins "dict" = some (.type "dict") := by decide +kernel
theorem nn_dict : ("dict" : Str) ≠ "__name__" := by decide +kernel
theorem gd_dict : Nd "dict" := by decide +kernel
theorem bo_all : bootBuiltins "all" = some (.builtin "all") := by decide +kernel
theorem gd__law_same : Nd "_law_same" := by decide +kernel
theorem nn_all : ("all" : Str) ≠ "__name__" := by decide +kernel
theorem gd_all : Nd "all" := by decide +kernel
theorem bo_str : bootBuiltins "str" = some (.type "str") := by decide +kernel
theorem nn_str : ("str" : Str) ≠ "__name__" := by decide +kernel
theorem gd_str : Nd "str" := by decide +kernel
theorem v20_1 : Vs (defScope (top 20)) "_law_due" := by decide +kernel
theorem d20_1 : Nd "_law_due" := by decide +kernel
theorem c20_1 : Nc "_law_due" := by decide +kernel
theorem v20_0 : Vs (defScope (top 20)) "_law_found" := by decide +kernel
theorem d20_0 : Nd "_law_found" := by decide +kernel
theorem c20_0 : Nc "_law_found" := by decide +kernel
theorem g20_isinstance : Gi (defScope (top 20)) "isinstance" := by decide +kernel
theorem g20_dict : Gi (defScope (top 20)) "dict" := by decide +kernel
theorem g20_len : Gi (defScope (top 20)) "len" := by decide +kernel
theorem g20_all : Gi (defScope (top 20)) "all" := by decide +kernel
def csc20_0 : Scope := { kind := PySem.ScopeKind.function, names := [ (PySem.Str.ofString ".0", PySem.NameKind.local), (PySem.Str.ofString "_law_name", PySem.NameKind.local), (PySem.Str.ofString "_law_same", PySem.NameKind.globalImplicit), (PySem.Str.ofString "_law_due", PySem.NameKind.free), (PySem.Str.ofString "_law_found", PySem.NameKind.free)], isGenerator := false, isCoroutine := false, more := [] : PySem.Scope }
theorem cok20_0 : CompOk csc20_0 (defScope (top 20)) (["_law_name"] : List Str) (["_law_found", "_law_due"] : List Str) [0, 1] (["_law_name", "_law_found", "_law_due"] : List Str) := compOk rfl (by decide +kernel) (by decide +kernel) (by decide +kernel) (by decide +kernel) rfl (by decide +kernel)
theorem kq20_0_0 : (relab csc20_0 (defScope (top 20))).names.lookup (Str.ofString "_law_name") = some NameKind.local := by decide +kernel
theorem gq20_0__law_same : Gi (relab csc20_0 (defScope (top 20))) "_law_same" := by decide +kernel
theorem vq20_0_2 : Vs (relab csc20_0 (defScope (top 20))) "_law_due" := by decide +kernel
theorem dq20_0_2 : Nd "_law_due" := by decide +kernel
theorem cq20_0_2 : Nc "_law_due" := by decide +kernel
theorem vq20_0_0 : Vs (relab csc20_0 (defScope (top 20))) "_law_name" := by decide +kernel
theorem dq20_0_0 : Nd "_law_name" := by decide +kernel
theorem cq20_0_0 : Nc "_law_name" := by decide +kernel
theorem vq20_0_1 : Vs (relab csc20_0 (defScope (top 20))) "_law_found" := by decide +kernel
theorem dq20_0_1 : Nd "_law_found" := by decide +kernel
theorem cq20_0_1 : Nc "_law_found" := by decide +kernel
theorem g20_tuple : Gi (defScope (top 20)) "tuple" := by decide +kernel
theorem g20_list : Gi (defScope (top 20)) "list" := by decide +kernel
theorem g20_zip : Gi (defScope (top 20)) "zip" := by decide +kernel
def csc20_1 : Scope := { kind := PySem.ScopeKind.function, names := [ (PySem.Str.ofString ".0", PySem.NameKind.local), (PySem.Str.ofString "_law_one", PySem.NameKind.local), (PySem.Str.ofString "_law_other", PySem.NameKind.local), (PySem.Str.ofString "_law_same", PySem.NameKind.globalImplicit)], isGenerator := false, isCoroutine := false, more := [] : PySem.Scope }
theorem cok20_1 : CompOk csc20_1 (defScope (top 20)) (["_law_one", "_law_other"] : List Str) (["_law_found", "_law_due"] : List Str) [] (["_law_one", "_law_other"] : List Str) := compOk rfl (by decide +kernel) (by decide +kernel) (by decide +kernel) (by decide +kernel) rfl (by decide +kernel)
theorem kq20_1_1 : (relab csc20_1 (defScope (top 20))).names.lookup (Str.ofString "_law_other") = some NameKind.local := by decide +kernel
theorem kq20_1_0 : (relab csc20_1 (defScope (top 20))).names.lookup (Str.ofString "_law_one") = some NameKind.local := by decide +kernel
theorem gq20_1__law_same : Gi (relab csc20_1 (defScope (top 20))) "_law_same" := by decide +kernel
theorem vq20_1_1 : Vs (relab csc20_1 (defScope (top 20))) "_law_other" := by decide +kernel
theorem dq20_1_1 : Nd "_law_other" := by decide +kernel
theorem cq20_1_1 : Nc "_law_other" := by decide +kernel
theorem vq20_1_0 : Vs (relab csc20_1 (defScope (top 20))) "_law_one" := by decide +kernel
theorem dq20_1_0 : Nd "_law_one" := by decide +kernel
theorem cq20_1_0 : Nc "_law_one" := by decide +kernel
theorem g20_str : Gi (defScope (top 20)) "str" := by decide +kernel
theorem g20_bool : Gi (defScope (top 20)) "bool" := by decide +kernel
theorem g20_int : Gi (defScope (top 20)) "int" := by decide +kernel
def spSame : Nat → Sp
  | 0 => fun vs H Q _ => ∃ i : Key, vs = [kV i, kV i] ∧ ∀ H', Ch [] H H' → Q (.bl true) H'
  | 1 => fun vs H Q _ => ∃ (p r : Addr) (ks : Wr), vs = [.ref p, .ref r] ∧ H p = some (.tup (ks.map kV)) ∧ H r = some (.tup (ks.map kV)) ∧ ks.length ≤ 4 ∧ ∀ H', Ch [] H H' → Q (.bl true) H'
  | _ => fun vs H Q _ => ∃ (p r : Addr) (ws : List Wr) (ps rs : List Addr), vs = [.ref p, .ref r] ∧ H p = some (.lst (ps.map V.ref)) ∧ H r = some (.lst (rs.map V.ref)) ∧ WsAt H ws ps ∧ WsAt H ws rs ∧ (∀ w ∈ ws, w.length ≤ 4) ∧ ws.length ≤ 64 ∧ ∀ H', Ch [] H H' → Q (.bl true) H'
def spF : Sp := fun _ _ _ _ => False
theorem scSame : FnScope ["_law_found", "_law_due"] ["_law_found", "_law_due"] (defScope (top 20)) := ⟨rfl, rfl, rfl, by decide +kernel, rfl, by decide +kernel, by decide +kernel⟩
theorem ok_same0 (F : Fun K "_law_same" "_law_same" (top 20) f fd) (D_law_same : DefOk P w K mg base CX0 k "_law_same" ["_law_found", "_law_due"] spF) (z_isinstance : mg "isinstance" = none) (z_dict : mg "dict" = none) (z_list : mg "list" = none) (z_tuple : mg "tuple" = none) (z_str : mg "str" = none) (z_int : mg "int" = none) (z_bool : mg "bool" = none) (z_len : mg "len" = none) (z_all : mg "all" = none) (z_zip : mg "zip" = none) :
    FnOk P w K mg base CX0 (k + 1) f fd ["_law_found", "_law_due"] (spSame 0) := by
  have nd := scSame.nd
  refine F.ok scSame (fun vs H Q E h => by obtain ⟨b, rfl, _⟩ := h; rfl) (fun cdv A outer s H vs Q E hr h => ?_)
  obtain ⟨b, rfl, q⟩ := h
  refine ⟨_, (Pr.h (qpss_cons (qps_if (qpt_cmpR op_isN (qpe_var (i := 1) rfl v20_1 d20_1 c20_1) qpe_non (nomark _))
  (qpss_one (qps_ret (qpe_cmpR op_isN (qpe_var (i := 0) rfl v20_0 d20_0 c20_0) qpe_non (nomark _))))
  qpss_nil)
 (qpss_cons (qps_if (qpt_val (qpe_callB call_isT g20_isinstance z_isinstance bo_isinstance (qpa_cons (qpe_var (i := 1) rfl v20_1 d20_1 c20_1) (qpa_cons (qpe_bltn (v := .ty "dict") g20_dict z_dict bo_dict rfl nn_dict gd_dict) qpa_nil)) nn_isinstance gd_isinstance))
  (qpss_cons (qps_if (qPW_pt (qpw_or (qpt_not (qpt_val (qpe_callB call_isT g20_isinstance z_isinstance bo_isinstance (qpa_cons (qpe_var (i := 0) rfl v20_0 d20_0 c20_0) (qpa_cons (qpe_bltn (v := .ty "dict") g20_dict z_dict bo_dict rfl nn_dict gd_dict) qpa_nil)) nn_isinstance gd_isinstance))) (qpw_or1 (qpt_cmpR op_ne (qpe_callB call_len_seq g20_len z_len PySem.boot_len (qpa_cons (qpe_var (i := 0) rfl v20_0 d20_0 c20_0) qpa_nil se_Name) nn_len gd_len) (qpe_callB call_len_seq g20_len z_len PySem.boot_len (qpa_cons (qpe_var (i := 1) rfl v20_1 d20_1 c20_1) qpa_nil se_Name) nn_len gd_len) (nomark _)))))
  (qpss_one (qps_ret qpe_bl))
  qpss_nil)
 (qpss_one (qps_ret (qpe_callB (call_all rfl) g20_all z_all bo_all (qpa_cons (qpe_comp rfl cok20_0 (qpi_list (qpe_var (i := 1) rfl v20_1 d20_1 c20_1)) (fun _ _ _ _ _ => (qpg_name (i := 0) cok20_0.nd rfl (Or.inl kq20_0_0) (Or.inr kq20_0_0))) (fun _ _ _ _ _ => qpif_nil) (fun _ _ _ _ _ => (qpe_and (qpe_cmpR (opK_in_seq K rfl) (qpe_var (i := 0) rfl vq20_0_0 dq20_0_0 cq20_0_0) (qpe_var (i := 1) rfl vq20_0_1 dq20_0_1 cq20_0_1) rfl) (qpe_one (qpe_callD D_law_same hr gq20_0__law_same pass0 (qpa_cons (qpe_ix (ixaK_list K rfl) (qpe_var (i := 1) rfl vq20_0_1 dq20_0_1 cq20_0_1) (qpe_var (i := 0) rfl vq20_0_0 dq20_0_0 cq20_0_0) (fun _ _ => rfl)) (qpa_cons (qpe_ix (ixaK_list K rfl) (qpe_var (i := 2) rfl vq20_0_2 dq20_0_2 cq20_0_2) (qpe_var (i := 0) rfl vq20_0_0 dq20_0_0 cq20_0_0) (fun _ _ => rfl)) qpa_nil se_Subscript) se_Subscript) gd__law_same))))) qpa_nil se_ListComp) nn_all gd_all))))
  qpss_nil)
 (qpss_cons (qps_if (qPW_pt (qpw_or (qpt_val (qpe_callB call_isT g20_isinstance z_isinstance bo_isinstance (qpa_cons (qpe_var (i := 1) rfl v20_1 d20_1 c20_1) (qpa_cons (qpe_bltn (v := .ty "list") g20_list z_list bo_list rfl nn_list gd_list) qpa_nil)) nn_isinstance gd_isinstance)) (qpw_or1 (qpt_val (qpe_callB call_isT g20_isinstance z_isinstance bo_isinstance (qpa_cons (qpe_var (i := 1) rfl v20_1 d20_1 c20_1) (qpa_cons (qpe_bltn (v := .ty "tuple") g20_tuple z_tuple bo_tuple rfl nn_tuple gd_tuple) qpa_nil)) nn_isinstance gd_isinstance)))))
  (qpss_cons (qps_if (qpt_cmpR op_ne (qpe_callB call_isT g20_isinstance z_isinstance bo_isinstance (qpa_cons (qpe_var (i := 0) rfl v20_0 d20_0 c20_0) (qpa_cons (qpe_bltn (v := .ty "list") g20_list z_list bo_list rfl nn_list gd_list) qpa_nil)) nn_isinstance gd_isinstance) (qpe_callB call_isT g20_isinstance z_isinstance bo_isinstance (qpa_cons (qpe_var (i := 1) rfl v20_1 d20_1 c20_1) (qpa_cons (qpe_bltn (v := .ty "list") g20_list z_list bo_list rfl nn_list gd_list) qpa_nil)) nn_isinstance gd_isinstance) (nomark _))
  (qpss_one (qps_ret qpe_bl))
  qpss_nil)
 (qpss_cons (qps_if (qPW_pt (qpw_or (qpt_cmpR op_ne (qpe_callB call_isT g20_isinstance z_isinstance bo_isinstance (qpa_cons (qpe_var (i := 0) rfl v20_0 d20_0 c20_0) (qpa_cons (qpe_bltn (v := .ty "tuple") g20_tuple z_tuple bo_tuple rfl nn_tuple gd_tuple) qpa_nil)) nn_isinstance gd_isinstance) (qpe_callB call_isT g20_isinstance z_isinstance bo_isinstance (qpa_cons (qpe_var (i := 1) rfl v20_1 d20_1 c20_1) (qpa_cons (qpe_bltn (v := .ty "tuple") g20_tuple z_tuple bo_tuple rfl nn_tuple gd_tuple) qpa_nil)) nn_isinstance gd_isinstance) (nomark _)) (qpw_or1 (qpt_cmpR op_ne (qpe_callB call_len_seq g20_len z_len PySem.boot_len (qpa_cons (qpe_var (i := 0) rfl v20_0 d20_0 c20_0) qpa_nil se_Name) nn_len gd_len) (qpe_callB call_len_seq g20_len z_len PySem.boot_len (qpa_cons (qpe_var (i := 1) rfl v20_1 d20_1 c20_1) qpa_nil se_Name) nn_len gd_len) (nomark _)))))
  (qpss_one (qps_ret qpe_bl))
  qpss_nil)
 (qpss_one (qps_ret (qpe_callB (call_all rfl) g20_all z_all bo_all (qpa_cons (qpe_comp rfl cok20_1 (qpi_zip .list .list g20_zip z_zip (qpa_cons (qpe_var (i := 0) rfl v20_0 d20_0 c20_0) (qpa_cons (qpe_var (i := 1) rfl v20_1 d20_1 c20_1) qpa_nil se_Name) se_Name)) (fun _ _ _ _ _ => (qpg_tupK K 2 rfl rfl (qpgs_cons (qpg_name (i := 0) cok20_1.nd rfl (Or.inl kq20_1_0) (Or.inr kq20_1_0)) (qpgs_cons (qpg_name (i := 1) cok20_1.nd rfl (Or.inl kq20_1_1) (Or.inr kq20_1_1)) qpgs_nil)))) (fun _ _ _ _ _ => qpif_nil) (fun _ _ _ _ _ => (qpe_callD D_law_same hr gq20_1__law_same pass0 (qpa_cons (qpe_var (i := 0) rfl vq20_1_0 dq20_1_0 cq20_1_0) (qpa_cons (qpe_var (i := 1) rfl vq20_1_1 dq20_1_1 cq20_1_1) qpa_nil se_Name) se_Name) gd__law_same))) qpa_nil se_ListComp) nn_all gd_all)))))
  qpss_nil)
 (qpss_cons (qps_if (qpt_val (qpe_callB call_isT g20_isinstance z_isinstance bo_isinstance (qpa_cons (qpe_var (i := 1) rfl v20_1 d20_1 c20_1) (qpa_cons (qpe_bltn (v := .ty "str") g20_str z_str bo_str rfl nn_str gd_str) qpa_nil)) nn_isinstance gd_isinstance))
  (qpss_one (qps_ret (qpe_and (qpe_callB call_isT g20_isinstance z_isinstance bo_isinstance (qpa_cons (qpe_var (i := 0) rfl v20_0 d20_0 c20_0) (qpa_cons (qpe_bltn (v := .ty "str") g20_str z_str bo_str rfl nn_str gd_str) qpa_nil)) nn_isinstance gd_isinstance) (qpe_one (qpe_cmpR op_eq (qpe_var (i := 0) rfl v20_0 d20_0 c20_0) (qpe_var (i := 1) rfl v20_1 d20_1 c20_1) (nomark _))))))
  qpss_nil)
 (qpss_one (qps_ret (qpe_and (qpe_callB call_isT g20_isinstance z_isinstance bo_isinstance (qpa_cons (qpe_var (i := 0) rfl v20_0 d20_0 c20_0) (qpa_cons (qpe_bltn (v := .ty "int") g20_int z_int bo_int rfl nn_int gd_int) qpa_nil)) nn_isinstance gd_isinstance) (qpe_and (qpe_not (qpe_callB call_isT g20_isinstance z_isinstance bo_isinstance (qpa_cons (qpe_var (i := 0) rfl v20_0 d20_0 c20_0) (qpa_cons (qpe_bltn (v := .ty "bool") g20_bool z_bool bo_bool rfl nn_bool gd_bool) qpa_nil)) nn_isinstance gd_isinstance)) (qpe_one (qpe_cmpR op_eq (qpe_var (i := 0) rfl v20_0 d20_0 c20_0) (qpe_var (i := 1) rfl v20_1 d20_1 c20_1) (nomark _)))))))))))), ?_⟩
  (try dsimp only [cxOf])
  cases b with
  | inl b =>
    show _
    dsimp only [kV]
    walk_at "rd"
    have e : decide (V.int b = V.int b) = true := by simp
    rw [e]
    exact q _ (Ch.refl _ _)
  | inr b =>
    dsimp only [kV]
    walk_at "rd"
    have e : decide (V.str b = V.str b) = true := by simp
    rw [e]
    exact q _ (Ch.refl _ _)
theorem ok_sameF (F : Fun K "_law_same" "_law_same" (top 20) f fd) : FnOk P w K mg base CX0 (k + 1) f fd ["_law_found", "_law_due"] spF :=
  F.ok scSame (fun vs H Q E h => h.elim) (fun cdv A outer s H vs Q E hr h => h.elim)
theorem ok_same1 (F : Fun K "_law_same" "_law_same" (top 20) f fd) (D_law_same : DefOk P w K mg base CX0 k "_law_same" ["_law_found", "_law_due"] (spSame 0)) (z_isinstance : mg "isinstance" = none) (z_dict : mg "dict" = none) (z_list : mg "list" = none) (z_tuple : mg "tuple" = none) (z_str : mg "str" = none) (z_int : mg "int" = none) (z_bool : mg "bool" = none) (z_len : mg "len" = none) (z_all : mg "all" = none) (z_zip : mg "zip" = none) :
    FnOk P w K mg base CX0 (k + 1) f fd ["_law_found", "_law_due"] (spSame 1) := by
  have nd := scSame.nd
  refine F.ok scSame (fun vs H Q E h => by obtain ⟨p, r, xs, rfl, _⟩ := h; rfl) (fun cdv A outer s H vs Q E hr h => ?_)
  obtain ⟨p, r, ks, rfl, hp, hr1, hl, q⟩ := h
  refine ⟨_, (Pr.h (qpss_cons (qps_if (qpt_cmpR op_isN (qpe_var (i := 1) rfl v20_1 d20_1 c20_1) qpe_non (nomark _))
  (qpss_one (qps_ret (qpe_cmpR op_isN (qpe_var (i := 0) rfl v20_0 d20_0 c20_0) qpe_non (nomark _))))
  qpss_nil)
 (qpss_cons (qps_if (qpt_val (qpe_callB call_isT g20_isinstance z_isinstance bo_isinstance (qpa_cons (qpe_var (i := 1) rfl v20_1 d20_1 c20_1) (qpa_cons (qpe_bltn (v := .ty "dict") g20_dict z_dict bo_dict rfl nn_dict gd_dict) qpa_nil)) nn_isinstance gd_isinstance))
  (qpss_cons (qps_if (qPW_pt (qpw_or (qpt_not (qpt_val (qpe_callB call_isT g20_isinstance z_isinstance bo_isinstance (qpa_cons (qpe_var (i := 0) rfl v20_0 d20_0 c20_0) (qpa_cons (qpe_bltn (v := .ty "dict") g20_dict z_dict bo_dict rfl nn_dict gd_dict) qpa_nil)) nn_isinstance gd_isinstance))) (qpw_or1 (qpt_cmpR op_ne (qpe_callB call_len_seq g20_len z_len PySem.boot_len (qpa_cons (qpe_var (i := 0) rfl v20_0 d20_0 c20_0) qpa_nil se_Name) nn_len gd_len) (qpe_callB call_len_seq g20_len z_len PySem.boot_len (qpa_cons (qpe_var (i := 1) rfl v20_1 d20_1 c20_1) qpa_nil se_Name) nn_len gd_len) (nomark _)))))
  (qpss_one (qps_ret qpe_bl))
  qpss_nil)
 (qpss_one (qps_ret (qpe_callB (call_all rfl) g20_all z_all bo_all (qpa_cons (qpe_comp rfl cok20_0 (qpi_tup (qpe_var (i := 1) rfl v20_1 d20_1 c20_1)) (fun _ _ _ _ _ => (qpg_name (i := 0) cok20_0.nd rfl (Or.inl kq20_0_0) (Or.inr kq20_0_0))) (fun _ _ _ _ _ => qpif_nil) (fun _ _ _ _ _ => (qpe_and (qpe_cmpR (opK_in_seq K rfl) (qpe_var (i := 0) rfl vq20_0_0 dq20_0_0 cq20_0_0) (qpe_var (i := 1) rfl vq20_0_1 dq20_0_1 cq20_0_1) rfl) (qpe_one (qpe_callD D_law_same hr gq20_0__law_same pass0 (qpa_cons (qpe_ix (ixaK_tup K rfl) (qpe_var (i := 1) rfl vq20_0_1 dq20_0_1 cq20_0_1) (qpe_var (i := 0) rfl vq20_0_0 dq20_0_0 cq20_0_0) (fun _ _ => rfl)) (qpa_cons (qpe_ix (ixaK_tup K rfl) (qpe_var (i := 2) rfl vq20_0_2 dq20_0_2 cq20_0_2) (qpe_var (i := 0) rfl vq20_0_0 dq20_0_0 cq20_0_0) (fun _ _ => rfl)) qpa_nil se_Subscript) se_Subscript) gd__law_same))))) qpa_nil se_ListComp) nn_all gd_all))))
  qpss_nil)
 (qpss_cons (qps_if (qPW_pt (qpw_or (qpt_val (qpe_callB call_isT g20_isinstance z_isinstance bo_isinstance (qpa_cons (qpe_var (i := 1) rfl v20_1 d20_1 c20_1) (qpa_cons (qpe_bltn (v := .ty "list") g20_list z_list bo_list rfl nn_list gd_list) qpa_nil)) nn_isinstance gd_isinstance)) (qpw_or1 (qpt_val (qpe_callB call_isT g20_isinstance z_isinstance bo_isinstance (qpa_cons (qpe_var (i := 1) rfl v20_1 d20_1 c20_1) (qpa_cons (qpe_bltn (v := .ty "tuple") g20_tuple z_tuple bo_tuple rfl nn_tuple gd_tuple) qpa_nil)) nn_isinstance gd_isinstance)))))
  (qpss_cons (qps_if (qpt_cmpR op_ne (qpe_callB call_isT g20_isinstance z_isinstance bo_isinstance (qpa_cons (qpe_var (i := 0) rfl v20_0 d20_0 c20_0) (qpa_cons (qpe_bltn (v := .ty "list") g20_list z_list bo_list rfl nn_list gd_list) qpa_nil)) nn_isinstance gd_isinstance) (qpe_callB call_isT g20_isinstance z_isinstance bo_isinstance (qpa_cons (qpe_var (i := 1) rfl v20_1 d20_1 c20_1) (qpa_cons (qpe_bltn (v := .ty "list") g20_list z_list bo_list rfl nn_list gd_list) qpa_nil)) nn_isinstance gd_isinstance) (nomark _))
  (qpss_one (qps_ret qpe_bl))
  qpss_nil)
 (qpss_cons (qps_if (qPW_pt (qpw_or (qpt_cmpR op_ne (qpe_callB call_isT g20_isinstance z_isinstance bo_isinstance (qpa_cons (qpe_var (i := 0) rfl v20_0 d20_0 c20_0) (qpa_cons (qpe_bltn (v := .ty "tuple") g20_tuple z_tuple bo_tuple rfl nn_tuple gd_tuple) qpa_nil)) nn_isinstance gd_isinstance) (qpe_callB call_isT g20_isinstance z_isinstance bo_isinstance (qpa_cons (qpe_var (i := 1) rfl v20_1 d20_1 c20_1) (qpa_cons (qpe_bltn (v := .ty "tuple") g20_tuple z_tuple bo_tuple rfl nn_tuple gd_tuple) qpa_nil)) nn_isinstance gd_isinstance) (nomark _)) (qpw_or1 (qpt_cmpR op_ne (qpe_callB call_len_seq g20_len z_len PySem.boot_len (qpa_cons (qpe_var (i := 0) rfl v20_0 d20_0 c20_0) qpa_nil se_Name) nn_len gd_len) (qpe_callB call_len_seq g20_len z_len PySem.boot_len (qpa_cons (qpe_var (i := 1) rfl v20_1 d20_1 c20_1) qpa_nil se_Name) nn_len gd_len) (nomark _)))))
  (qpss_one (qps_ret qpe_bl))
  qpss_nil)
 (qpss_one (qps_ret (qpe_callB (call_all rfl) g20_all z_all bo_all (qpa_cons (qpe_comp rfl cok20_1 (qpi_zip .tuple .tuple g20_zip z_zip (qpa_cons (qpe_var (i := 0) rfl v20_0 d20_0 c20_0) (qpa_cons (qpe_var (i := 1) rfl v20_1 d20_1 c20_1) qpa_nil se_Name) se_Name)) (fun _ _ _ _ _ => (qpg_tupK K 2 rfl rfl (qpgs_cons (qpg_name (i := 0) cok20_1.nd rfl (Or.inl kq20_1_0) (Or.inr kq20_1_0)) (qpgs_cons (qpg_name (i := 1) cok20_1.nd rfl (Or.inl kq20_1_1) (Or.inr kq20_1_1)) qpgs_nil)))) (fun _ _ _ _ _ => qpif_nil) (fun _ _ _ _ _ => (qpe_callD D_law_same hr gq20_1__law_same pass0 (qpa_cons (qpe_var (i := 0) rfl vq20_1_0 dq20_1_0 cq20_1_0) (qpa_cons (qpe_var (i := 1) rfl vq20_1_1 dq20_1_1 cq20_1_1) qpa_nil se_Name) se_Name) gd__law_same))) qpa_nil se_ListComp) nn_all gd_all)))))
  qpss_nil)
 (qpss_cons (qps_if (qpt_val (qpe_callB call_isT g20_isinstance z_isinstance bo_isinstance (qpa_cons (qpe_var (i := 1) rfl v20_1 d20_1 c20_1) (qpa_cons (qpe_bltn (v := .ty "str") g20_str z_str bo_str rfl nn_str gd_str) qpa_nil)) nn_isinstance gd_isinstance))
  (qpss_one (qps_ret (qpe_and (qpe_callB call_isT g20_isinstance z_isinstance bo_isinstance (qpa_cons (qpe_var (i := 0) rfl v20_0 d20_0 c20_0) (qpa_cons (qpe_bltn (v := .ty "str") g20_str z_str bo_str rfl nn_str gd_str) qpa_nil)) nn_isinstance gd_isinstance) (qpe_one (qpe_cmpR op_eq (qpe_var (i := 0) rfl v20_0 d20_0 c20_0) (qpe_var (i := 1) rfl v20_1 d20_1 c20_1) (nomark _))))))
  qpss_nil)
 (qpss_one (qps_ret (qpe_and (qpe_callB call_isT g20_isinstance z_isinstance bo_isinstance (qpa_cons (qpe_var (i := 0) rfl v20_0 d20_0 c20_0) (qpa_cons (qpe_bltn (v := .ty "int") g20_int z_int bo_int rfl nn_int gd_int) qpa_nil)) nn_isinstance gd_isinstance) (qpe_and (qpe_not (qpe_callB call_isT g20_isinstance z_isinstance bo_isinstance (qpa_cons (qpe_var (i := 0) rfl v20_0 d20_0 c20_0) (qpa_cons (qpe_bltn (v := .ty "bool") g20_bool z_bool bo_bool rfl nn_bool gd_bool) qpa_nil)) nn_isinstance gd_isinstance)) (qpe_one (qpe_cmpR op_eq (qpe_var (i := 0) rfl v20_0 d20_0 c20_0) (qpe_var (i := 1) rfl v20_1 d20_1 c20_1) (nomark _)))))))))))), ?_⟩
  (try dsimp only [cxOf])
  walk_at "rd"
  refine iteNn rfl ?_
  walk_at "rd"
  refine comp_zip (ks.map kV) (ks.map kV) (fun j ys σ H' => Ch [] H H' ∧ ys = List.replicate j (V.bl true) ∧ ∃ u v, σ = [u, v]) (by rw [sizeLine_eq, List.length_map]; omega) rfl ⟨Ch.refl _ _, rfl, _, _, rfl⟩ ?_ ?_ ?_
  · rintro j ys σ H' hj ⟨c, rfl, _⟩
    exact ⟨by simp, SqT.of (c.get hp (by simp)), SqT.of (c.get hr1 (by simp))⟩
  · rintro j ys σ H' x z T hx hz ⟨c, rfl, u, v, rfl⟩ hT
    rw [hx] at hz
    cases hz
    obtain ⟨b, _, rfl⟩ := List.mem_map.mp (List.mem_of_getElem? hx)
    walk_at "rd"
    exact ⟨by rw [← List.replicate_succ'], _, _, rfl⟩
  · rintro ys σ H' ⟨c, rfl, _⟩
    intro D hD
    refine ⟨D, List.replicate (ks.map kV).length true, rfl, by rw [upd_same, List.map_replicate], ?_⟩
    have e : (List.replicate (ks.map kV).length true).all id = true := by simp [List.all_replicate]
    rw [e]
    exact q _ (c.trans (Ch.new hD _))
theorem ok_same2 (F : Fun K "_law_same" "_law_same" (top 20) f fd) (D_law_same : DefOk P w K mg base CX0 k "_law_same" ["_law_found", "_law_due"] (spSame 1)) (z_isinstance : mg "isinstance" = none) (z_dict : mg "dict" = none) (z_list : mg "list" = none) (z_tuple : mg "tuple" = none) (z_str : mg "str" = none) (z_int : mg "int" = none) (z_bool : mg "bool" = none) (z_len : mg "len" = none) (z_all : mg "all" = none) (z_zip : mg "zip" = none) :
    FnOk P w K mg base CX0 (k + 1) f fd ["_law_found", "_law_due"] (spSame 2) := by
  have nd := scSame.nd
  refine F.ok scSame (fun vs H Q E h => by obtain ⟨p, r, ws, ps, rs, rfl, _⟩ := h; rfl) (fun cdv A outer s H vs Q E hr h => ?_)
  obtain ⟨p, r, ws, ps, rs, rfl, hp, hr1, w1, w2, h4, hl, q⟩ := h
  have l1 := Paired.length w1
  have l2 := Paired.length w2
  have e12 : ps.length = rs.length := by omega
  have e12' : (ps.map V.ref).length = (rs.map V.ref).length := by simpa using e12
  refine ⟨_, (Pr.h (qpss_cons (qps_if (qpt_cmpR op_isN (qpe_var (i := 1) rfl v20_1 d20_1 c20_1) qpe_non (nomark _))
  (qpss_one (qps_ret (qpe_cmpR op_isN (qpe_var (i := 0) rfl v20_0 d20_0 c20_0) qpe_non (nomark _))))
  qpss_nil)
 (qpss_cons (qps_if (qpt_val (qpe_callB call_isT g20_isinstance z_isinstance bo_isinstance (qpa_cons (qpe_var (i := 1) rfl v20_1 d20_1 c20_1) (qpa_cons (qpe_bltn (v := .ty "dict") g20_dict z_dict bo_dict rfl nn_dict gd_dict) qpa_nil)) nn_isinstance gd_isinstance))
  (qpss_cons (qps_if (qPW_pt (qpw_or (qpt_not (qpt_val (qpe_callB call_isT g20_isinstance z_isinstance bo_isinstance (qpa_cons (qpe_var (i := 0) rfl v20_0 d20_0 c20_0) (qpa_cons (qpe_bltn (v := .ty "dict") g20_dict z_dict bo_dict rfl nn_dict gd_dict) qpa_nil)) nn_isinstance gd_isinstance))) (qpw_or1 (qpt_cmpR op_ne (qpe_callB call_len_seq g20_len z_len PySem.boot_len (qpa_cons (qpe_var (i := 0) rfl v20_0 d20_0 c20_0) qpa_nil se_Name) nn_len gd_len) (qpe_callB call_len_seq g20_len z_len PySem.boot_len (qpa_cons (qpe_var (i := 1) rfl v20_1 d20_1 c20_1) qpa_nil se_Name) nn_len gd_len) (nomark _)))))
  (qpss_one (qps_ret qpe_bl))
  qpss_nil)
 (qpss_one (qps_ret (qpe_callB (call_all rfl) g20_all z_all bo_all (qpa_cons (qpe_comp rfl cok20_0 (qpi_list (qpe_var (i := 1) rfl v20_1 d20_1 c20_1)) (fun _ _ _ _ _ => (qpg_name (i := 0) cok20_0.nd rfl (Or.inl kq20_0_0) (Or.inr kq20_0_0))) (fun _ _ _ _ _ => qpif_nil) (fun _ _ _ _ _ => (qpe_and (qpe_cmpR (opK_in_seq K rfl) (qpe_var (i := 0) rfl vq20_0_0 dq20_0_0 cq20_0_0) (qpe_var (i := 1) rfl vq20_0_1 dq20_0_1 cq20_0_1) rfl) (qpe_one (qpe_callD D_law_same hr gq20_0__law_same pass0 (qpa_cons (qpe_ix (ixaK_list K rfl) (qpe_var (i := 1) rfl vq20_0_1 dq20_0_1 cq20_0_1) (qpe_var (i := 0) rfl vq20_0_0 dq20_0_0 cq20_0_0) (fun _ _ => rfl)) (qpa_cons (qpe_ix (ixaK_list K rfl) (qpe_var (i := 2) rfl vq20_0_2 dq20_0_2 cq20_0_2) (qpe_var (i := 0) rfl vq20_0_0 dq20_0_0 cq20_0_0) (fun _ _ => rfl)) qpa_nil se_Subscript) se_Subscript) gd__law_same))))) qpa_nil se_ListComp) nn_all gd_all))))
  qpss_nil)
 (qpss_cons (qps_if (qPW_pt (qpw_or (qpt_val (qpe_callB call_isT g20_isinstance z_isinstance bo_isinstance (qpa_cons (qpe_var (i := 1) rfl v20_1 d20_1 c20_1) (qpa_cons (qpe_bltn (v := .ty "list") g20_list z_list bo_list rfl nn_list gd_list) qpa_nil)) nn_isinstance gd_isinstance)) (qpw_or1 (qpt_val (qpe_callB call_isT g20_isinstance z_isinstance bo_isinstance (qpa_cons (qpe_var (i := 1) rfl v20_1 d20_1 c20_1) (qpa_cons (qpe_bltn (v := .ty "tuple") g20_tuple z_tuple bo_tuple rfl nn_tuple gd_tuple) qpa_nil)) nn_isinstance gd_isinstance)))))
  (qpss_cons (qps_if (qpt_cmpR op_ne (qpe_callB call_isT g20_isinstance z_isinstance bo_isinstance (qpa_cons (qpe_var (i := 0) rfl v20_0 d20_0 c20_0) (qpa_cons (qpe_bltn (v := .ty "list") g20_list z_list bo_list rfl nn_list gd_list) qpa_nil)) nn_isinstance gd_isinstance) (qpe_callB call_isT g20_isinstance z_isinstance bo_isinstance (qpa_cons (qpe_var (i := 1) rfl v20_1 d20_1 c20_1) (qpa_cons (qpe_bltn (v := .ty "list") g20_list z_list bo_list rfl nn_list gd_list) qpa_nil)) nn_isinstance gd_isinstance) (nomark _))
  (qpss_one (qps_ret qpe_bl))
  qpss_nil)
 (qpss_cons (qps_if (qPW_pt (qpw_or (qpt_cmpR op_ne (qpe_callB call_isT g20_isinstance z_isinstance bo_isinstance (qpa_cons (qpe_var (i := 0) rfl v20_0 d20_0 c20_0) (qpa_cons (qpe_bltn (v := .ty "tuple") g20_tuple z_tuple bo_tuple rfl nn_tuple gd_tuple) qpa_nil)) nn_isinstance gd_isinstance) (qpe_callB call_isT g20_isinstance z_isinstance bo_isinstance (qpa_cons (qpe_var (i := 1) rfl v20_1 d20_1 c20_1) (qpa_cons (qpe_bltn (v := .ty "tuple") g20_tuple z_tuple bo_tuple rfl nn_tuple gd_tuple) qpa_nil)) nn_isinstance gd_isinstance) (nomark _)) (qpw_or1 (qpt_cmpR op_ne (qpe_callB call_len_seq g20_len z_len PySem.boot_len (qpa_cons (qpe_var (i := 0) rfl v20_0 d20_0 c20_0) qpa_nil se_Name) nn_len gd_len) (qpe_callB call_len_seq g20_len z_len PySem.boot_len (qpa_cons (qpe_var (i := 1) rfl v20_1 d20_1 c20_1) qpa_nil se_Name) nn_len gd_len) (nomark _)))))
  (qpss_one (qps_ret qpe_bl))
  qpss_nil)
 (qpss_one (qps_ret (qpe_callB (call_all rfl) g20_all z_all bo_all (qpa_cons (qpe_comp rfl cok20_1 (qpi_zip .list .list g20_zip z_zip (qpa_cons (qpe_var (i := 0) rfl v20_0 d20_0 c20_0) (qpa_cons (qpe_var (i := 1) rfl v20_1 d20_1 c20_1) qpa_nil se_Name) se_Name)) (fun _ _ _ _ _ => (qpg_tupK K 2 rfl rfl (qpgs_cons (qpg_name (i := 0) cok20_1.nd rfl (Or.inl kq20_1_0) (Or.inr kq20_1_0)) (qpgs_cons (qpg_name (i := 1) cok20_1.nd rfl (Or.inl kq20_1_1) (Or.inr kq20_1_1)) qpgs_nil)))) (fun _ _ _ _ _ => qpif_nil) (fun _ _ _ _ _ => (qpe_callD D_law_same hr gq20_1__law_same pass0 (qpa_cons (qpe_var (i := 0) rfl vq20_1_0 dq20_1_0 cq20_1_0) (qpa_cons (qpe_var (i := 1) rfl vq20_1_1 dq20_1_1 cq20_1_1) qpa_nil se_Name) se_Name) gd__law_same))) qpa_nil se_ListComp) nn_all gd_all)))))
  qpss_nil)
 (qpss_cons (qps_if (qpt_val (qpe_callB call_isT g20_isinstance z_isinstance bo_isinstance (qpa_cons (qpe_var (i := 1) rfl v20_1 d20_1 c20_1) (qpa_cons (qpe_bltn (v := .ty "str") g20_str z_str bo_str rfl nn_str gd_str) qpa_nil)) nn_isinstance gd_isinstance))
  (qpss_one (qps_ret (qpe_and (qpe_callB call_isT g20_isinstance z_isinstance bo_isinstance (qpa_cons (qpe_var (i := 0) rfl v20_0 d20_0 c20_0) (qpa_cons (qpe_bltn (v := .ty "str") g20_str z_str bo_str rfl nn_str gd_str) qpa_nil)) nn_isinstance gd_isinstance) (qpe_one (qpe_cmpR op_eq (qpe_var (i := 0) rfl v20_0 d20_0 c20_0) (qpe_var (i := 1) rfl v20_1 d20_1 c20_1) (nomark _))))))
  qpss_nil)
 (qpss_one (qps_ret (qpe_and (qpe_callB call_isT g20_isinstance z_isinstance bo_isinstance (qpa_cons (qpe_var (i := 0) rfl v20_0 d20_0 c20_0) (qpa_cons (qpe_bltn (v := .ty "int") g20_int z_int bo_int rfl nn_int gd_int) qpa_nil)) nn_isinstance gd_isinstance) (qpe_and (qpe_not (qpe_callB call_isT g20_isinstance z_isinstance bo_isinstance (qpa_cons (qpe_var (i := 0) rfl v20_0 d20_0 c20_0) (qpa_cons (qpe_bltn (v := .ty "bool") g20_bool z_bool bo_bool rfl nn_bool gd_bool) qpa_nil)) nn_isinstance gd_isinstance)) (qpe_one (qpe_cmpR op_eq (qpe_var (i := 0) rfl v20_0 d20_0 c20_0) (qpe_var (i := 1) rfl v20_1 d20_1 c20_1) (nomark _)))))))))))), ?_⟩
  (try dsimp only [cxOf])
  walk_at "rd"
  refine iteNn ?_ ?_
  · rw [e12']
  walk_at "rd"
  refine comp_zip (ps.map V.ref) (rs.map V.ref) (fun j ys σ H' => Ch [] H H' ∧ ys = List.replicate j (V.bl true) ∧ ∃ u v, σ = [u, v]) (by rw [sizeLine_eq, List.length_map]; omega) (by simpa using e12) ⟨Ch.refl _ _, rfl, _, _, rfl⟩ ?_ ?_ ?_
  · rintro j ys σ H' hj ⟨c, rfl, _⟩
    exact ⟨by simp, SqL.of (c.get hp (by simp)), SqL.of (c.get hr1 (by simp))⟩
  · rintro j ys σ H' x z T hx hz ⟨c, rfl, u, v, rfl⟩ hT
    obtain ⟨p1, k1, rfl, a1, b1⟩ := ws_get w1 j x hx
    obtain ⟨p2, k2, rfl, a2, b2⟩ := ws_get w2 j z hz
    rw [a1] at a2
    cases a2
    have b1' : H' p1 = some (.tup (k1.map kV)) := c.get b1 (by simp)
    have b2' : H' p2 = some (.tup (k1.map kV)) := c.get b2 (by simp)
    have h4' := h4 k1 (List.mem_of_getElem? a1)
    walk_at "rd"
    exact ⟨by rw [← List.replicate_succ'], _, _, rfl⟩
  · rintro ys σ H' ⟨c, rfl, _⟩
    intro D hD
    refine ⟨D, List.replicate (ps.map V.ref).length true, rfl, by rw [upd_same, List.map_replicate], ?_⟩
    have e : (List.replicate (ps.map V.ref).length true).all id = true := by simp [List.all_replicate]
    rw [e]
    exact q _ (c.trans (Ch.new hD _))
end
end

section
theorem scr_chg {K : PySem.W.Frag} {H H' : Hp} {a q : Addr} {ns : List Int} {o : HO} (S : Scr K H a ns) (hq : H q = some o) (no : ∀ o' xs, o ≠ .frz o' (.lst xs)) (c : Ch [q] H H') : Scr K H' a ns := by
  refine ⟨S.1, ?_⟩
  rcases S.2 with ⟨o', h⟩ | h
  · exact .inl ⟨o', c.get h (by
      simp only [List.mem_singleton]
      intro z
      rw [z, hq] at h
      exact no _ _ (Option.some.inj h))⟩
  · exact .inr h
theorem Ch.inst {H : Hp} {x dx C : Addr} (hx : H x = none) (hd : H dx = none) (n : dx ≠ x) : Ch [] H (upd (upd H dx (.own x)) x (.ins C dx [])) := (Ch.new hd _).trans (Ch.new (by rw [upd_ne n.symm]; exact hx) _)
structure FI (K : PySem.W.Frag) (H' : Hp) (a b : Addr) (ns : List Int) (c : Int) (m : Nat) (ys : List V) : Prop where
  ex : ∃ ms : List Int, ys = ms.map V.int ∧ ms.length = m ∧ ∀ n ∈ ms, 1 ≤ n ∧ n ≤ 4
  hb : H' b = some (.lst [.int (c + (m : Int))])
  sc : Scr K H' a ns
theorem refs_of : ∀ {xs : List V}, (∀ x ∈ xs, ∃ p, x = V.ref p) → ∃ ps : List Addr, xs = ps.map V.ref
  | [], _ => ⟨[], rfl⟩
  | x :: xs, h => by
    obtain ⟨p, rfl⟩ := h x (by simp)
    obtain ⟨ps, rfl⟩ := refs_of (xs := xs) fun y hy => h y (by simp [hy])
    exact ⟨p :: ps, rfl⟩
theorem JsAt.refs {H : Hp} {js : List Jn} {xs : List V} (s : JsAt H js xs) : ∃ ps : List Addr, xs = ps.map V.ref := refs_of fun x hx => by
  obtain ⟨i, hi⟩ := List.getElem?_of_mem hx
  obtain ⟨p, _, _, e, _⟩ := s.at_ i x hi
  exact ⟨p, e⟩
theorem JsAt.rev {H : Hp} {js : List Jn} {xs : List V} (s : JsAt H js xs) : JsAt H js.reverse xs.reverse := by
  have hl := s.len
  refine ⟨by simp [hl], fun i x e => ?_⟩
  have hi : i < xs.length := by simpa using (List.getElem?_eq_some_iff.mp e).1
  rw [List.getElem?_reverse hi] at e
  obtain ⟨p, bx, j, a, b, g1, g2⟩ := s.at_ _ x e
  exact ⟨p, bx, j, a, by rw [List.getElem?_reverse (by omega), ← hl]; exact b, g1, g2⟩
theorem rch_rev {js : List Jn} {ds : List Wr} (x : Wr) : Rch (js.reverse.map Jn.e) ds x ↔ Rch (js.map Jn.e) ds x := rch_same (fun p => by simp) (fun _ => Iff.rfl) x
section
variable {P : Program} {w : World} {K : PySem.W.Frag} {mg : Str → Option Value} {base : Heap} {f : Addr} {fd : FuncData} {k : Nat}
theorem gd_Floor : Nd "Floor" := by decide +kernel
theorem gd__law_drawn : Nd "_law_drawn" := by decide +kernel
theorem gd__law_reached : Nd "_law_reached" := by decide +kernel
theorem gd_way_wires : Nd "way_wires" := by decide +kernel
theorem l25_1 : Lc (defScope (top 25)) "_law_at" := by decide +kernel
theorem g25_range : Gi (defScope (top 25)) "range" := by decide +kernel
theorem l25_2 : Lc (defScope (top 25)) "_law_k" := by decide +kernel
theorem l25_3 : Lc (defScope (top 25)) "_law_floor" := by decide +kernel
def csc25_0 : Scope := { kind := PySem.ScopeKind.function, names := [ (PySem.Str.ofString ".0", PySem.NameKind.local), (PySem.Str.ofString "_law_j", PySem.NameKind.local), (PySem.Str.ofString "_law_next", PySem.NameKind.globalImplicit), (PySem.Str.ofString "_law_at", PySem.NameKind.free), (PySem.Str.ofString "_law_script", PySem.NameKind.free)], isGenerator := false, isCoroutine := false, more := [] : PySem.Scope }
theorem cok25_0 : CompOk csc25_0 (defScope (top 25)) (["_law_j"] : List Str) (["_law_script", "_law_at", "_law_k", "_law_floor", "_law_ground", "_law_way", "_law_due", "_law_handed", "_law_found"] : List Str) [0, 1] (["_law_j", "_law_script", "_law_at"] : List Str) := compOk rfl (by decide +kernel) (by decide +kernel) (by decide +kernel) (by decide +kernel) rfl (by decide +kernel)
theorem kq25_0_0 : (relab csc25_0 (defScope (top 25))).names.lookup (Str.ofString "_law_j") = some NameKind.local := by decide +kernel
theorem gq25_0__law_next : Gi (relab csc25_0 (defScope (top 25))) "_law_next" := by decide +kernel
theorem vq25_0_2 : Vs (relab csc25_0 (defScope (top 25))) "_law_at" := by decide +kernel
theorem dq25_0_2 : Nd "_law_at" := by decide +kernel
theorem cq25_0_2 : Nc "_law_at" := by decide +kernel
theorem vq25_0_1 : Vs (relab csc25_0 (defScope (top 25))) "_law_script" := by decide +kernel
theorem dq25_0_1 : Nd "_law_script" := by decide +kernel
theorem cq25_0_1 : Nc "_law_script" := by decide +kernel
theorem l25_4 : Lc (defScope (top 25)) "_law_ground" := by decide +kernel
theorem g25_Floor : Gi (defScope (top 25)) "Floor" := by decide +kernel
theorem v25_3 : Vs (defScope (top 25)) "_law_floor" := by decide +kernel
theorem d25_3 : Nd "_law_floor" := by decide +kernel
theorem c25_3 : Nc "_law_floor" := by decide +kernel
theorem l25_5 : Lc (defScope (top 25)) "_law_way" := by decide +kernel
theorem g25__law_drawn : Gi (defScope (top 25)) "_law_drawn" := by decide +kernel
theorem v25_1 : Vs (defScope (top 25)) "_law_at" := by decide +kernel
theorem d25_1 : Nd "_law_at" := by decide +kernel
theorem c25_1 : Nc "_law_at" := by decide +kernel
theorem v25_0 : Vs (defScope (top 25)) "_law_script" := by decide +kernel
theorem d25_0 : Nd "_law_script" := by decide +kernel
theorem c25_0 : Nc "_law_script" := by decide +kernel
theorem l25_6 : Lc (defScope (top 25)) "_law_due" := by decide +kernel
theorem g25_sorted : Gi (defScope (top 25)) "sorted" := by decide +kernel
theorem g25__law_reached : Gi (defScope (top 25)) "_law_reached" := by decide +kernel
theorem v25_5 : Vs (defScope (top 25)) "_law_way" := by decide +kernel
theorem d25_5 : Nd "_law_way" := by decide +kernel
theorem c25_5 : Nc "_law_way" := by decide +kernel
theorem l25_7 : Lc (defScope (top 25)) "_law_handed" := by decide +kernel
theorem g25_list : Gi (defScope (top 25)) "list" := by decide +kernel
theorem l25_8 : Lc (defScope (top 25)) "_law_found" := by decide +kernel
theorem g25_way_wires : Gi (defScope (top 25)) "way_wires" := by decide +kernel
theorem v25_7 : Vs (defScope (top 25)) "_law_handed" := by decide +kernel
theorem d25_7 : Nd "_law_handed" := by decide +kernel
theorem c25_7 : Nc "_law_handed" := by decide +kernel
theorem v25_4 : Vs (defScope (top 25)) "_law_ground" := by decide +kernel
theorem d25_4 : Nd "_law_ground" := by decide +kernel
theorem c25_4 : Nc "_law_ground" := by decide +kernel
theorem g25__law_same : Gi (defScope (top 25)) "_law_same" := by decide +kernel
theorem v25_6 : Vs (defScope (top 25)) "_law_due" := by decide +kernel
theorem d25_6 : Nd "_law_due" := by decide +kernel
theorem c25_6 : Nc "_law_due" := by decide +kernel
theorem v25_8 : Vs (defScope (top 25)) "_law_found" := by decide +kernel
theorem d25_8 : Nd "_law_found" := by decide +kernel
theorem c25_8 : Nc "_law_found" := by decide +kernel
theorem g25_tuple : Gi (defScope (top 25)) "tuple" := by decide +kernel
theorem g25_reversed : Gi (defScope (top 25)) "reversed" := by decide +kernel
def spLaw (K : PySem.W.Frag) : Sp := fun vs H Q _ => ∃ (a : Addr) (ns : List Int), vs = [.ref a] ∧ Scr K H a ns ∧ ∀ H', Q (.bl true) H'
structure LC (K : PySem.W.Frag) (H' : Hp) (a b : Addr) (ns : List Int) (c : Int) (i : Nat) : Prop where
  hb : H' b = some (.lst [.int c])
  sc : Scr K H' a ns
  lo : 0 ≤ c
  hi : c ≤ 100 * (i : Int)
theorem scLaw : FnScope ["_law_script", "_law_at", "_law_k", "_law_floor", "_law_ground", "_law_way", "_law_due", "_law_handed", "_law_found"] ["_law_script"] (defScope (top 25)) := ⟨rfl, rfl, rfl, by decide +kernel, rfl, by decide +kernel, by decide +kernel⟩
theorem ok_law {C : Addr} (F : Fun K "law" "law" (top 25) f fd) (D_law_next : DefOk P w K mg base CX0 (k + 1) "_law_next" ["_law_script", "_law_at"] (spNext K)) (D_law_drawn : DefOk P w K mg base CX0 (k + 1) "_law_drawn" ["_law_script", "_law_at", "_law_floor"] (spDrawn K)) (D_law_reached : DefOk P w K mg base CX0 (k + 1) "_law_reached" ["_law_drives", "_law_joins"] spReach)
    (Dway_wires : DefOk P w K mg base CX0 (k + 1) "way_wires" ["floor", "way"] (spWires C)) (D_law_same : DefOk P w K mg base CX0 (k + 1) "_law_same" ["_law_found", "_law_due"] (spSame 2)) (MkFloor : MakeOk P w K mg base CX0 k C "Floor" ["self", "rows", "columns", "tracks"] (spFloor C))
    (z_range : mg "range" = none) (z_sorted : mg "sorted" = none) (z_list : mg "list" = none) (z_tuple : mg "tuple" = none) (z_reversed : mg "reversed" = none) :
    FnOk P w K mg base CX0 (k + 2) f fd ["_law_script"] (spLaw K) := by
  have nd := scLaw.nd
  refine F.ok scLaw (fun vs H Q E h => by obtain ⟨a, ns, rfl, _⟩ := h; rfl) (fun cdv A outer s H vs Q E hr h => ?_)
  obtain ⟨a, ns, rfl, hS, q⟩ := h
  have hrm := hr
  have hu := hu_of hr
  refine ⟨_, (Pr.h (qpss_cons (qps_set (i := 1) nd rfl l25_1 (qpe_lst (qpa_cons qpe_int qpa_nil se_Constant)))
 (qpss_cons (qps_loop PassesOwn.never rfl (qpi_range1 g25_range z_range (qpa_cons qpe_int qpa_nil se_Constant)) (qpg_name (i := 2) nd rfl l25_2)
  (qpss_cons (qps_setC (i := 3) nd rfl l25_3 rfl cok25_0 (qpi_range1 g25_range z_range (qpa_cons qpe_int qpa_nil se_Constant)) (fun _ _ _ _ _ => (qpg_name (i := 0) cok25_0.nd rfl (Or.inl kq25_0_0) (Or.inr kq25_0_0))) (fun _ _ _ _ _ => qpif_nil) (fun _ _ _ _ _ => (qpe_op op_add qpe_int (qpe_op op_mod (qpe_callD D_law_next hr gq25_0__law_next pass0 (qpa_cons (qpe_var (i := 1) rfl vq25_0_1 dq25_0_1 cq25_0_1) (qpa_cons (qpe_var (i := 2) rfl vq25_0_2 dq25_0_2 cq25_0_2) qpa_nil se_Name) se_Name) gd__law_next) qpe_int))) rfl)
 (qpss_cons (qps_set (i := 4) nd rfl l25_4 (qpe_makeD MkFloor hrm g25_Floor pass0 (qpa_cons (qpe_ix ixa_list (qpe_var (i := 3) rfl v25_3 d25_3 c25_3) qpe_int (fun _ _ => rfl)) (qpa_cons (qpe_ix ixa_list (qpe_var (i := 3) rfl v25_3 d25_3 c25_3) qpe_int (fun _ _ => rfl)) (qpa_cons (qpe_ix ixa_list (qpe_var (i := 3) rfl v25_3 d25_3 c25_3) qpe_int (fun _ _ => rfl)) qpa_nil se_Subscript) se_Subscript) se_Subscript) gd_Floor))
 (qpss_cons (qps_set (i := 5) nd rfl l25_5 (qpe_callD D_law_drawn hr g25__law_drawn pass0 (qpa_cons (qpe_var (i := 0) rfl v25_0 d25_0 c25_0) (qpa_cons (qpe_var (i := 1) rfl v25_1 d25_1 c25_1) (qpa_cons (qpe_var (i := 3) rfl v25_3 d25_3 c25_3) qpa_nil se_Name) se_Name) se_Name) gd__law_drawn))
 (qpss_cons (qps_set (i := 6) nd rfl l25_6 (qpe_callB (call_sortedT rfl) g25_sorted z_sorted bo_sorted (qpa_cons (qpe_callD D_law_reached hr g25__law_reached pass0 (qpa_cons (qpe_ix ixa_tup (qpe_var (i := 5) rfl v25_5 d25_5 c25_5) qpe_int (fun _ _ => rfl)) (qpa_cons (qpe_ix ixa_tup (qpe_var (i := 5) rfl v25_5 d25_5 c25_5) qpe_int (fun _ _ => rfl)) qpa_nil se_Subscript) se_Subscript) gd__law_reached) qpa_nil se_Call) nn_sorted gd_sorted))
 (qpss_cons (qps_set (i := 7) nd rfl l25_7 (qpe_tup (qpa_cons (qpe_callTy call_list_of g25_list z_list bo_list (qpa_cons (qpe_ix ixa_tup (qpe_var (i := 5) rfl v25_5 d25_5 c25_5) qpe_int (fun _ _ => rfl)) qpa_nil se_Subscript) nn_list gd_list) (qpa_cons (qpe_callTy call_list_of g25_list z_list bo_list (qpa_cons (qpe_ix ixa_tup (qpe_var (i := 5) rfl v25_5 d25_5 c25_5) qpe_int (fun _ _ => rfl)) qpa_nil se_Subscript) nn_list gd_list) (qpa_cons (qpe_lst qpa_nil) qpa_nil se_List) se_Call) se_Call)))
 (qpss_cons (qps_set (i := 8) nd rfl l25_8 (qpe_callD Dway_wires hr g25_way_wires pass0 (qpa_cons (qpe_var (i := 4) rfl v25_4 d25_4 c25_4) (qpa_cons (qpe_var (i := 7) rfl v25_7 d25_7 c25_7) qpa_nil se_Name) se_Name) gd_way_wires))
 (qpss_cons (qps_if (qPW_pt (qpw_or (qpt_not (qpt_val (qpe_callD D_law_same hr g25__law_same pass0 (qpa_cons (qpe_var (i := 8) rfl v25_8 d25_8 c25_8) (qpa_cons (qpe_var (i := 6) rfl v25_6 d25_6 c25_6) qpa_nil se_Name) se_Name) gd__law_same))) (qpw_or1 (qpt_cmpR (op_neW hr.units) (qpe_var (i := 7) rfl v25_7 d25_7 c25_7) (qpe_var (i := 5) rfl v25_5 d25_5 c25_5) (nomark _)))))
  (qpss_one (qps_ret qpe_bl))
  qpss_nil)
 (qpss_cons (qps_expr (qpe_bm PySem.F.plainAttrs_list PySem.F.slot_list_append PySem.F.type_list_append mt_append (qpe_var (i := 8) rfl v25_8 d25_8 c25_8) (qpa_cons qpe_int qpa_nil se_Constant)))
 (qpss_one (qps_if (qpt_not (qpt_val (qpe_callD D_law_same hr g25__law_same pass0 (qpa_cons (qpe_callD Dway_wires hr g25_way_wires pass0 (qpa_cons (qpe_var (i := 4) rfl v25_4 d25_4 c25_4) (qpa_cons (qpe_tup (qpa_cons (qpe_callTy call_tuple_of g25_tuple z_tuple bo_tuple (qpa_cons (qpe_ix ixa_tup (qpe_var (i := 5) rfl v25_5 d25_5 c25_5) qpe_int (fun _ _ => rfl)) qpa_nil se_Subscript) nn_tuple gd_tuple) (qpa_cons (qpe_tuprev rfl g25_tuple z_tuple g25_reversed z_reversed (qpa_cons (qpe_ix ixa_tup (qpe_var (i := 5) rfl v25_5 d25_5 c25_5) qpe_int (fun _ _ => rfl)) qpa_nil se_Subscript)) (qpa_cons (qpe_tup qpa_nil) qpa_nil se_Tuple) se_Call) se_Call)) qpa_nil se_Tuple) se_Name) gd_way_wires) (qpa_cons (qpe_var (i := 6) rfl v25_6 d25_6 c25_6) qpa_nil se_Name) se_Call) gd__law_same)))
  (qpss_one (qps_ret qpe_bl))
  qpss_nil)))))))))))
 (qpss_one (qps_ret qpe_bl))))), ?_⟩
  (try dsimp only [cxOf])
  walk_at "rd"
  rename_i b hb
  refine loop_range (fun i σ H' => ∃ (c : Int) (u1 u2 u3 u4 u5 u6 u7 : Option V), σ = [some (.ref a), some (.ref b), u1, u2, u3, u4, u5, u6, u7] ∧ LC K H' a b ns c i) ⟨0, _, _, _, _, _, _, _, rfl, upd_same, hS.same (Ch.new hb _), by omega, by omega⟩ ?_ ?_
  · rintro i σ H1 hi ⟨c, u1, u2, u3, u4, u5, u6, u7, rfl, l⟩
    have hi4 : i < 4 := hi
    obtain ⟨lb, ls, l0, l1⟩ := l
    walk_at "rd"
    refine comp_range (fun m ys σ H' => (∃ u, σ = [u, some (.ref a), some (.ref b)]) ∧ FI K H' a b ns c m ys) (by rw [sizeLine_eq]; decide) ⟨⟨_, rfl⟩, ⟨[], rfl, rfl, by simp⟩, by simpa using lb, ls⟩ ?_ ?_ ?_
    · rintro m ys σ H' hm ⟨_, ⟨ms, rfl, rfl, _⟩, _⟩
      simp
    · rintro m ys σ H' hm ⟨⟨u, rfl⟩, ⟨ms, rfl, hl, hn⟩, hb', hS'⟩
      have hm3 : m < 3 := hm
      walk_at "rd"
      rename_i n G n0 n1 d e
      refine ⟨⟨_, rfl⟩, ⟨ms ++ [1 + n % 4], by simp, by simp [hl], fun x hx => ?_⟩, by rw [e, show c + ((m + 1 : Nat) : Int) = c + (m : Int) + 1 from by omega], hS'.ch hb' d⟩
      rcases List.mem_append.mp hx with hx | hx
      · exact hn x hx
      · rw [List.mem_singleton.mp hx]; omega
    rintro ys σ H2 ⟨_, ⟨ms, rfl, hl, hn⟩, lb2, ls2⟩
    obtain ⟨r, cc, t, rfl⟩ : ∃ r cc t, ms = [r, cc, t] := by
      match ms, hl with
      | [r, cc, t], _ => exact ⟨r, cc, t, rfl⟩
    obtain ⟨r0, r1⟩ := hn r (by simp)
    obtain ⟨q0, q1⟩ := hn cc (by simp)
    obtain ⟨t0, t1⟩ := hn t (by simp)
    obtain ⟨t', rfl⟩ : ∃ t' : Nat, t = (t' : Int) := ⟨t.toNat, by omega⟩
    intro fa hfa
    have cF : Ch [] H2 (upd H2 fa (.lst [.int r, .int cc, .int (t' : Int)])) := Ch.new hfa _
    have lb3 : (upd H2 fa (.lst [.int r, .int cc, .int (t' : Int)])) b = some (.lst [.int (c + 3)]) := cF.get lb2 (by simp)
    have ls3 := ls2.same cF
    have gf3 : (upd H2 fa (.lst [.int r, .int cc, .int (t' : Int)])) fa = some (.lst [.int r, .int cc, .int (t' : Int)]) := upd_same
    have nfb : fa ≠ b := (ne_of_none lb2 hfa).symm
    show tSeq _ _ _ _ (upd H2 fa (.lst [.int r, .int cc, .int (t' : Int)]))
    generalize upd H2 fa (.lst [.int r, .int cc, .int (t' : Int)]) = H3 at lb3 ls3 gf3 ⊢
    clear lb2 ls2 cF hfa lb ls hn hl
    walk_at "rd"
    rename_i gd dx hx hdx ndx dx' H4 c4 gd4
    have i1 := Ch.inst (C := C) hx hdx ndx
    have ls4 := scr_chg (ls3.same i1) upd_same (by intro _ _ z; cases z) c4
    have lb4 : H4 b = some (.lst [.int (c + 3)]) := c4.get (i1.get lb3 (by simp)) (by simpa using ne_of_none lb3 hx)
    have gf4 : H4 fa = some (.lst [.int r, .int cc, .int (t' : Int)]) := c4.get (i1.get gf3 (by simp)) (by simpa using ne_of_none gf3 hx)
    refine ⟨ls4, lb4, by omega, by omega, gf4, nfb, r0, r1, q0, q1, by omega, by omega, fun wy da ja za ds dps js xs c' H5 c5 lb5 c0 c1 way => ?_⟩
    have ls5 := ls4.ch lb4 c5
    have gd5 : H5 gd = some (.ins C dx' (fldsF r cc (t' : Int))) := c5.get gd4 (by simpa using ne_of gd4 lb4 (by intro z; cases z))
    clear lb3 ls3 gf3 hx hdx ndx c4 gd4 i1 ls4 lb4 gf4 c5
    obtain ⟨w1, w2, w3, w4, w5, w6, w7, w8, w9, w10⟩ := way
    walk_at "rd"
    rename_i cd kvs H6 c6 f6 g6 nd6 m6
    have l64 := keys_few nd6 m6 w7 w8
    refine ⟨l64, keys_shape m6 w9, fun du ks ps hdu pm pw pr => ?_⟩
    have c7 : Ch [] H5 (upd H6 du (.lst (ps.map V.ref))) := c6.trans (Ch.new hdu _)
    have srt : Srt (js.map Jn.e) ds (upd H6 du (.lst (ps.map V.ref))) ks ps := .of hdu m6 l64 pm pw pr
    have g7 : (upd H6 du (.lst (ps.map V.ref))) du = some (.lst (ps.map V.ref)) := upd_same
    generalize upd H6 du (.lst (ps.map V.ref)) = H7 at c7 srt g7 ⊢
    have lb7 : H7 b = some (.lst [.int c']) := c7.get lb5 (by simp)
    have ls7 := ls5.same c7
    have gd7 : H7 gd = some (.ins C dx' (fldsF r cc (t' : Int))) := c7.get gd5 (by simp)
    have v1 : H7 wy = some (.tup [.ref da, .ref ja, .ref za]) := c7.get w1 (by simp)
    have v2 : H7 da = some (.lst (dps.map V.ref)) := c7.get w2 (by simp)
    have v3 : WsAt H7 ds dps := w3.imp fun p xs h => c7.get h (by simp)
    have v4 : H7 ja = some (.lst xs) := c7.get w4 (by simp)
    have v5 := w5.ch c7
    have v10 : H7 za = some (.lst []) := c7.get w10 (by simp)
    clear lb5 ls5 gd5 w1 w2 w3 w4 w5 w10 c6 f6 g6 nd6 m6 hdu pm pw pr c7
    walk_at "rd"
    rename_i h1 f1 h2 f2 h3 f3 hy f4
    obtain ⟨H8, e8⟩ : ∃ H8, upd (upd (upd (upd H7 h1 (.lst (dps.map V.ref))) h2 (.lst xs)) h3 (.lst [])) hy (.tup [.ref h1, .ref h2, .ref h3]) = H8 := ⟨_, rfl⟩
    rw [e8]
    have c8 : Ch [] H7 H8 := by rw [← e8]; exact (((Ch.new f1 _).trans (Ch.new f2 _)).trans (Ch.new f3 _)).trans (Ch.new f4 _)
    have x1 : H8 h1 = some (.lst (dps.map V.ref)) := by rw [← e8]; exact g_new f4 (g_new f3 (g_new f2 upd_same))
    have x2 : H8 h2 = some (.lst xs) := by rw [← e8]; exact g_new f4 (g_new f3 upd_same)
    have x3 : H8 h3 = some (.lst []) := by rw [← e8]; exact g_new f4 upd_same
    have x4 : H8 hy = some (.tup [.ref h1, .ref h2, .ref h3]) := by rw [← e8]; exact upd_same
    have y1 : h1 ≠ da := (ne_of_none v2 f1).symm
    have y2 : h2 ≠ ja := fun z => by rw [z, g_new f1 v4] at f2; cases f2
    have y3 : h3 ≠ za := fun z => by rw [z, g_new f2 (g_new f1 v10)] at f3; cases f3
    refine ⟨(show H8 h1 = some (sqO .list (dps.map V.ref)) from x1), v3.imp (fun p xs h => c8.get h (by simp)), (show SqX .list H8 h2 xs from x2), v5.ch c8, w6, w7, w8, w9, fun fo ks2 ps2 H9 c9 f9 g9 srt2 => ?_⟩
    clear e8 f1 f2 f3 f4
    have ek : ks2 = ks := sort_unique srt2.pw srt.pw fun x => (srt2.mem x).trans (srt.mem x).symm
    subst ek
    have h4 : ∀ w ∈ ks2, w.length ≤ 4 := fun w hw => by
      have := congrArg List.length (rch_shape w9 ((srt.mem w).mp hw))
      simp at this
      omega
    have l64' : ks2.length ≤ 64 := Nat.le_of_lt srt.nd
    have c79 := c8.trans c9
    have lb9 : H9 b = some (.lst [.int c']) := c79.get lb7 (by simp)
    have ls9 := ls7.same c79
    have gd9 : H9 gd = some (.ins C dx' (fldsF r cc (t' : Int))) := c79.get gd7 (by simp)
    have g79 : H9 du = some (.lst (ps.map V.ref)) := c79.get g7 (by simp)
    have v19 : H9 wy = some (.tup [.ref da, .ref ja, .ref za]) := c79.get v1 (by simp)
    have v29 : H9 da = some (.lst (dps.map V.ref)) := c79.get v2 (by simp)
    have v39 : WsAt H9 ds dps := v3.imp fun p xs h => c79.get h (by simp)
    have v49 : H9 ja = some (.lst xs) := c79.get v4 (by simp)
    have v59 := v5.ch c79
    have v109 : H9 za = some (.lst []) := c79.get v10 (by simp)
    have x19 : H9 h1 = some (.lst (dps.map V.ref)) := c9.get x1 (by simp)
    have x29 : H9 h2 = some (.lst xs) := c9.get x2 (by simp)
    have x39 : H9 h3 = some (.lst []) := c9.get x3 (by simp)
    have x49 : H9 hy = some (.tup [.ref h1, .ref h2, .ref h3]) := c9.get x4 (by simp)
    have s19 : WsAt H9 ks2 ps := srt.ws.imp fun p xs h => c79.get h (by simp)
    have s29 : WsAt H9 ks2 ps2 := srt2.ws
    obtain ⟨jps, ejp⟩ := v5.refs
    have l2s : (ps2.map V.ref).length < sizeLine := by
      have := Paired.length s29
      rw [sizeLine_eq, List.length_map]; omega
    have nfo : ∀ {o p}, H8 p = some o → p ≠ fo := fun h => ne_of_none h f9
    have d1 : da ≠ fo := nfo (c8.get v2 (by simp))
    have d2 : ja ≠ fo := nfo (c8.get v4 (by simp))
    have d3 : du ≠ fo := nfo (c8.get g7 (by simp))
    have d4 : b ≠ fo := nfo (c8.get lb7 (by simp))
    clear lb7 ls7 gd7 g7 v1 v2 v3 v4 v5 v10 x1 x2 x3 x4 c8 c9 c79 f9 nfo
    walk_at "rd"
    rename_i H10 c10
    have z1 : SameL H10 h1 da := ⟨y1, dps, c10.get x19 (by simp), c10.get v29 (by simp)⟩
    have z2 : SameL H10 h2 ja := ⟨y2, jps, by rw [← ejp]; exact c10.get x29 (by simp), by rw [← ejp]; exact c10.get v49 (by simp)⟩
    have z3 : SameL H10 h3 za := ⟨y3, [], c10.get x39 (by simp), c10.get v109 (by simp)⟩
    refine ⟨(show H10 hy = some (.tup ([h1, h2, h3].map V.ref)) from c10.get x49 (by simp)), (show H10 wy = some (.tup ([da, ja, za].map V.ref)) from c10.get v19 (by simp)), .cons z1 (.cons z2 (.cons z3 .nil)), ?_⟩
    have lb : H10 b = some (.lst [.int c']) := c10.get lb9 (by simp)
    have ls := ls9.same c10
    have gd0 : H10 gd = some (.ins C dx' (fldsF r cc (t' : Int))) := c10.get gd9 (by simp)
    have gu : H10 du = some (.lst (ps.map V.ref)) := c10.get g79 (by simp)
    have v1 : H10 wy = some (.tup [.ref da, .ref ja, .ref za]) := c10.get v19 (by simp)
    have v2 : H10 da = some (.lst (dps.map V.ref)) := c10.get v29 (by simp)
    have v3 : WsAt H10 ds dps := v39.imp fun p xs h => c10.get h (by simp)
    have v4 : H10 ja = some (.lst xs) := c10.get v49 (by simp)
    have v5 := v59.ch c10
    have s1 : WsAt H10 ks2 ps := s19.imp fun p xs h => c10.get h (by simp)
    have gfo : H10 fo = some (.lst (ps2.map V.ref)) := c10.get g9 (by simp)
    clear lb9 ls9 gd9 g79 v19 v29 v39 v49 v59 v109 x19 x29 x39 x49 s19 s29 g9 z1 z2 z3 c10 srt2
    walk_at "rd"
    rename_i h1' f1 h2' f2 h3' f3 hy' f4
    obtain ⟨H11, e11⟩ : ∃ H11, upd (upd (upd (upd (upd H10 fo (.lst (ps2.map V.ref ++ [.int 7]))) h1' (.tup (dps.map V.ref))) h2' (.tup xs.reverse)) h3' (.tup [])) hy' (.tup [.ref h1', .ref h2', .ref h3']) = H11 := ⟨_, rfl⟩
    rw [e11]
    have c11 : Ch [] (upd H10 fo (.lst (ps2.map V.ref ++ [.int 7]))) H11 := by rw [← e11]; exact (((Ch.new f1 _).trans (Ch.new f2 _)).trans (Ch.new f3 _)).trans (Ch.new f4 _)
    have k11 : Ch [fo] H10 H11 := Ch.put.trans c11.wk
    have x1 : H11 h1' = some (.tup (dps.map V.ref)) := by rw [← e11]; exact g_new f4 (g_new f3 (g_new f2 upd_same))
    have x2 : H11 h2' = some (.tup xs.reverse) := by rw [← e11]; exact g_new f4 (g_new f3 upd_same)
    refine ⟨(show H11 h1' = some (sqO .tuple (dps.map V.ref)) from x1), v3.imp (fun p xs h => k11.get h (by simpa using ne_of h gfo (by intro z; cases z))), (show SqX .tuple H11 h2' xs.reverse from x2), (v5.put gfo k11).rev, (fun j hj => w6 j (List.mem_reverse.mp hj)), (by rw [List.length_reverse]; exact w7), w8, w9, fun fo2 ks3 ps3 H12 c12 f12 g12 srt3 => ?_⟩
    have ek : ks3 = ks2 := sort_unique srt3.pw srt.pw fun x => ((srt3.mem x).trans (rch_rev x)).trans (srt.mem x).symm
    subst ek
    have k12 : Ch [fo] H10 H12 := k11.trans c12.wk
    have gu12 : H12 du = some (.lst (ps.map V.ref)) := k12.get gu (by simpa using d3)
    have lb12 : H12 b = some (.lst [.int c']) := k12.get lb (by simpa using d4)
    have ls12 := ls.ch gfo k12
    have s12 : WsAt H12 ks3 ps := s1.imp fun p xs h => k12.get h (by simpa using ne_of h gfo (by intro z; cases z))
    have s32 : WsAt H12 ks3 ps3 := srt3.ws
    clear e11 f1 f2 f3 f4 c11 k11 x1 x2 lb ls gd0 gu v1 v2 v3 v4 v5 s1 gfo k12 srt3 srt f12 c12
    walk_at "rd"
    rename_i H13 c13
    exact ⟨c13.get lb12 (by simp), ls12.same c13, c0, by omega⟩
  · rintro σ H' ⟨c, _, _, _, _, _, _, _, rfl, l⟩
    walk_at "rd"
    exact q _
end
end

section
theorem all_mk {l : PySem.W.OpenLaw} {w : World} {K : PySem.W.Frag} {h : Heap} {mg : Str → Option Value} {fa CF : Addr} (X : K.In h) (G : h.Ns mainGlobals mg) (hfa : mg "law" = some (.ref fa))
    {f0 : Addr} {od0 an0 : Option Addr} {sl0 : Array (Option Value)} {oc0 kV0 dc0 pm0 cd0 ct0 : Value}
    {f1 : Addr} {od1 an1 : Option Addr} {sl1 : Array (Option Value)} {oc1 kV1 dc1 pm1 cd1 ct1 : Value}
    {f2 : Addr} {od2 an2 : Option Addr} {sl2 : Array (Option Value)} {oc2 kV2 dc2 pm2 cd2 ct2 : Value}
    {f3 : Addr} {od3 an3 : Option Addr} {sl3 : Array (Option Value)} {oc3 kV3 dc3 pm3 cd3 ct3 : Value}
    {f4 : Addr} {od4 an4 : Option Addr} {sl4 : Array (Option Value)} {oc4 kV4 dc4 pm4 cd4 ct4 : Value}
    {f5 : Addr} {od5 an5 : Option Addr} {sl5 : Array (Option Value)} {oc5 kV5 dc5 pm5 cd5 ct5 : Value}
    {f6 : Addr} {od6 an6 : Option Addr} {sl6 : Array (Option Value)} {oc6 kV6 dc6 pm6 cd6 ct6 : Value}
    {f7 : Addr} {od7 an7 : Option Addr} {sl7 : Array (Option Value)} {oc7 kV7 dc7 pm7 cd7 ct7 : Value}
    {f8 : Addr} {od8 an8 : Option Addr} {sl8 : Array (Option Value)} {oc8 kV8 dc8 pm8 cd8 ct8 : Value}
    {f9 : Addr} {od9 an9 : Option Addr} {sl9 : Array (Option Value)} {oc9 kV9 dc9 pm9 cd9 ct9 : Value}
    {f10 : Addr} {od10 an10 : Option Addr} {sl10 : Array (Option Value)} {oc10 kV10 dc10 pm10 cd10 ct10 : Value}
    {f11 : Addr} {od11 an11 : Option Addr} {sl11 : Array (Option Value)} {oc11 kV11 dc11 pm11 cd11 ct11 : Value}
    {f12 : Addr} {od12 an12 : Option Addr} {sl12 : Array (Option Value)} {oc12 kV12 dc12 pm12 cd12 ct12 : Value}
    {f13 : Addr} {od13 an13 : Option Addr} {sl13 : Array (Option Value)} {oc13 kV13 dc13 pm13 cd13 ct13 : Value}
    {f14 : Addr} {od14 an14 : Option Addr} {sl14 : Array (Option Value)} {oc14 kV14 dc14 pm14 cd14 ct14 : Value}
    {f15 : Addr} {od15 an15 : Option Addr} {sl15 : Array (Option Value)} {oc15 kV15 dc15 pm15 cd15 ct15 : Value}
    {f16 : Addr} {od16 an16 : Option Addr} {sl16 : Array (Option Value)} {oc16 kV16 dc16 pm16 cd16 ct16 : Value}
    {f17 : Addr} {od17 an17 : Option Addr} {sl17 : Array (Option Value)} {oc17 kV17 dc17 pm17 cd17 ct17 : Value}
    (aF : PySem.W.nsIn K mainGlobals "Floor" = some (some (.ref CF)))
    (a0 : PySem.W.nsIn K mainGlobals "is_whole" = some (some (.ref f0))) (l0 : K.lookup f0 = some ⟨oc0, od0, .func (PySem.W.fnOf "is_whole" "is_whole" (defArgs (top 5)) (defBody (top 5)) (defScope (top 5)) .none kV0 dc0 pm0 an0 cd0 ct0), sl0⟩) (c0 : PySem.W.codeIn K cd0 "is_whole" = true) (k0 : PySem.W.keepIn K (.ref f0) = true)
    (a1 : PySem.W.nsIn K mainGlobals "is_below" = some (some (.ref f1))) (l1 : K.lookup f1 = some ⟨oc1, od1, .func (PySem.W.fnOf "is_below" "is_below" (defArgs (top 6)) (defBody (top 6)) (defScope (top 6)) .none kV1 dc1 pm1 an1 cd1 ct1), sl1⟩) (c1 : PySem.W.codeIn K cd1 "is_below" = true) (k1 : PySem.W.keepIn K (.ref f1) = true)
    (a2 : PySem.W.nsIn K mainGlobals "is_listed" = some (some (.ref f2))) (l2 : K.lookup f2 = some ⟨oc2, od2, .func (PySem.W.fnOf "is_listed" "is_listed" (defArgs (top 7)) (defBody (top 7)) (defScope (top 7)) .none kV2 dc2 pm2 an2 cd2 ct2), sl2⟩) (c2 : PySem.W.codeIn K cd2 "is_listed" = true) (k2 : PySem.W.keepIn K (.ref f2) = true)
    (a3 : PySem.W.nsIn K mainGlobals "is_pair" = some (some (.ref f3))) (l3 : K.lookup f3 = some ⟨oc3, od3, .func (PySem.W.fnOf "is_pair" "is_pair" (defArgs (top 8)) (defBody (top 8)) (defScope (top 8)) .none kV3 dc3 pm3 an3 cd3 ct3), sl3⟩) (c3 : PySem.W.codeIn K cd3 "is_pair" = true) (k3 : PySem.W.keepIn K (.ref f3) = true)
    (a4 : PySem.W.nsIn K mainGlobals "is_box" = some (some (.ref f4))) (l4 : K.lookup f4 = some ⟨oc4, od4, .func (PySem.W.fnOf "is_box" "is_box" (defArgs (top 11)) (defBody (top 11)) (defScope (top 11)) .none kV4 dc4 pm4 an4 cd4 ct4), sl4⟩) (c4 : PySem.W.codeIn K cd4 "is_box" = true) (k4 : PySem.W.keepIn K (.ref f4) = true)
    (a5 : PySem.W.nsIn K mainGlobals "side_wire" = some (some (.ref f5))) (l5 : K.lookup f5 = some ⟨oc5, od5, .func (PySem.W.fnOf "side_wire" "side_wire" (defArgs (top 12)) (defBody (top 12)) (defScope (top 12)) .none kV5 dc5 pm5 an5 cd5 ct5), sl5⟩) (c5 : PySem.W.codeIn K cd5 "side_wire" = true) (k5 : PySem.W.keepIn K (.ref f5) = true)
    (a6 : PySem.W.nsIn K mainGlobals "join_wires" = some (some (.ref f6))) (l6 : K.lookup f6 = some ⟨oc6, od6, .func (PySem.W.fnOf "join_wires" "join_wires" (defArgs (top 14)) (defBody (top 14)) (defScope (top 14)) .none kV6 dc6 pm6 an6 cd6 ct6), sl6⟩) (c6 : PySem.W.codeIn K cd6 "join_wires" = true) (k6 : PySem.W.keepIn K (.ref f6) = true)
    (a7 : PySem.W.nsIn K mainGlobals "wires_beside" = some (some (.ref f7))) (l7 : K.lookup f7 = some ⟨oc7, od7, .func (PySem.W.fnOf "wires_beside" "wires_beside" (defArgs (top 15)) (defBody (top 15)) (defScope (top 15)) .none kV7 dc7 pm7 an7 cd7 ct7), sl7⟩) (c7 : PySem.W.codeIn K cd7 "wires_beside" = true) (k7 : PySem.W.keepIn K (.ref f7) = true)
    (a8 : PySem.W.nsIn K mainGlobals "wire_counts" = some (some (.ref f8))) (l8 : K.lookup f8 = some ⟨oc8, od8, .func (PySem.W.fnOf "wire_counts" "wire_counts" (defArgs (top 16)) (defBody (top 16)) (defScope (top 16)) .none kV8 dc8 pm8 an8 cd8 ct8), sl8⟩) (c8 : PySem.W.codeIn K cd8 "wire_counts" = true) (k8 : PySem.W.keepIn K (.ref f8) = true)
    (a9 : PySem.W.nsIn K mainGlobals "way_wires" = some (some (.ref f9))) (l9 : K.lookup f9 = some ⟨oc9, od9, .func (PySem.W.fnOf "way_wires" "way_wires" (defArgs (top 17)) (defBody (top 17)) (defScope (top 17)) .none kV9 dc9 pm9 an9 cd9 ct9), sl9⟩) (c9 : PySem.W.codeIn K cd9 "way_wires" = true) (k9 : PySem.W.keepIn K (.ref f9) = true)
    (a10 : PySem.W.nsIn K mainGlobals "_law_next" = some (some (.ref f10))) (l10 : K.lookup f10 = some ⟨oc10, od10, .func (PySem.W.fnOf "_law_next" "_law_next" (defArgs (top 19)) (defBody (top 19)) (defScope (top 19)) .none kV10 dc10 pm10 an10 cd10 ct10), sl10⟩) (c10 : PySem.W.codeIn K cd10 "_law_next" = true) (k10 : PySem.W.keepIn K (.ref f10) = true)
    (a11 : PySem.W.nsIn K mainGlobals "_law_same" = some (some (.ref f11))) (l11 : K.lookup f11 = some ⟨oc11, od11, .func (PySem.W.fnOf "_law_same" "_law_same" (defArgs (top 20)) (defBody (top 20)) (defScope (top 20)) .none kV11 dc11 pm11 an11 cd11 ct11), sl11⟩) (c11 : PySem.W.codeIn K cd11 "_law_same" = true) (k11 : PySem.W.keepIn K (.ref f11) = true)
    (a12 : PySem.W.nsIn K mainGlobals "_law_side" = some (some (.ref f12))) (l12 : K.lookup f12 = some ⟨oc12, od12, .func (PySem.W.fnOf "_law_side" "_law_side" (defArgs (top 21)) (defBody (top 21)) (defScope (top 21)) .none kV12 dc12 pm12 an12 cd12 ct12), sl12⟩) (c12 : PySem.W.codeIn K cd12 "_law_side" = true) (k12 : PySem.W.keepIn K (.ref f12) = true)
    (a13 : PySem.W.nsIn K mainGlobals "_law_box_wires" = some (some (.ref f13))) (l13 : K.lookup f13 = some ⟨oc13, od13, .func (PySem.W.fnOf "_law_box_wires" "_law_box_wires" (defArgs (top 22)) (defBody (top 22)) (defScope (top 22)) .none kV13 dc13 pm13 an13 cd13 ct13), sl13⟩) (c13 : PySem.W.codeIn K cd13 "_law_box_wires" = true) (k13 : PySem.W.keepIn K (.ref f13) = true)
    (a14 : PySem.W.nsIn K mainGlobals "_law_reached" = some (some (.ref f14))) (l14 : K.lookup f14 = some ⟨oc14, od14, .func (PySem.W.fnOf "_law_reached" "_law_reached" (defArgs (top 23)) (defBody (top 23)) (defScope (top 23)) .none kV14 dc14 pm14 an14 cd14 ct14), sl14⟩) (c14 : PySem.W.codeIn K cd14 "_law_reached" = true) (k14 : PySem.W.keepIn K (.ref f14) = true)
    (a15 : PySem.W.nsIn K mainGlobals "_law_drawn" = some (some (.ref f15))) (l15 : K.lookup f15 = some ⟨oc15, od15, .func (PySem.W.fnOf "_law_drawn" "_law_drawn" (defArgs (top 24)) (defBody (top 24)) (defScope (top 24)) .none kV15 dc15 pm15 an15 cd15 ct15), sl15⟩) (c15 : PySem.W.codeIn K cd15 "_law_drawn" = true) (k15 : PySem.W.keepIn K (.ref f15) = true)
    (a16 : PySem.W.nsIn K mainGlobals "law" = some (some (.ref f16))) (l16 : K.lookup f16 = some ⟨oc16, od16, .func (PySem.W.fnOf "law" "law" (defArgs (top 25)) (defBody (top 25)) (defScope (top 25)) .none kV16 dc16 pm16 an16 cd16 ct16), sl16⟩) (c16 : PySem.W.codeIn K cd16 "law" = true) (k16 : PySem.W.keepIn K (.ref f16) = true)
    (a17 : PySem.W.findIn K (.ref CF) "__init__" = some (some (.ref f17))) (l17 : K.lookup f17 = some ⟨oc17, od17, .func (PySem.W.fnOf "__init__" "Floor.__init__" (defArgs (inClass (top 10) 0)) (defBody (inClass (top 10) 0)) (defScope (inClass (top 10) 0)) .none kV17 dc17 pm17 an17 cd17 ct17), sl17⟩) (c17 : PySem.W.codeIn K cd17 "Floor.__init__" = true) (k17 : PySem.W.keepIn K (.ref f17) = true) (i17 : PySem.W.isFn K (.ref f17) = true)
    (pgF : PySem.W.plainGet K CF Str.empty = true) (hdF : PySem.W.hasDictIn K CF = true) (poF : PySem.W.plainOver K CF = true) (saF : PySem.W.findIn K (.ref CF) "__setattr__" = some (some (.builtin "object.__setattr__"))) (mkF : PySem.W.makesIn K CF = true) (kcF : PySem.W.keepIn K (.ref CF) = true)
    (nF_rows : PySem.W.findIn K (.ref CF) "rows" = some none)
    (nF_columns : PySem.W.findIn K (.ref CF) "columns" = some none)
    (nF_tracks : PySem.W.findIn K (.ref CF) "tracks" = some none)
    (z_len : PySem.W.nsIn K mainGlobals "len" = some none)
    (z_range : PySem.W.nsIn K mainGlobals "range" = some none)
    (z_int : PySem.W.nsIn K mainGlobals "int" = some none)
    (z_str : PySem.W.nsIn K mainGlobals "str" = some none)
    (z_isinstance : PySem.W.nsIn K mainGlobals "isinstance" = some none)
    (z_zip : PySem.W.nsIn K mainGlobals "zip" = some none)
    (z_list : PySem.W.nsIn K mainGlobals "list" = some none)
    (z_tuple : PySem.W.nsIn K mainGlobals "tuple" = some none)
    (z_dict : PySem.W.nsIn K mainGlobals "dict" = some none)
    (z_bool : PySem.W.nsIn K mainGlobals "bool" = some none)
    (z_all : PySem.W.nsIn K mainGlobals "all" = some none)
    (z_min : PySem.W.nsIn K mainGlobals "min" = some none)
    (z_sorted : PySem.W.nsIn K mainGlobals "sorted" = some none)
    (z_reversed : PySem.W.nsIn K mainGlobals "reversed" = some none) :
    ∃ fd : FuncData, (∀ (s : Shared) (v : Value), BindsTo s fd ⟨[v], []⟩ [("_law_script", v)]) ∧ ∀ base : Heap, K.In base → base.Ns mainGlobals mg → FnOk l.prog w K mg base CX0 9 fa fd ["_law_script"] (spLaw K) := by
  have e := hfa.symm.trans (PySem.W.mg_of X G a16)
  cases e
  have F0 := fun_mk (st := top 5) l0 c0 k0
  have b0 := F0.binds (ps := ["thing"]) fun _ _ _ _ _ _ us hl => match us, hl with | [_], _ => rfl
  have m0 := PySem.W.mg_of X G a0
  have F1 := fun_mk (st := top 6) l1 c1 k1
  have b1 := F1.binds (ps := ["thing", "bound"]) fun _ _ _ _ _ _ us hl => match us, hl with | [_, _], _ => rfl
  have m1 := PySem.W.mg_of X G a1
  have F2 := fun_mk (st := top 7) l2 c2 k2
  have b2 := F2.binds (ps := ["thing"]) fun _ _ _ _ _ _ us hl => match us, hl with | [_], _ => rfl
  have m2 := PySem.W.mg_of X G a2
  have F3 := fun_mk (st := top 8) l3 c3 k3
  have b3 := F3.binds (ps := ["thing"]) fun _ _ _ _ _ _ us hl => match us, hl with | [_], _ => rfl
  have m3 := PySem.W.mg_of X G a3
  have F4 := fun_mk (st := top 11) l4 c4 k4
  have b4 := F4.binds (ps := ["floor", "thing"]) fun _ _ _ _ _ _ us hl => match us, hl with | [_, _], _ => rfl
  have m4 := PySem.W.mg_of X G a4
  have F5 := fun_mk (st := top 12) l5 c5 k5
  have b5 := F5.binds (ps := ["floor", "box", "side", "track"]) fun _ _ _ _ _ _ us hl => match us, hl with | [_, _, _, _], _ => rfl
  have m5 := PySem.W.mg_of X G a5
  have F6 := fun_mk (st := top 14) l6 c6 k6
  have b6 := F6.binds (ps := ["floor", "join"]) fun _ _ _ _ _ _ us hl => match us, hl with | [_, _], _ => rfl
  have m6 := PySem.W.mg_of X G a6
  have F7 := fun_mk (st := top 15) l7 c7 k7
  have b7 := F7.binds (ps := ["floor", "joins"]) fun _ _ _ _ _ _ us hl => match us, hl with | [_, _], _ => rfl
  have m7 := PySem.W.mg_of X G a7
  have F8 := fun_mk (st := top 16) l8 c8 k8
  have b8 := F8.binds (ps := ["floor", "way"]) fun _ _ _ _ _ _ us hl => match us, hl with | [_, _], _ => rfl
  have m8 := PySem.W.mg_of X G a8
  have F9 := fun_mk (st := top 17) l9 c9 k9
  have b9 := F9.binds (ps := ["floor", "way"]) fun _ _ _ _ _ _ us hl => match us, hl with | [_, _], _ => rfl
  have m9 := PySem.W.mg_of X G a9
  have F10 := fun_mk (st := top 19) l10 c10 k10
  have b10 := F10.binds (ps := ["_law_script", "_law_at"]) fun _ _ _ _ _ _ us hl => match us, hl with | [_, _], _ => rfl
  have m10 := PySem.W.mg_of X G a10
  have F11 := fun_mk (st := top 20) l11 c11 k11
  have b11 := F11.binds (ps := ["_law_found", "_law_due"]) fun _ _ _ _ _ _ us hl => match us, hl with | [_, _], _ => rfl
  have m11 := PySem.W.mg_of X G a11
  have F12 := fun_mk (st := top 21) l12 c12 k12
  have b12 := F12.binds (ps := ["_law_box", "_law_side_here", "_law_track"]) fun _ _ _ _ _ _ us hl => match us, hl with | [_, _, _], _ => rfl
  have m12 := PySem.W.mg_of X G a12
  have F13 := fun_mk (st := top 22) l13 c13 k13
  have b13 := F13.binds (ps := ["_law_floor", "_law_box"]) fun _ _ _ _ _ _ us hl => match us, hl with | [_, _], _ => rfl
  have m13 := PySem.W.mg_of X G a13
  have F14 := fun_mk (st := top 23) l14 c14 k14
  have b14 := F14.binds (ps := ["_law_drives", "_law_joins"]) fun _ _ _ _ _ _ us hl => match us, hl with | [_, _], _ => rfl
  have m14 := PySem.W.mg_of X G a14
  have F15 := fun_mk (st := top 24) l15 c15 k15
  have b15 := F15.binds (ps := ["_law_script", "_law_at", "_law_floor"]) fun _ _ _ _ _ _ us hl => match us, hl with | [_, _, _], _ => rfl
  have m15 := PySem.W.mg_of X G a15
  have F16 := fun_mk (st := top 25) l16 c16 k16
  have F17 := fun_mk (st := inClass (top 10) 0) l17 c17 k17
  have b17 := F17.binds (ps := ["self", "rows", "columns", "tracks"]) fun _ _ _ _ _ _ us hl => match us, hl with | [_, _, _, _], _ => rfl
  have z_len := PySem.W.mg_none_of X G z_len
  have z_range := PySem.W.mg_none_of X G z_range
  have z_int := PySem.W.mg_none_of X G z_int
  have z_str := PySem.W.mg_none_of X G z_str
  have z_isinstance := PySem.W.mg_none_of X G z_isinstance
  have z_zip := PySem.W.mg_none_of X G z_zip
  have z_list := PySem.W.mg_none_of X G z_list
  have z_tuple := PySem.W.mg_none_of X G z_tuple
  have z_dict := PySem.W.mg_none_of X G z_dict
  have z_bool := PySem.W.mg_none_of X G z_bool
  have z_all := PySem.W.mg_none_of X G z_all
  have z_min := PySem.W.mg_none_of X G z_min
  have z_sorted := PySem.W.mg_none_of X G z_sorted
  have z_reversed := PySem.W.mg_none_of X G z_reversed
  have mF := PySem.W.mg_of X G aF
  have clF : Cls K CF := ⟨pgF, hdF, poF, saF⟩
  refine ⟨PySem.W.fnOf "law" "law" (defArgs (top 25)) (defBody (top 25)) (defScope (top 25)) .none kV16 dc16 pm16 an16 cd16 ct16, fun s v => .of_eq rfl, fun base _ _ => ?_⟩
  have D_is_whole_1 : DefOk l.prog w K mg base CX0 1 "is_whole" ["thing"] spWhole := ⟨f0, _, ok_whole (k := 0) F0 z_isinstance z_int z_bool, b0, k0, m0⟩
  have D_is_below_2 : DefOk l.prog w K mg base CX0 2 "is_below" ["thing", "bound"] spBelow := ⟨f1, _, ok_below (k := 1) F1 D_is_whole_1, b1, k1, m1⟩
  have D_is_listed_1 : DefOk l.prog w K mg base CX0 1 "is_listed" ["thing"] spListed := ⟨f2, _, ok_listed (k := 0) F2 z_isinstance z_list z_tuple, b2, k2, m2⟩
  have D_is_pair_2 : DefOk l.prog w K mg base CX0 2 "is_pair" ["thing"] spPair := ⟨f3, _, ok_pair (k := 1) F3 D_is_listed_1 z_len, b3, k3, m3⟩
  have D_is_box_3 : DefOk l.prog w K mg base CX0 3 "is_box" ["floor", "thing"] (spBox CF) := ⟨f4, _, ok_box (k := 2) F4 clF nF_rows nF_columns D_is_pair_2 D_is_below_2, b4, k4, m4⟩
  have D_side_wire_4 : DefOk l.prog w K mg base CX0 4 "side_wire" ["floor", "box", "side", "track"] (spSide CF) := ⟨f5, _, ok_side (k := 3) F5 clF nF_tracks D_is_box_3 (D_is_below_2.mono (by decide)), b5, k5, m5⟩
  have D_join_wires_5 : DefOk l.prog w K mg base CX0 5 "join_wires" ["floor", "join"] (spJoinW CF) := ⟨f6, _, ok_joinW (k := 4) F6 D_side_wire_4, b6, k6, m6⟩
  have D_wires_beside_6 : DefOk l.prog w K mg base CX0 6 "wires_beside" ["floor", "joins"] (spBes CF) := ⟨f7, _, ok_bes (k := 5) F7 D_join_wires_5, b7, k7, m7⟩
  have D_wire_counts_7 : DefOk l.prog w K mg base CX0 7 "wire_counts" ["floor", "way"] (spCounts CF) := ⟨f8, _, ok_counts (k := 6) F8 D_wires_beside_6 z_len z_tuple, b8, k8, m8⟩
  have D_way_wires_8 : DefOk l.prog w K mg base CX0 8 "way_wires" ["floor", "way"] (spWires CF) := ⟨f9, _, ok_wires (k := 7) F9 D_wire_counts_7 z_sorted, b9, k9, m9⟩
  have D__law_next_1 : DefOk l.prog w K mg base CX0 1 "_law_next" ["_law_script", "_law_at"] (spNext K) := ⟨f10, _, ok_next (k := 0) F10 z_len z_range, b10, k10, m10⟩
  have D__law_side_1 : DefOk l.prog w K mg base CX0 1 "_law_side" ["_law_box", "_law_side_here", "_law_track"] spLSide := ⟨f12, _, ok_lside (k := 0) F12, b12, k12, m12⟩
  have D__law_box_wires_2 : DefOk l.prog w K mg base CX0 2 "_law_box_wires" ["_law_floor", "_law_box"] spLBox := ⟨f13, _, ok_lbox (k := 1) F13 D__law_side_1 z_range, b13, k13, m13⟩
  have D__law_reached_2 : DefOk l.prog w K mg base CX0 2 "_law_reached" ["_law_drives", "_law_joins"] spReach := ⟨f14, _, ok_reach (k := 1) F14 D__law_side_1 z_len z_list, b14, k14, m14⟩
  have D__law_drawn_3 : DefOk l.prog w K mg base CX0 3 "_law_drawn" ["_law_script", "_law_at", "_law_floor"] (spDrawn K) := ⟨f15, _, ok_drawn (k := 2) F15 (D__law_next_1.mono (by decide)) D__law_box_wires_2 z_len z_range z_min, b15, k15, m15⟩
  have D__law_same_1 : DefOk l.prog w K mg base CX0 1 "_law_same" ["_law_found", "_law_due"] spF := ⟨f11, _, ok_sameF (k := 0) F11, b11, k11, m11⟩
  have D__law_same_2 : DefOk l.prog w K mg base CX0 2 "_law_same" ["_law_found", "_law_due"] (spSame 0) := ⟨f11, _, ok_same0 (k := 1) F11 D__law_same_1 z_isinstance z_dict z_list z_tuple z_str z_int z_bool z_len z_all z_zip, b11, k11, m11⟩
  have D__law_same_3 : DefOk l.prog w K mg base CX0 3 "_law_same" ["_law_found", "_law_due"] (spSame 1) := ⟨f11, _, ok_same1 (k := 2) F11 D__law_same_2 z_isinstance z_dict z_list z_tuple z_str z_int z_bool z_len z_all z_zip, b11, k11, m11⟩
  have D__law_same_4 : DefOk l.prog w K mg base CX0 4 "_law_same" ["_law_found", "_law_due"] (spSame 2) := ⟨f11, _, ok_same2 (k := 3) F11 D__law_same_3 z_isinstance z_dict z_list z_tuple z_str z_int z_bool z_len z_all z_zip, b11, k11, m11⟩
  have MkF : MakeOk l.prog w K mg base CX0 2 CF "Floor" ["self", "rows", "columns", "tracks"] (spFloor CF) := ⟨⟨f17, _, ok_Floor (k := 1) F17 clF nF_rows nF_columns nF_tracks D_is_whole_1, b17, ⟨mkF, a17, i17, kcF⟩, mF⟩⟩
  exact ok_law (k := 7) F16 (D__law_next_1.mono (by decide)) (D__law_drawn_3.mono (by decide)) (D__law_reached_2.mono (by decide)) D_way_wires_8 (D__law_same_4.mono (by decide)) (MkF.mono (by decide)) z_range z_sorted z_list z_tuple z_reversed
end

end B17
open PySem PySem.W PyProof.Rows
set_option maxRecDepth 100000 in
set_option maxHeartbeats 0 in
theorem PySem.Challenge.cw_bitfloor_k54_wires_of_a_way_holds : PySem.Challenge.rw_bitfloor_k54_wires_of_a_way.Holds := by
  w_on; o_law; k_head; (case hw => w_witness2)
  k_fill
  refine L2.walk_ofK (l := PySem.Challenge.rw_bitfloor_k54_wires_of_a_way) (n := 63) (k := 9) (x := "_law_script") (CX := L2.CX0) (sp := B17.spLaw) rfl (by decide) rfl ⟨rfl, by decide, by decide⟩ (fun w h Y => PySem.W.kIn_of Y) ?F ?S ?C
  case F =>
    intro w mg fa h KX G hmg
    refine' B17.all_mk KX G hmg ?aF ?a0 ?l0 ?c0 ?k0 ?a1 ?l1 ?c1 ?k1 ?a2 ?l2 ?c2 ?k2 ?a3 ?l3 ?c3 ?k3 ?a4 ?l4 ?c4 ?k4 ?a5 ?l5 ?c5 ?k5 ?a6 ?l6 ?c6 ?k6 ?a7 ?l7 ?c7 ?k7 ?a8 ?l8 ?c8 ?k8 ?a9 ?l9 ?c9 ?k9 ?a10 ?l10 ?c10 ?k10 ?a11 ?l11 ?c11 ?k11 ?a12 ?l12 ?c12 ?k12 ?a13 ?l13 ?c13 ?k13 ?a14 ?l14 ?c14 ?k14 ?a15 ?l15 ?c15 ?k15 ?a16 ?l16 ?c16 ?k16 ?a17 ?l17 ?c17 ?k17 ?i17 ?pgF ?hdF ?poF ?saF ?mkF ?kcF ?nF_rows ?nF_columns ?nF_tracks ?z_len ?z_range ?z_int ?z_str ?z_isinstance ?z_zip ?z_list ?z_tuple ?z_dict ?z_bool ?z_all ?z_min ?z_sorted ?z_reversed
    (case aF => k_is)
    (case a0 => k_is)
    (case l0 => k_is)
    (case c0 => k_is)
    (case k0 => k_is)
    (case a1 => k_is)
    (case l1 => k_is)
    (case c1 => k_is)
    (case k1 => k_is)
    (case a2 => k_is)
    (case l2 => k_is)
    (case c2 => k_is)
    (case k2 => k_is)
    (case a3 => k_is)
    (case l3 => k_is)
    (case c3 => k_is)
    (case k3 => k_is)
    (case a4 => k_is)
    (case l4 => k_is)
    (case c4 => k_is)
    (case k4 => k_is)
    (case a5 => k_is)
    (case l5 => k_is)
    (case c5 => k_is)
    (case k5 => k_is)
    (case a6 => k_is)
    (case l6 => k_is)
    (case c6 => k_is)
    (case k6 => k_is)
    (case a7 => k_is)
    (case l7 => k_is)
    (case c7 => k_is)
    (case k7 => k_is)
    (case a8 => k_is)
    (case l8 => k_is)
    (case c8 => k_is)
    (case k8 => k_is)
    (case a9 => k_is)
    (case l9 => k_is)
    (case c9 => k_is)
    (case k9 => k_is)
    (case a10 => k_is)
    (case l10 => k_is)
    (case c10 => k_is)
    (case k10 => k_is)
    (case a11 => k_is)
    (case l11 => k_is)
    (case c11 => k_is)
    (case k11 => k_is)
    (case a12 => k_is)
    (case l12 => k_is)
    (case c12 => k_is)
    (case k12 => k_is)
    (case a13 => k_is)
    (case l13 => k_is)
    (case c13 => k_is)
    (case k13 => k_is)
    (case a14 => k_is)
    (case l14 => k_is)
    (case c14 => k_is)
    (case k14 => k_is)
    (case a15 => k_is)
    (case l15 => k_is)
    (case c15 => k_is)
    (case k15 => k_is)
    (case a16 => k_is)
    (case l16 => k_is)
    (case c16 => k_is)
    (case k16 => k_is)
    (case a17 => k_is)
    (case l17 => k_is)
    (case c17 => k_is)
    (case k17 => k_is)
    (case i17 => k_is)
    (case pgF => k_is)
    (case hdF => k_is)
    (case poF => k_is)
    (case saF => k_is)
    (case mkF => k_is)
    (case kcF => k_is)
    (case nF_rows => k_is)
    (case nF_columns => k_is)
    (case nF_tracks => k_is)
    (case z_len => k_is)
    (case z_range => k_is)
    (case z_int => k_is)
    (case z_str => k_is)
    (case z_isinstance => k_is)
    (case z_zip => k_is)
    (case z_list => k_is)
    (case z_tuple => k_is)
    (case z_dict => k_is)
    (case z_bool => k_is)
    (case z_all => k_is)
    (case z_min => k_is)
    (case z_sorted => k_is)
    (case z_reversed => k_is)
  case S => exact fun K H a ns hl hO hS => ⟨a, ns, rfl, L2.Scr.of hS hl hO, fun _ => rfl⟩
  case C => exact fun _ _ _ _ z => z
