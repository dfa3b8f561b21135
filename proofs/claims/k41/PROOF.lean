import PyProof.Rows.All
import Wide.All
import OpenK.AllK
import Wide.FinOn
import Lean
import PyProof.EqAt
import PyProof.EqKinds
import PyProof.TupleCall
import PyProof.AttrMiss
import PyProof.ConsumeWalk
import KE.KDictOf
import OpenK.KOwn
import PyProof.NsDelKeeps
import KE.KIsAll
import PyProof.Rows.SumAny
import PyProof.NeKinds
import PyProof.SeqI3
import KE.KRevIter
import KE.KSortTup
import PyProof.DictIter
import KE.KDictList
import PyProof.TupleOfGen
import KE.KListMore
import KE.KFind
import KE.BitLaws
import PySem.Challenge.RW_bitfloor_k41_packs
import KE.RegKIsAll
set_option Elab.async false
set_option linter.all false
set_option maxRecDepth 100000
namespace L2
open PySem PySem.Spec PyProof.Rows
abbrev Key := Sum Int Str
def keyIs : Key → Value → Bool
  | .inl k, v => Value.isInt k v
  | .inr x, v => Value.isStrOf x v
def keyH (w : World) : Key → Int
  | .inl k => hashInt k
  | .inr x => hashStr w x
theorem keyIs_shape : ∀ {k : Key} {v : Value}, keyIs k v = true → (∃ i t, k = Sum.inl i ∧ v = Value.int i t) ∨ (∃ x t, k = Sum.inr x ∧ v = Value.str x t)
  | .inl i, v, h => by
    obtain ⟨t, e⟩ := Value.isInt_shape (k := i) (v := v) h
    exact .inl ⟨i, t, rfl, e⟩
  | .inr x, v, h => by
    obtain ⟨t, e⟩ := Value.isStrOf_shape (x := x) (v := v) h
    exact .inr ⟨x, t, rfl, e⟩
theorem keyIs_int (i : Int) (t : Tok) : keyIs (.inl i) (.int i t) = true := by simp [keyIs, Value.isInt]
theorem keyIs_str (x : Str) (t : Tok) : keyIs (.inr x) (.str x t) = true := by simp [keyIs, Value.isStrOf]
theorem key_ll (a b : Int) : decide ((Sum.inl a : Key) = Sum.inl b) = (a == b) := by
  by_cases e : a = b
  · subst e; simp
  · have h : ¬ (Sum.inl a : Key) = Sum.inl b := fun q => e (Sum.inl.inj q)
    rw [decide_eq_false h]
    exact (beq_eq_false_iff_ne.mpr e).symm
theorem key_rr (a b : Str) : decide ((Sum.inr a : Key) = Sum.inr b) = decide (a = b) := by
  by_cases e : a = b
  · subst e; simp
  · have h : ¬ (Sum.inr a : Key) = Sum.inr b := fun q => e (Sum.inr.inj q)
    rw [decide_eq_false h, decide_eq_false e]
theorem key_lr (a : Int) (b : Str) : decide ((Sum.inl a : Key) = Sum.inr b) = false := decide_eq_false (fun q => nomatch q)
theorem key_rl (a : Str) (b : Int) : decide ((Sum.inr a : Key) = Sum.inl b) = false := decide_eq_false (fun q => nomatch q)
def mixKind (prog : Program) (w : World) : PySem.KeyKind prog w Key where
  is := keyIs
  hash := keyH w
  inj := fun v a b ha hb => by
    rcases keyIs_shape ha with ⟨i, t, rfl, rfl⟩ | ⟨x, t, rfl, rfl⟩
    · rcases keyIs_shape hb with ⟨j, u, rfl, e⟩ | ⟨y, u, rfl, e⟩
      · injection e with e1 _; rw [e1]
      · exact nomatch e
    · rcases keyIs_shape hb with ⟨j, u, rfl, e⟩ | ⟨y, u, rfl, e⟩
      · exact nomatch e
      · injection e with e1 _; rw [e1]
  byValue := fun k v h => by
    rcases keyIs_shape h with ⟨i, t, rfl, rfl⟩ | ⟨x, t, rfl, rfl⟩ <;> rfl
  pyHash := fun hv h => by
    rcases keyIs_shape hv with ⟨i, t, rfl, rfl⟩ | ⟨x, t, rfl, rfl⟩
    · exact wpAny_pyHash_int h
    · exact wpAny_pyHash_str h
  eqBool := fun hu hv h => by
    rcases keyIs_shape hu with ⟨i, t, rfl, rfl⟩ | ⟨x, t, rfl, rfl⟩
    · rcases keyIs_shape hv with ⟨j, u, rfl, rfl⟩ | ⟨y, u, rfl, rfl⟩
      · rw [key_ll] at h; exact wpAny_eqBool_int h
      · rw [key_lr] at h; exact SeqAt.EqAt.int_str i t y u _ _ _ _ h
    · rcases keyIs_shape hv with ⟨j, u, rfl, rfl⟩ | ⟨y, u, rfl, rfl⟩
      · rw [key_rl] at h; exact SeqAt.EqAt.str_int x t j u _ _ _ _ h
      · rw [key_rr] at h; exact wpAny_eqBool_str h
  «strs» := fun k x t v h => by
    rcases keyIs_shape h with ⟨i, u, rfl, e⟩ | ⟨y, u, rfl, e⟩
    · exact nomatch e
    · injection e with e1 _
      subst e1
      cases v <;> rfl
theorem mixKind_int (prog : Program) (w : World) (i : Int) (t : Tok) : (mixKind prog w).is (.inl i) (.int i t) = true := keyIs_int i t
theorem mixKind_str (prog : Program) (w : World) (x : Str) (t : Tok) : (mixKind prog w).is (.inr x) (.str x t) = true := keyIs_str x t
end L2
namespace L2
open PySem PySem.Spec PyProof.Rows
inductive V where
  | non | bl (b : Bool) | int (i : Int) | str (x : Str) | byt (b : Array UInt8) | flt (b : UInt64) | ref (a : Addr) | ty (n : String)
  deriving DecidableEq
def RelV : V → Value → Prop
  | .non, u => u = Value.none
  | .bl b, u => u = Value.bool b
  | .int i, u => ∃ t, u = Value.int i t
  | .str x, u => ∃ t, u = Value.str x t
  | .byt b, u => ∃ t, u = Value.bytes b t
  | .flt b, u => ∃ t, u = Value.float b t
  | .ref a, u => u = Value.ref a
  | .ty n, u => u = Value.type n
abbrev Vals : List V → List Value → Prop := Paired RelV
theorem Vals.length {xs : List V} {us : List Value} (r : Vals xs us) : xs.length = us.length := Paired.length r
theorem Vals.get : ∀ {xs : List V} {us : List Value} {i : Nat} {x : V}, Vals xs us → xs[i]? = some x → ∃ u, us[i]? = some u ∧ RelV x u
  | _, _, _, _, .nil, e => by simp at e
  | _, _, 0, _, .cons r _, e => by simp at e; subst e; exact ⟨_, rfl, r⟩
  | _, _, i + 1, x, .cons _ t, e => by
    obtain ⟨u, h1, h2⟩ := Vals.get (i := i) (x := x) t (by simpa using e)
    exact ⟨u, by simpa using h1, h2⟩
theorem Vals.set {x : V} {u : Value} (r : RelV x u) : ∀ {xs : List V} {us : List Value} (i : Nat), Vals xs us → Vals (xs.set i x) (us.set i u)
  | _, _, _, .nil => .nil
  | _, _, 0, .cons _ t => .cons r t
  | _, _, i + 1, .cons q t => .cons q (Vals.set r i t)
theorem Vals.append : ∀ {xs ys : List V} {us ws : List Value}, Vals xs us → Vals ys ws → Vals (xs ++ ys) (us ++ ws)
  | _, _, _, _, .nil, s => s
  | _, _, _, _, .cons r t, s => .cons r (Vals.append t s)
theorem Vals.take : ∀ {xs : List V} {us : List Value} (n : Nat), Vals xs us → Vals (xs.take n) (us.take n)
  | _, _, 0, _ => .nil
  | _, _, _ + 1, .nil => .nil
  | _, _, n + 1, .cons r t => .cons r (Vals.take n t)
theorem Vals.drop : ∀ {xs : List V} {us : List Value} (n : Nat), Vals xs us → Vals (xs.drop n) (us.drop n)
  | _, _, 0, r => r
  | _, _, _ + 1, .nil => .nil
  | _, _, n + 1, .cons _ t => Vals.drop n t
def RelO : Option V → Option Value → Prop
  | some v, some u => RelV v u
  | none, none => True
  | _, _ => False
def KV {κ : Type} : List (κ × V) → List (κ × Value) → Prop := Paired fun (p : κ × V) (q : κ × Value) => p.1 = q.1 ∧ RelV p.2 q.2
def kV : Key → V
  | .inl i => .int i
  | .inr x => .str x
inductive HO where
  | lst (xs : List V)
  | tup (xs : List V)
  | dK (kvs : List (Key × V)) | dT (kvs : List (List Key × V))
  | set (S : Int → Bool) (n : Nat)
  | ins (C dx : Addr) (fs : List (Str × V))
  | own (x : Addr)
  | xd (fs : List (Str × V))
  | met (f x : Addr)
  | rng (lo hi : Int)
  | frz (o : Obj) (u : HO)
  | tbl (ps : Array Value)
  | ext (φ : Heap → Prop)
abbrev Hp := Addr → Option HO
def upd (H : Hp) (a : Addr) (o : HO) : Hp := fun b => if b = a then some o else H b
theorem upd_same {H : Hp} {a : Addr} {o : HO} : upd H a o a = some o := by unfold upd; rw [if_pos rfl]
theorem upd_ne {H : Hp} {a b : Addr} {o : HO} (h : b ≠ a) : upd H a o b = H b := by unfold upd; rw [if_neg h]
theorem ne_of {H : Hp} {a b : Addr} {o u : HO} (h : H a = some o) (h' : H b = some u) (d : o ≠ u) : a ≠ b := by
  intro e; subst e; rw [h] at h'; exact d (Option.some.inj h')
theorem ne_of_none {H : Hp} {a b : Addr} {o : HO} (h : H a = some o) (h' : H b = none) : a ≠ b := by
  intro e; subst e; rw [h] at h'; cases h'
section
variable (P : Program) (w : World)
def ObjOk (H : Hp) (h : Heap) (a : Addr) : HO → Prop
  | .lst xs => xs.length ≤ sizeLine ∧ ∃ (its : List Value) (n : Nat), Vals xs its ∧ h.get? a = some { cls := .type "list", data := .seq its.toArray n }
  | .tup xs => xs.length ≤ sizeLine ∧ ∃ its : List Value, Vals xs its ∧ IsTup h a its.toArray
  | .dK kvs => kvs.length ≤ sizeLine ∧ (a == sysModules) = false ∧ ∃ vs, KV kvs vs ∧ h.DictOf (mixKind P w) a vs
  | .dT kvs => kvs.length ≤ sizeLine ∧ (a == sysModules) = false ∧ ∃ xs : List (List Key × Addr × Value),
      Paired (fun (p : List Key × V) (q : List Key × Addr × Value) => p.1 = q.1 ∧ H q.2.1 = some (.tup (p.1.map kV)) ∧ RelV p.2 q.2.2) kvs xs ∧
      ∃ o es ep, h.get? a = some o ∧ o.ExactDict ∧ o.data = .dict es ep ∧ es.toList = xs.map (entryOfKey (tupleKind (mixKind P w))) ∧ (xs.map (·.1)).Nodup
  | .set S n => h.SetOf (intKind P w) a S n
  | .ins C dx fs => H dx = some (.own a) ∧ fs.length ≤ 1000 ∧ dx ≠ a ∧ h.get? a = some (PySem.W.instObj C dx) ∧
      ∃ mA, h.Ns1 dx mA ∧ (∀ f, RelO (fs.lookup f) (mA f)) ∧ PySem.Within mA (fs.map (·.1))
  | .own _ => ∃ o, h.get? a = some o
  | .xd fs => ∃ mA, h.Ns1 a mA ∧ ∀ f, RelO (fs.lookup f) (mA f)
  | .rng lo hi => ∃ t u v, h.get? a = some { cls := .type "range", data := .fields #[.int lo t, .int hi u, .int 1 v] }
  | .frz o u => h.get? a = some o ∧ ObjOk H h a u
  | .tbl ps => h.get? a = some { cls := .none, data := .fields ps }
  | .met f x => h.get? a = some (PySem.W.methodObj (.ref f) (.ref x))
  | .ext φ => φ h ∧ (∃ o, h.get? a = some o) ∧ ∀ h1 h2 : Heap, φ h1 → (∀ o, h1.get? a = some o → h2.get? a = some o) → φ h2
def HOk (H : Hp) (h : Heap) : Prop := ∀ a o, H a = some o → ObjOk P w H h a o
end
section
variable {P : Program} {w : World} {H H' : Hp} {h h' : Heap} {a : Addr} {o : HO}
theorem ObjOk.lt (x : ObjOk P w H h a o) : a < h.objs.size := by
  cases o with
  | lst xs => obtain ⟨_, _, _, _, e⟩ := x; exact Heap.lt_size e
  | tup xs => obtain ⟨_, _, _, p⟩ := x; exact p.lt
  | dK kvs => obtain ⟨_, _, _, _, o, _, _, e, _⟩ := x; exact Heap.lt_size e
  | dT kvs => obtain ⟨_, _, _, _, o, _, _, e, _⟩ := x; exact Heap.lt_size e
  | set S n => obtain ⟨o, _, _, _, e, _⟩ := x; exact Heap.lt_size e
  | ins C dx fs => obtain ⟨_, _, _, e, _⟩ := x; exact Heap.lt_size e
  | own y => obtain ⟨_, e⟩ := x; exact Heap.lt_size e
  | xd fs => obtain ⟨_, ⟨_, _, _, e, _⟩, _⟩ := x; exact Heap.lt_size e
  | rng lo hi => obtain ⟨_, _, _, e⟩ := x; exact Heap.lt_size e
  | frz ob u => obtain ⟨e, _⟩ := x; exact Heap.lt_size e
  | tbl ps => exact Heap.lt_size (show h.get? a = some _ from x)
  | met f y => exact Heap.lt_size (show h.get? a = some _ from x)
  | ext φ => obtain ⟨_, ⟨_, e⟩, _⟩ := x; exact Heap.lt_size e
theorem Paired.mapP {α β : Type} {F G : α → β → Prop} : ∀ {l₁ : List α} {l₂ : List β}, Paired F l₁ l₂ → (∀ a b, F a b → G a b) → Paired G l₁ l₂
  | _, _, .nil, _ => .nil
  | _, _, .cons r t, f => .cons (f _ _ r) (Paired.mapP t f)
theorem ObjOk.stay (x : ObjOk P w H h a o) (k : ∀ b u, (b = a ∨ H b = some (.own a)) → h.get? b = some u → h'.get? b = some u)
    (ho : ∀ b, H b = some (.own a) → H' b = some (.own a)) (ht : ∀ b xs, H b = some (.tup xs) → H' b = some (.tup xs)) : ObjOk P w H' h' a o := by
  induction o with
  | lst xs => obtain ⟨z, its, n, r, e⟩ := x; exact ⟨z, its, n, r, k _ _ (.inl rfl) e⟩
  | tup xs => obtain ⟨z, its, r, ob, e, c⟩ := x; exact ⟨z, its, r, ob, k _ _ (.inl rfl) e, c⟩
  | dK kvs => obtain ⟨z, y, vs, r, ob, es, ep, e, c⟩ := x; exact ⟨z, y, vs, r, ob, es, ep, k _ _ (.inl rfl) e, c⟩
  | dT kvs =>
    obtain ⟨z, y, xs, r, ob, es, ep, e, c⟩ := x
    exact ⟨z, y, xs, Paired.mapP r fun p q z => ⟨z.1, ht _ _ z.2.1, z.2.2⟩, ob, es, ep, k _ _ (.inl rfl) e, c⟩
  | set S n => obtain ⟨ob, es, ep, t, e, c⟩ := x; exact ⟨ob, es, ep, t, k _ _ (.inl rfl) e, c⟩
  | ins C dx fs =>
    obtain ⟨d, z, ne, e, mA, ⟨od, es, ep, e2, c⟩, r⟩ := x
    exact ⟨ho _ d, z, ne, k _ _ (.inl rfl) e, mA, ⟨od, es, ep, k _ _ (.inr d) e2, c⟩, r⟩
  | own y => obtain ⟨ob, e⟩ := x; exact ⟨ob, k _ _ (.inl rfl) e⟩
  | xd fs => obtain ⟨mA, ⟨od, es, ep, e, c⟩, r⟩ := x; exact ⟨mA, ⟨od, es, ep, k _ _ (.inl rfl) e, c⟩, r⟩
  | rng lo hi => obtain ⟨t, u, v, e⟩ := x; exact ⟨t, u, v, k _ _ (.inl rfl) e⟩
  | frz ob u ih => obtain ⟨e, q⟩ := x; exact ⟨k _ _ (.inl rfl) e, ih q⟩
  | tbl ps =>
    have e : h.get? a = some { cls := .none, data := .fields ps } := x
    show h'.get? a = some { cls := .none, data := .fields ps }
    exact k a _ (.inl rfl) e
  | met f y =>
    have e : h.get? a = some (PySem.W.methodObj (.ref f) (.ref y)) := x
    show h'.get? a = some (PySem.W.methodObj (.ref f) (.ref y))
    exact k a _ (.inl rfl) e
  | ext φ => obtain ⟨p, ⟨o, e⟩, st⟩ := x; exact ⟨st _ _ p fun o q => k _ _ (.inl rfl) q, ⟨o, k _ _ (.inl rfl) e⟩, st⟩
theorem HOk.lt (x : HOk P w H h) (e : H a = some o) : a < h.objs.size := (x a o e).lt
theorem HOk.fresh (x : HOk P w H h) (e : h.objs.size ≤ a) : H a = none := by
  cases q : H a with
  | none => rfl
  | some u => exact absurd (Nat.lt_of_lt_of_le (x.lt q) e) (Nat.lt_irrefl _)
theorem HOk.kept (x : HOk P w H h) (k : ∀ b u, h.get? b = some u → h'.get? b = some u) : HOk P w H h' := fun a o e =>
  (x a o e).stay (fun b u _ q => k b u q) (fun _ q => q) fun _ _ q => q
theorem HOk.laid (x : HOk P w H h) (k : ∀ b u, h.get? b = some u → h'.get? b = some u) (hp : h.objs.size ≤ a) (new : ObjOk P w (upd H a o) h' a o) : HOk P w (upd H a o) h' := fun b u e => by
  have hn := x.fresh hp
  by_cases hb : b = a
  · subst hb; rw [upd_same] at e; cases e; exact new
  · rw [upd_ne hb] at e
    exact (x b u e).stay (fun c v _ q => k c v q) (fun c q => by rw [upd_ne (ne_of_none q hn)]; exact q) fun c xs q => by rw [upd_ne (ne_of_none q hn)]; exact q
end
def Rd (H : Hp) (a : Addr) (u : HO) : Prop := H a = some u ∨ ∃ o, H a = some (.frz o u)
theorem Rd.ok {P : Program} {w : World} {H : Hp} {h : Heap} {a : Addr} {u : HO} (r : Rd H a u) (x : HOk P w H h) : ObjOk P w H h a u := by
  rcases r with r | ⟨o, r⟩
  · exact x a u r
  · obtain ⟨_, q⟩ := x a _ r
    exact q
def Mut : Option HO → Prop
  | some (.lst _) => True
  | some (.dK _) => True
  | some (.dT _) => True
  | some (.set _ _) => True
  | some (.ins _ _ _) => True
  | some (.ext _) => True
  | _ => False
section
variable {P : Program} {w : World} {H : Hp} {h h' : Heap} {x e : Addr} {o' : HO}
theorem HOk.write (ok : HOk P w H h) (mu : Mut (H x)) (he : e = x ∨ H e = some (.own x)) (k : ∀ b u, b ≠ e → h.get? b = some u → h'.get? b = some u) (heo : ∃ u, h'.get? e = some u)
    (new : ObjOk P w (upd H x o') h' x o') : HOk P w (upd H x o') h' := fun b u q => by
  have nown : ∀ c y, H c = some (.own y) → c ≠ x := fun c y r z => by subst z; rw [r] at mu; exact mu
  have ntup : ∀ c xs, H c = some (.tup xs) → c ≠ x := fun c xs r z => by subst z; rw [r] at mu; exact mu
  by_cases hb : b = x
  · subst hb; rw [upd_same] at q; cases q; exact new
  · rw [upd_ne hb] at q
    by_cases hbe : b = e
    · have q' : H b = some (.own x) := by
        rcases he with z | z
        · exact absurd (hbe.trans z) hb
        · rw [hbe]; exact z
      rw [q] at q'; cases q'
      obtain ⟨v, hv⟩ := heo
      exact ⟨v, by rw [hbe]; exact hv⟩
    · refine (ok b u q).stay (fun c v hc r => k c v ?_ r) (fun c r => by rw [upd_ne (nown c b r)]; exact r) fun c xs r => by rw [upd_ne (ntup c xs r)]; exact r
      rcases hc with rfl | hc
      · exact hbe
      · rintro rfl
        rcases he with z | z
        · exact nown c b hc z
        · rw [hc] at z; cases z; exact hb rfl
end
structure Un (fs ex : List Addr) (H H' : Hp) (h h' : Heap) : Prop where
  keep : ∀ b o, h.get? b = some o → H b = none → b ∉ fs → b ∉ ex → h'.get? b = some o
  slot : ∀ b o, h.get? b = some o → H b = none → b ∈ fs → b ∉ ex → ∃ sl, h'.get? b = some { o with slots := sl }
  free : ∀ b o, h.get? b = some o → H b = none → b ∉ ex → H' b = none
  there : ∀ b o, h.get? b = some o → b ∉ ex → ∃ o', h'.get? b = some o'
  tups : ∀ b xs, H b = some (.tup xs) → H' b = some (.tup xs)
  frzs : ∀ b o u, H b = some (.frz o u) → H' b = some (.frz o u)
  tbls : ∀ b ps, H b = some (.tbl ps) → ∃ more, H' b = some (.tbl (ps ++ more))
section
variable {fs fs' ex ex' : List Addr} {H H1 H2 : Hp} {h h1 h2 h' : Heap} {a x e : Addr} {o : HO}
theorem Un.any (u : Un fs ex H H1 h h1) {b : Addr} {ob : Obj} (q : h.get? b = some ob) (n : H b = none) (hx : b ∉ ex) : ∃ sl, h1.get? b = some { ob with slots := sl } := by
  by_cases hb : b ∈ fs
  · exact u.slot b ob q n hb hx
  · exact ⟨ob.slots, u.keep b ob q n hb hx⟩
theorem Un.kept (k : ∀ b u, h.get? b = some u → h'.get? b = some u) : Un fs ex H H h h' :=
  ⟨fun b ob q _ _ _ => k b ob q, fun b ob q _ _ _ => ⟨ob.slots, k b ob q⟩, fun _ _ _ n _ => n, fun b ob q _ => ⟨ob, k b ob q⟩, fun _ _ q => q, fun _ _ _ q => q, fun _ ps q => ⟨#[], by rw [q]; simp⟩⟩
theorem Un.refl : Un fs ex H H h h := Un.kept fun _ _ q => q
theorem Un.laid (k : ∀ b u, h.get? b = some u → h'.get? b = some u) (hp : h.objs.size ≤ a) (hn : H a = none) : Un fs ex H (upd H a o) h h' where
  keep := fun b u q _ _ _ => k b u q
  slot := fun b u q _ _ _ => ⟨u.slots, k b u q⟩
  free := fun b u q n _ => by rw [upd_ne (Nat.ne_of_lt (Nat.lt_of_lt_of_le (Heap.lt_size q) hp))]; exact n
  there := fun b u q _ => ⟨u, k b u q⟩
  tups := fun b xs q => by rw [upd_ne (ne_of_none q hn)]; exact q
  frzs := fun b u xs q => by rw [upd_ne (ne_of_none q hn)]; exact q
  tbls := fun b ps q => ⟨#[], by rw [upd_ne (ne_of_none q hn), q]; simp⟩
theorem Un.write (mu : Mut (H x)) (he : e = x ∨ H e = some (.own x)) (k : ∀ b u, b ≠ e → h.get? b = some u → h'.get? b = some u) (heo : ∃ u, h'.get? e = some u) : Un fs ex H (upd H x o) h h' := by
  have hx : ∀ b, H b = none → b ≠ x := fun b n z => by subst z; rw [n] at mu; exact mu
  have hb : ∀ b, H b = none → b ≠ e := fun b n z => by
    subst z
    rcases he with r | r
    · exact hx b n r
    · rw [n] at r; cases r
  have hm : ∀ b u, H b = some u → ¬ Mut (some u) → b ≠ x := fun b u q nm z => by subst z; rw [q] at mu; exact nm mu
  refine ⟨fun b u q n _ _ => k b u (hb b n) q, fun b u q n _ _ => ⟨u.slots, k b u (hb b n) q⟩, fun b u q n _ => by rw [upd_ne (hx b n)]; exact n, fun b u q _ => ?_,
    fun b xs q => by rw [upd_ne (hm b _ q fun z => z)]; exact q, fun b u xs q => by rw [upd_ne (hm b _ q fun z => z)]; exact q, fun b ps q => ⟨#[], by rw [upd_ne (hm b _ q fun z => z), q]; simp⟩⟩
  by_cases hbe : b = e
  · subst hbe; exact heo
  · exact ⟨u, k b u hbe q⟩
end
def trk (h : Heap) (H : Hp) : List Addr := (List.range h.objs.size).filter fun a => (H a).isSome
def hidT (h : Heap) (H : Hp) : Heap := PySem.W.hideAll h (trk h H)
theorem hidT_size (h : Heap) (H : Hp) : (hidT h H).objs.size = h.objs.size := PySem.W.hideAll_size _ _
theorem hidT_get {h : Heap} {H : Hp} {b : Addr} {o : Obj} (e : h.get? b = some o) (n : H b = none) : (hidT h H).get? b = some o :=
  PySem.W.hideAll_get _ e fun hm => by
    have q : (H b).isSome = true := (List.mem_filter.mp hm).2
    rw [n] at q; simp at q
theorem of_hidT {h : Heap} {H : Hp} {b : Addr} {o : Obj} (e : (hidT h H).get? b = some o) : h.get? b = some o ∧ H b = none := by
  have e' : h.get? b = some o := PySem.W.of_hideAll (trk h H) e
  refine ⟨e', ?_⟩
  cases q : H b with
  | none => rfl
  | some x =>
    have hm : b ∈ trk h H := List.mem_filter.mpr ⟨List.mem_range.mpr (Heap.lt_size e'), by simp [q]⟩
    have z : (hidT h H).get? b = none := PySem.W.hideAll_none (trk h H) hm
    rw [z] at e; cases e
def allNews (g h : Heap) (L : Addr) : List (Addr × Obj) := (List.range h.objs.size).filterMap fun a => if a = L ∨ (g.get? a).isSome = true then none else (h.get? a).map fun o => (a, o)
def rest (g h : Heap) (L d : Addr) : List (Addr × Obj) := (allNews g h L).filter fun p => decide (p.1 ≠ d)
end L2
namespace L2
open PySem PySem.Spec PyProof.Rows
structure Mod (K : PySem.W.Frag) (mg : Str → Option Value) (base : Heap) : Prop where
  kin : K.In base
  glob : base.Ns mainGlobals mg
  blt : ∃ mb, base.Ns builtinsNs mb ∧ ∀ x : Str, x ≠ "__name__" → mb x = bootBuiltins x
  nolimit : base.NoLimit
structure Cx where
  prog : Program
  w : World
  K : PySem.W.Frag
  mg : Str → Option Value
  base : Heap
  A : Around
  N : List Str
  s₀ : Shared
  H₀ : Hp
  env : Env
  outer : List Env
  stack : List Env
  ex : List Addr
  fn : Str → Bool
  calm : Bool
  pn : List (Addr × Obj)
  xe : Value → Shared → Prop
def frs (l : List Env) : List Addr := l.filterMap (·.frame)
abbrev Cx.fs (X : Cx) : List Addr := frs X.outer
def Vis (sc : Scope) (x : Str) : Prop := sc.names.lookup x = some .local ∨ sc.names.lookup x = some .cell ∨ sc.names.lookup x = some .free
def Loc (sc : Scope) (x : Str) : Prop := sc.names.lookup x = some .local ∨ sc.names.lookup x = some .cell
def Look (env : Env) (h : Heap) (m : Str → Option Value) (x : Str) (u : Value) : Prop :=
  (env.kindOf x = some .local ∧ m x = some u) ∨ ((env.kindOf x = some .cell ∨ env.kindOf x = some .free) ∧ ∃ c, env.cells.lookup x = some c ∧ h.IsCell c (some u))
structure Cx.Ok (X : Cx) : Prop where
  mod : Mod X.K X.mg X.base
  kind : X.env.scope.kind = .function
  glob : X.env.globals = mainGlobals
  blt : X.env.builtins = builtinsNs
  above : X.s₀.heap.objs.size ≤ X.env.locals
  inj : ∀ x y c, X.env.cells.lookup x = some c → X.env.cells.lookup y = some c → x = y
  has : ∀ x, (X.env.kindOf x = some .cell ∨ X.env.kindOf x = some .free) → ∃ c, X.env.cells.lookup x = some c
  cab : ∀ x c, X.fn x = true → X.env.cells.lookup x = some c → X.s₀.heap.objs.size ≤ c
  hd : X.calm = true → X.A.handled = none
  frames : X.A.frames = some X.stack
  stk : X.stack = X.outer ∨ (X.stack = X.env :: X.outer ∧ X.env.frame = some X.env.locals)
  exf : ∀ b ∈ X.ex, b ≠ X.env.locals ∧ ∀ x c, X.env.cells.lookup x = some c → c ≠ b
  bs : ∀ b o, X.base.get? b = some o → X.s₀.heap.get? b = some o ∧ X.H₀ b = none
  bsz : X.base.objs.size ≤ X.s₀.heap.objs.size
  noex : ∀ b o, X.base.get? b = some o → b ∉ X.ex
  exfs : ∀ b ∈ X.ex, b ∉ X.fs
  funs : X.s₀.heap.FunFrames X.base X.outer
  frf : ∀ b ∈ X.fs, X.H₀ b = none
structure Inv (X : Cx) (pins : List (Addr × Obj)) (σ : List (Option V)) (H : Hp) (s : Shared) : Prop where
  ok : X.Ok
  os : s.os = X.s₀.os
  bare : AllBare s.gens
  base : Un X.fs X.ex X.H₀ H X.s₀.heap s.heap
  loc : ∃ m, s.heap.Ns X.env.locals m ∧ ∀ (i : Nat) (x : Str) (v : V), X.N[i]? = some x → σ[i]? = some (some v) → Vis X.env.scope x → ∃ u, RelV v u ∧ Look X.env s.heap m x u
  cell : ∀ x c, X.env.cells.lookup x = some c → ∃ v, s.heap.IsCell c v
  free : H X.env.locals = none
  freeC : ∀ x c, X.env.cells.lookup x = some c → H c = none
  pin : ∀ p ∈ X.pn ++ pins, s.heap.get? p.1 = some p.2 ∧ H p.1 = none ∧ p.1 ≠ X.env.locals ∧ p.1 ∉ X.fs ∧ ∀ v, p.2.data ≠ .cell v
  hok : HOk X.prog X.w H s.heap
  len : σ.length = X.N.length
section
variable {X : Cx} {pins : List (Addr × Obj)} {σ : List (Option V)} {H H' : Hp} {s : Shared} {h' : Heap}
theorem Cx.Ok.nofr (ok : X.Ok) {b : Addr} {o : Obj} (e : X.base.get? b = some o) : b ∉ X.fs := fun hb => by
  have := (ok.funs.mem hb).1
  rw [e] at this; cases this
theorem Inv.bs (I : Inv X pins σ H s) : ∀ b o, X.base.get? b = some o → s.heap.get? b = some o ∧ H b = none := fun b o e =>
  ⟨I.base.keep b o (I.ok.bs b o e).1 (I.ok.bs b o e).2 (I.ok.nofr e) (I.ok.noex b o e), I.base.free b o (I.ok.bs b o e).1 (I.ok.bs b o e).2 (I.ok.noex b o e)⟩
theorem Inv.bk (I : Inv X pins σ H s) : ∀ b o, X.base.get? b = some o → s.heap.get? b = some o := fun b o e => (I.bs b o e).1
theorem Inv.mod (I : Inv X pins σ H s) : Mod X.K X.mg X.base := I.ok.mod
theorem Inv.kIn (I : Inv X pins σ H s) : X.K.In s.heap := I.ok.mod.kin.keeps I.bk
theorem Inv.lt (I : Inv X pins σ H s) : X.env.locals < s.heap.objs.size := let ⟨_, hn, _⟩ := I.loc; hn.lt
theorem Inv.sz (I : Inv X pins σ H s) : X.s₀.heap.objs.size ≤ s.heap.objs.size := Nat.le_trans I.ok.above (Nat.le_of_lt I.lt)
theorem Inv.nofs (I : Inv X pins σ H s) {a : Addr} (h : s.heap.objs.size ≤ a) : a ∉ X.fs := fun hb => by
  obtain ⟨_, o, ho, _⟩ := I.ok.funs.mem hb
  exact absurd (Nat.lt_of_lt_of_le (Heap.lt_size ho) (Nat.le_trans I.sz h)) (Nat.lt_irrefl _)
theorem Inv.cne (I : Inv X pins σ H s) : ∀ x c, X.env.cells.lookup x = some c → c ≠ X.env.locals := fun x c e z => by
  obtain ⟨v, o, ho, hd⟩ := I.cell x c e
  obtain ⟨m, ⟨o', es, ep, ho', hd', _⟩, _⟩ := I.loc
  rw [z, ho'] at ho; cases ho; rw [hd'] at hd; cases hd
theorem Inv.funs (I : Inv X pins σ H s) : s.heap.FunFrames X.base X.outer := by
  have all : ∀ (l : List Env), (∀ b ∈ frs l, b ∈ X.fs) → X.s₀.heap.FunFrames X.base l → s.heap.FunFrames X.base l := by
    intro l
    induction l with
    | nil => intro _ _; trivial
    | cons env r ih =>
      intro hs hl
      obtain ⟨hk, ⟨L, o, hf, hn, ho, hd⟩, hr⟩ := hl
      have hL : L ∈ X.fs := hs L (by unfold frs; rw [List.filterMap_cons, hf]; exact List.mem_cons_self)
      obtain ⟨sl, e⟩ := I.base.slot L o ho (I.ok.frf L hL) hL fun z => I.ok.exfs L z hL
      exact ⟨hk, ⟨L, _, hf, hn, e, hd⟩, ih (fun b hb => hs b (by unfold frs; rw [List.filterMap_cons, hf]; exact List.mem_cons_of_mem _ hb)) hr⟩
  exact all X.outer (fun _ hb => hb) I.ok.funs
theorem Inv.stack (I : Inv X pins σ H s) : s.heap.FunFrames X.base X.stack := by
  rcases I.ok.stk with e | ⟨e, hf⟩
  · rw [e]; exact I.funs
  · rw [e]
    obtain ⟨m, hn, _⟩ := I.loc
    refine .cons (by rw [I.ok.kind]; decide) hf hn ?_ I.funs
    exact Heap.get?_none_of_le (Nat.le_trans I.ok.bsz I.ok.above)
theorem Inv.stkSub (I : Inv X pins σ H s) : ∀ b ∈ frs X.stack, b ∈ X.env.locals :: X.fs := fun b hb => by
  rcases I.ok.stk with e | ⟨e, hf⟩
  · rw [e] at hb; exact List.mem_cons_of_mem _ hb
  · rw [e] at hb
    unfold frs at hb
    rw [List.filterMap_cons, hf] at hb
    exact hb
theorem Inv.stkFree (I : Inv X pins σ H s) : ∀ b ∈ frs X.stack, H b = none := fun b hb => by
  rcases List.mem_cons.mp (I.stkSub b hb) with e | hb
  · rw [e]; exact I.free
  · obtain ⟨_, o, ho, _⟩ := I.ok.funs.mem hb
    exact I.base.free b o ho (I.ok.frf b hb) fun z => I.ok.exfs b z hb
theorem Inv.step {g' : Array GenState} {t' : Nat} {d' : Drawn} {ch : List Addr} (I : Inv X pins σ H s)
    (hch : ∀ b ∈ ch, (b ∈ X.ex ∨ X.s₀.heap.objs.size ≤ b) ∧ b ≠ X.env.locals ∧ (∀ x c, X.env.cells.lookup x = some c → c ≠ b) ∧ ∀ p ∈ X.pn ++ pins, p.1 ≠ b)
    (keep : ∀ b o, b ≠ X.env.locals → b ∉ X.fs → b ∉ ch → s.heap.get? b = some o → H b = none → h'.get? b = some o)
    (slot : ∀ b o, b ≠ X.env.locals → b ∈ X.fs → b ∉ ch → s.heap.get? b = some o → H b = none → ∃ sl, h'.get? b = some { o with slots := sl }) (free : ∀ b o, b ∉ ch → s.heap.get? b = some o → H b = none → H' b = none)
    (there : ∀ b o, b ∉ ch → s.heap.get? b = some o → ∃ o', h'.get? b = some o')
    (tups : ∀ b xs, H b = some (.tup xs) → H' b = some (.tup xs)) (frzs : ∀ b o u, H b = some (.frz o u) → H' b = some (.frz o u)) (tbls : ∀ b ps, H b = some (.tbl ps) → ∃ more, H' b = some (.tbl (ps ++ more)))
    (ns : ∀ m, s.heap.Ns X.env.locals m → h'.Ns X.env.locals m) (hok : HOk X.prog X.w H' h') (hg : AllBare g') :
    Inv X pins σ H' { s with heap := h', gens := g', drawn := d', toks := t' } := by
  have neL : ∀ b o, X.s₀.heap.get? b = some o → b ≠ X.env.locals := fun b o e => Nat.ne_of_lt (Nat.lt_of_lt_of_le (Heap.lt_size e) I.ok.above)
  have neC : ∀ b o, X.s₀.heap.get? b = some o → b ∉ X.ex → b ∉ ch := fun b o e hx hb => by
    rcases (hch b hb).1 with z | z
    · exact hx z
    · exact absurd (Nat.lt_of_lt_of_le (Heap.lt_size e) z) (Nat.lt_irrefl _)
  have cellK : ∀ x c, X.env.cells.lookup x = some c → ∀ v, s.heap.IsCell c v → h'.IsCell c v := fun x c e v ⟨o, ho, hd⟩ => by
    have nch : c ∉ ch := fun z => (hch c z).2.2.1 x c e rfl
    by_cases hc : c ∈ X.fs
    · obtain ⟨sl, q⟩ := slot c o (I.cne x c e) hc nch ho (I.freeC x c e)
      exact ⟨_, q, hd⟩
    · exact ⟨o, keep c o (I.cne x c e) hc nch ho (I.freeC x c e), hd⟩
  refine ⟨I.ok, I.os, hg, ⟨fun b o e n hb hx => ?_, fun b o e n hb hx => ?_, fun b o e n hx => ?_, fun b o e hx => ?_, fun b xs e => tups b xs (I.base.tups b xs e), fun b o xs e => frzs b o xs (I.base.frzs b o xs e), fun b ps e => ?_⟩, ?_, fun x c e => ?_, ?_, fun x c e => ?_, fun p hp => ?_, hok, I.len⟩
  · exact keep b o (neL b o e) hb (neC b o e hx) (I.base.keep b o e n hb hx) (I.base.free b o e n hx)
  · obtain ⟨sl, e1⟩ := I.base.slot b o e n hb hx
    obtain ⟨sl', e2⟩ := slot b _ (neL b o e) hb (neC b o e hx) e1 (I.base.free b o e n hx)
    exact ⟨sl', e2⟩
  · obtain ⟨o', e1⟩ := I.base.there b o e hx
    exact free b o' (neC b o e hx) e1 (I.base.free b o e n hx)
  · obtain ⟨o', e1⟩ := I.base.there b o e hx
    exact there b o' (neC b o e hx) e1
  · obtain ⟨m1, e1⟩ := I.base.tbls b ps e
    obtain ⟨m2, e2⟩ := tbls b _ e1
    exact ⟨m1 ++ m2, by rw [e2, Array.append_assoc]⟩
  · obtain ⟨m, hn, hl⟩ := I.loc
    refine ⟨m, ns m hn, fun i x v e1 e2 e3 => ?_⟩
    obtain ⟨u, r, l⟩ := hl i x v e1 e2 e3
    refine ⟨u, r, ?_⟩
    rcases l with l | ⟨k, c, e, z⟩
    · exact .inl l
    · exact .inr ⟨k, c, e, cellK x c e _ z⟩
  · obtain ⟨v, z⟩ := I.cell x c e
    exact ⟨v, cellK x c e v z⟩
  · obtain ⟨m, ⟨o, _, _, ho, _⟩, _⟩ := I.loc
    exact free _ o (fun z => (hch _ z).2.1 rfl) ho I.free
  · obtain ⟨v, o, ho, hd⟩ := I.cell x c e
    exact free c o (fun z => (hch c z).2.2.1 x c e rfl) ho (I.freeC x c e)
  · obtain ⟨e, n, ne, nf, d⟩ := I.pin p hp
    have nch : p.1 ∉ ch := fun z => (hch p.1 z).2.2.2 p hp rfl
    exact ⟨keep p.1 p.2 ne nf nch e n, free p.1 p.2 nch e n, ne, nf, d⟩
theorem Inv.un {t' : Nat} (I : Inv X pins σ H s) (u : Un X.fs [] H H' s.heap h') (hok : HOk X.prog X.w H' h') : Inv X pins σ H' { s with heap := h', toks := t' } := by
  obtain ⟨m, ⟨o, es, ep, ho, r⟩, _⟩ := id I.loc
  obtain ⟨sl, hL⟩ := u.any ho I.free (by simp)
  exact I.step (g' := s.gens) (d' := s.drawn) (ch := []) (fun _ z => nomatch z) (fun b o _ hb _ e n => u.keep b o e n hb (by simp)) (fun b o _ hb _ e n => u.slot b o e n hb (by simp)) (fun b o _ e n => u.free b o e n (by simp)) (fun b o _ e => u.there b o e (by simp)) u.tups u.frzs u.tbls (fun m' hm => by
    obtain ⟨o', es', ep', ho', r'⟩ := hm
    rw [ho] at ho'; cases ho'
    exact ⟨_, es', ep', hL, r'⟩) hok I.bare
theorem Inv.call {g' : Array GenState} {t' : Nat} {d' : Drawn} {ch : List Addr} (I : Inv X pins σ H s) (u : Un (frs X.stack) ch H H' s.heap h') (hok : HOk X.prog X.w H' h') (hg : AllBare g')
    (hch : ∀ b ∈ ch, (b ∈ X.ex ∨ X.s₀.heap.objs.size ≤ b) ∧ b ≠ X.env.locals ∧ (∀ x c, X.env.cells.lookup x = some c → c ≠ b) ∧ ∀ p ∈ X.pn ++ pins, p.1 ≠ b) :
    Inv X pins σ H' { s with heap := h', gens := g', drawn := d', toks := t' } := by
  obtain ⟨m, ⟨o, es, ep, ho, r⟩, _⟩ := id I.loc
  obtain ⟨sl, hL⟩ := u.any ho I.free fun z => (hch _ z).2.1 rfl
  exact I.step (ch := ch) hch (fun b o hL hb hc e n => u.keep b o e n (fun z => (List.mem_cons.mp (I.stkSub b z)).elim hL hb) hc) (fun b o _ _ hc e n => u.any e n hc) (fun b o hc e n => u.free b o e n hc) (fun b o hc e => u.there b o e hc) u.tups u.frzs u.tbls (fun m' hm => by
    obtain ⟨o', es', ep', ho', r'⟩ := hm
    rw [ho] at ho'; cases ho'
    exact ⟨_, es', ep', hL, r'⟩) hok hg
theorem Inv.turned {t' : Nat} {it : Addr} (I : Inv X pins σ H s) (k : ∀ b o, b ≠ it → s.heap.get? b = some o → h'.get? b = some o) (hn : H it = none) (hL : it ≠ X.env.locals)
    (h1 : it ∈ X.ex ∨ X.s₀.heap.objs.size ≤ it) (h2 : ∀ x c, X.env.cells.lookup x = some c → c ≠ it) (h3 : ∀ p ∈ X.pn ++ pins, p.1 ≠ it) : Inv X pins σ H { s with heap := h', toks := t' } := by
  have nit : ∀ b u, H b = some u → b ≠ it := fun b u e z => by rw [z, hn] at e; cases e
  refine I.step (g' := s.gens) (d' := s.drawn) (ch := [it]) (fun b hb => ?_) (fun b o _ _ hc e _ => k b o (fun z => hc (by simp [z])) e) (fun b o _ _ hc e _ => ⟨o.slots, k b o (fun z => hc (by simp [z])) e⟩) (fun _ _ _ _ n => n)
    (fun b o hc e => ⟨o, k b o (fun z => hc (by simp [z])) e⟩) (fun _ _ e => e) (fun _ _ _ e => e) (fun b ps e => ⟨#[], by rw [e]; simp⟩) (fun m hm => ?_) (fun b u e => ?_) I.bare
  · have e : b = it := by simpa using hb
    subst e
    exact ⟨h1, hL, h2, h3⟩
  · obtain ⟨o, es, ep, ho, r⟩ := hm
    exact ⟨o, es, ep, k _ o (Ne.symm hL) ho, r⟩
  · refine (I.hok b u e).stay (fun c v hc q => k c v ?_ q) (fun _ q => q) fun _ _ q => q
    rcases hc with z | z
    · rw [z]; exact nit b u e
    · exact nit c _ z
theorem Inv.tok (I : Inv X pins σ H s) (t : Nat) : Inv X pins σ H { s with toks := t } := I.un (h' := s.heap) (t' := t) Un.refl I.hok
theorem Inv.kept {t' : Nat} (I : Inv X pins σ H s) (k : ∀ b u, s.heap.get? b = some u → h'.get? b = some u) : Inv X pins σ H { s with heap := h', toks := t' } := I.un (Un.kept k) (I.hok.kept k)
theorem Inv.laid {a : Addr} {o : HO} {t' : Nat} (I : Inv X pins σ H s) (k : ∀ b u, s.heap.get? b = some u → h'.get? b = some u) (hp : s.heap.objs.size ≤ a) (new : ObjOk X.prog X.w (upd H a o) h' a o) :
    Inv X pins σ (upd H a o) { s with heap := h', toks := t' } := I.un (Un.laid k hp (I.hok.fresh hp)) (I.hok.laid k hp new)
theorem Inv.write {x e : Addr} {o : HO} {t' : Nat} (I : Inv X pins σ H s) (mu : Mut (H x)) (he : e = x ∨ H e = some (.own x)) (k : ∀ b u, b ≠ e → s.heap.get? b = some u → h'.get? b = some u) (heo : ∃ u, h'.get? e = some u)
    (new : ObjOk X.prog X.w (upd H x o) h' x o) : Inv X pins σ (upd H x o) { s with heap := h', toks := t' } := I.un (Un.write mu he k heo) (I.hok.write mu he k heo new)
theorem Inv.pins_of {pins' : List (Addr × Obj)} (I : Inv X pins σ H s) (h : ∀ p ∈ pins', s.heap.get? p.1 = some p.2 ∧ H p.1 = none ∧ p.1 ≠ X.env.locals ∧ p.1 ∉ X.fs ∧ ∀ v, p.2.data ≠ .cell v) : Inv X pins' σ H s :=
  ⟨I.ok, I.os, I.bare, I.base, I.loc, I.cell, I.free, I.freeC, fun p hp => (List.mem_append.mp hp).elim (fun z => I.pin p (List.mem_append_left _ z)) (h p), I.hok, I.len⟩
theorem nodup_ix {N : List Str} (hN : N.Nodup) {i j : Nat} {x : Str} (a : N[i]? = some x) (b : N[j]? = some x) : i = j := by
  obtain ⟨h1, e1⟩ := List.getElem?_eq_some_iff.mp a
  obtain ⟨h2, e2⟩ := List.getElem?_eq_some_iff.mp b
  exact (List.getElem_inj hN).mp (e1.trans e2.symm)
theorem store_ok2 {M : Model} {A : Around} {E : Value → Shared → Prop} {i : Nat} {x : Str} {v : V} {u : Value} {Q : Unit → Shared → Prop} (I : Inv X pins σ H s) (hN : X.N.Nodup) (hi : X.N[i]? = some x) (hx : Loc X.env.scope x) (r : RelV v u)
    (h : ∀ s', Inv X pins (σ.set i (some v)) H s' → (∃ a, Heap.SameBut a s.heap s'.heap ∧ (a = X.env.locals ∨ X.env.cells.lookup x = some a)) → Q () s') (hf : X.fn x = true ∨ X.env.scope.names.lookup x = some .local := by first | exact .inl rfl | exact .inr rfl | assumption) : wpAny M A (storeName X.env x u) Q E s := by
  obtain ⟨m, hn, hl⟩ := id I.loc
  have hcls : (X.env.scope.kind == .class || (X.env.scope.kind == .module && X.env.locals != X.env.globals)) = false := by rw [I.ok.kind]; rfl
  have hiσ : i < σ.length := by rw [I.len]; exact (List.getElem?_eq_some_iff.mp hi).1
  have cne := I.cne
  have tracked : ∀ {a : Addr} {h' : Heap}, (∃ o, s.heap.get? a = some o ∧ H a = none) → Heap.SameBut a s.heap h' → HOk X.prog X.w H h' := fun {a h'} ha hs b ob e => by
    obtain ⟨_, _, hfree⟩ := ha
    refine (I.hok b ob e).stay (fun c w' hc q => (hs.2 c ?_).trans q) (fun _ q => q) fun _ _ q => q
    rintro rfl
    rcases hc with rfl | hc
    · rw [hfree] at e; cases e
    · rw [hfree] at hc; cases hc
  rcases hx with hk | hk
  · refine wpAny_storeName_local hk hn (fun h' hn' hs => ?_) hcls
    obtain ⟨oL, _, _, hoL, _⟩ := id hn
    refine h _ ⟨I.ok, I.os, I.bare, ⟨fun b o e n hb hx => ?_, fun b o e n hb hx => ?_, I.base.free, fun b o e hx => ?_, I.base.tups, I.base.frzs, I.base.tbls⟩, ⟨_, hn', fun j y v' e1 e2 e3 => ?_⟩, fun y c e => ?_, I.free, I.freeC, fun p hp => ?_, tracked ⟨oL, hoL, I.free⟩ hs, by simpa using I.len⟩ ⟨_, hs, .inl rfl⟩
    · exact (hs.2 b (Nat.ne_of_lt (Nat.lt_of_lt_of_le (Heap.lt_size e) I.ok.above))).trans (I.base.keep b o e n hb hx)
    · obtain ⟨sl, e1⟩ := I.base.slot b o e n hb hx
      exact ⟨sl, (hs.2 b (Nat.ne_of_lt (Nat.lt_of_lt_of_le (Heap.lt_size e) I.ok.above))).trans e1⟩
    · obtain ⟨o', e1⟩ := I.base.there b o e hx
      exact ⟨o', (hs.2 b (Nat.ne_of_lt (Nat.lt_of_lt_of_le (Heap.lt_size e) I.ok.above))).trans e1⟩
    · by_cases hj : j = i
      · subst hj
        rw [hi] at e1; cases e1
        rw [List.getElem?_set_self hiσ] at e2
        cases e2
        exact ⟨u, r, .inl ⟨hk, by simp⟩⟩
      · rw [List.getElem?_set_ne (Ne.symm hj)] at e2
        obtain ⟨u', r', q⟩ := hl j y v' e1 e2 e3
        refine ⟨u', r', ?_⟩
        rcases q with ⟨k, e⟩ | ⟨k, c, e, z⟩
        · refine .inl ⟨k, ?_⟩
          have : y ≠ x := fun e => hj (nodup_ix hN e1 (e ▸ hi))
          simp [this, e]
        · exact .inr ⟨k, c, e, z.sameBut hs (cne y c e)⟩
    · obtain ⟨w', z⟩ := I.cell y c e
      exact ⟨w', z.sameBut hs (cne y c e)⟩
    · obtain ⟨e, n, ne, nf, d⟩ := I.pin p hp
      exact ⟨(hs.2 p.1 ne).trans e, n, ne, nf, d⟩
  · have hfn : X.fn x = true := by
      rcases hf with z | z
      · exact z
      · rw [z] at hk; cases hk
    obtain ⟨c, hc⟩ := I.ok.has x (.inl hk)
    obtain ⟨w', z⟩ := I.cell x c hc
    refine wpAny_storeName_cell I.ok.kind hk hc z (fun h' hc' hs => ?_)
    obtain ⟨oc, hoc, hocd⟩ := id z
    refine h { s with heap := h' } ⟨I.ok, I.os, I.bare, ⟨fun b o e n hb hx => ?_, fun b o e n hb hx => ?_, I.base.free, fun b o e hx => ?_, I.base.tups, I.base.frzs, I.base.tbls⟩, ⟨m, hn.sameBut hs (Ne.symm (cne x c hc)), fun j y v' e1 e2 e3 => ?_⟩, fun y c' e => ?_, I.free, I.freeC, fun p hp => ?_, tracked ⟨oc, hoc, I.freeC x c hc⟩ hs, by simpa using I.len⟩ ⟨c, hs, .inr hc⟩
    · exact (hs.2 b (Nat.ne_of_lt (Nat.lt_of_lt_of_le (Heap.lt_size e) (I.ok.cab x c hfn hc)))).trans (I.base.keep b o e n hb hx)
    · obtain ⟨sl, e1⟩ := I.base.slot b o e n hb hx
      exact ⟨sl, (hs.2 b (Nat.ne_of_lt (Nat.lt_of_lt_of_le (Heap.lt_size e) (I.ok.cab x c hfn hc)))).trans e1⟩
    · obtain ⟨o', e1⟩ := I.base.there b o e hx
      exact ⟨o', (hs.2 b (Nat.ne_of_lt (Nat.lt_of_lt_of_le (Heap.lt_size e) (I.ok.cab x c hfn hc)))).trans e1⟩
    · by_cases hj : j = i
      · subst hj
        rw [hi] at e1; cases e1
        rw [List.getElem?_set_self hiσ] at e2
        cases e2
        exact ⟨u, r, .inr ⟨.inl hk, c, hc, hc'⟩⟩
      · rw [List.getElem?_set_ne (Ne.symm hj)] at e2
        obtain ⟨u', r', q⟩ := hl j y v' e1 e2 e3
        refine ⟨u', r', ?_⟩
        rcases q with q | ⟨k, c', e, z'⟩
        · exact .inl q
        · refine .inr ⟨k, c', e, z'.sameBut hs ?_⟩
          rintro rfl
          exact hj (nodup_ix hN e1 (I.ok.inj _ _ _ e hc ▸ hi))
    · by_cases hcc : c' = c
      · subst hcc; exact ⟨_, hc'⟩
      · obtain ⟨w2, z2⟩ := I.cell y c' e
        exact ⟨w2, z2.sameBut hs hcc⟩
    · obtain ⟨e, n, ne, nf, d⟩ := I.pin p hp
      refine ⟨(hs.2 p.1 ?_).trans e, n, ne, nf, d⟩
      intro q
      rw [q, hoc] at e
      have q' : oc = p.2 := Option.some.inj e
      exact d w' (by rw [← q']; exact hocd)
theorem store_ok {M : Model} {A : Around} {E : Value → Shared → Prop} {i : Nat} {x : Str} {v : V} {u : Value} {Q : Unit → Shared → Prop} (I : Inv X pins σ H s) (hN : X.N.Nodup) (hi : X.N[i]? = some x) (hx : Loc X.env.scope x) (r : RelV v u)
    (h : ∀ s', Inv X pins (σ.set i (some v)) H s' → Q () s') (hf : X.fn x = true ∨ X.env.scope.names.lookup x = some .local := by first | exact .inl rfl | exact .inr rfl | assumption) : wpAny M A (storeName X.env x u) Q E s :=
  store_ok2 I hN hi hx r (fun s' I' _ => h s' I') hf
theorem Inv.call' {s' : Shared} {ch : List Addr} (I : Inv X pins σ H s) (ho : s'.os = s.os) (u : Un (frs X.stack) ch H H' s.heap s'.heap) (hok : HOk X.prog X.w H' s'.heap) (hg : AllBare s'.gens)
    (hch : ∀ b ∈ ch, (b ∈ X.ex ∨ X.s₀.heap.objs.size ≤ b) ∧ b ≠ X.env.locals ∧ (∀ x c, X.env.cells.lookup x = some c → c ≠ b) ∧ ∀ p ∈ X.pn ++ pins, p.1 ≠ b) : Inv X pins σ H' s' := by
  obtain ⟨h', g', d', t', o'⟩ := s'
  have e : o' = s.os := ho
  subst e
  exact I.call (g' := g') (t' := t') (d' := d') u hok hg hch
end
abbrev XK := Value → Option Addr → Hp → Prop
abbrev St := List (Option V)
abbrev VK := V → Hp → Prop
abbrev TE := St → Hp → VK → Prop
abbrev TT := St → Hp → (Bool → Hp → Prop) → Prop
abbrev TA := St → Hp → (List V → Hp → Prop) → Prop
structure Ends where
  nx : St → Hp → Prop
  rt : VK
  bk : St → Hp → Prop := fun _ _ => False
  ct : St → Hp → Prop := fun _ _ => False
abbrev TS := Ends → St → Hp → Prop
def EP (X : Cx) (pins : List (Addr × Obj)) (σ : St) (Q : VK) (u : Value) (s' : Shared) : Prop := ∃ v H', Inv X pins σ H' s' ∧ RelV v u ∧ Q v H'
def TP (X : Cx) (pins : List (Addr × Obj)) (σ : St) (Q : Bool → Hp → Prop) (b : Bool) (s' : Shared) : Prop := ∃ H', Inv X pins σ H' s' ∧ Q b H'
def AP (X : Cx) (pins : List (Addr × Obj)) (σ : St) (Q : List V → Hp → Prop) (us : List Value) (s' : Shared) : Prop := ∃ vs H', Inv X pins σ H' s' ∧ Vals vs us ∧ Q vs H'
def SP (X : Cx) (pins : List (Addr × Obj)) (D : Ends) (f : Flow) (s' : Shared) : Prop :=
  match f with
  | .next => ∃ σ' H', Inv X pins σ' H' s' ∧ D.nx σ' H'
  | .brk => ∃ σ' H', Inv X pins σ' H' s' ∧ D.bk σ' H'
  | .cont => ∃ σ' H', Inv X pins σ' H' s' ∧ D.ct σ' H'
  | .ret u => ∃ v σ' H', Inv X pins σ' H' s' ∧ RelV v u ∧ D.rt v H'
def PE (X : Cx) (e : Expr) (t : TE) : Prop :=
  ∀ (pins : List (Addr × Obj)) (s : Shared) (σ : St) (H : Hp) (Q : VK), Inv X pins σ H s → t σ H Q → wpAny (model X.prog X.w) X.A (eval e X.env) (EP X pins σ Q) X.xe s
def PT (X : Cx) (e : Expr) (t : TT) : Prop :=
  ∀ (pins : List (Addr × Obj)) (s : Shared) (σ : St) (H : Hp) (Q : Bool → Hp → Prop), Inv X pins σ H s → t σ H Q → wpAny (model X.prog X.w) X.A (isTrue e X.env (eval e X.env)) (TP X pins σ Q) X.xe s
def PW (X : Cx) (e : Expr) (t : TT) : Prop :=
  ∀ (whole : Sem Value) (pins : List (Addr × Obj)) (s : Shared) (σ : St) (H : Hp) (Q : Bool → Hp → Prop), Inv X pins σ H s → t σ H Q → wpAny (model X.prog X.w) X.A (isTrue e X.env whole) (TP X pins σ Q) X.xe s
theorem PW.pt {X : Cx} {e : Expr} {t : TT} (h : PW X e t) : PT X e t := h _
def PA (X : Cx) (es : List Expr) (t : TA) : Prop :=
  ∀ (pos : Pos) (pins : List (Addr × Obj)) (s : Shared) (σ : St) (H : Hp) (Q : List V → Hp → Prop), Inv X pins σ H s → t σ H Q → wpAny (model X.prog X.w) X.A (spliced (backTo pos (starEach es X.env))) (AP X pins σ Q) X.xe s
def PS (X : Cx) (st : Stmt) (t : TS) : Prop :=
  ∀ (pins : List (Addr × Obj)) (s : Shared) (σ : St) (H : Hp) (D : Ends), Inv X pins σ H s → t D σ H → wpAny (model X.prog X.w) X.A (exec st X.env) (SP X pins D) X.xe s
def PSs (X : Cx) (st : List Stmt) (t : TS) : Prop :=
  ∀ (pins : List (Addr × Obj)) (s : Shared) (σ : St) (H : Hp) (D : Ends), Inv X pins σ H s → t D σ H → wpAny (model X.prog X.w) X.A (execs st X.env) (SP X pins D) X.xe s
theorem thn {α : Type} {t : Sem α} {Q Q' : α → Shared → Prop} {M : Model} {A : Around} {E : Value → Shared → Prop} {s : Shared} (h : wpAny M A t Q E s) (hQ : ∀ a s, Q a s → Q' a s) : wpAny M A t Q' E s := wpAny_mono h hQ fun _ _ x => x
end L2
namespace L2
open PySem PySem.Spec PyProof.Rows
section
variable {X : Cx}
def tVar (i : Nat) : TE := fun σ H Q => ∃ v, σ[i]? = some (some v) ∧ Q v H
def tC (v : V) : TE := fun _ H Q => Q v H
theorem pe_var {i : Nat} {x : Str} {pos : Pos} (hN : X.N[i]? = some x) (hv : Vis X.env.scope x) (hd : (x == ("__debug__" : Str)) = false := by decide) (hcd : (x == ("__classdict__" : Str)) = false := by decide) : PE X (.Name x pos) (tVar i) := by
  intro pins s σ H Q I h
  obtain ⟨v, e, h⟩ := h
  obtain ⟨m, hn, hl⟩ := I.loc
  obtain ⟨u, r, l⟩ := hl i x v hN e hv
  have fin : EP X pins σ Q u s := ⟨v, H, I, r, h⟩
  rcases l with ⟨hk, hm⟩ | ⟨hk, c, hc, hcell⟩
  · exact wpAny_Name (wpAny_loadName_local I.ok.kind hk hn hm fin) hd
  · rcases hk with hk | hk
    · exact wpAny_Name (wpAny_loadName_cell I.ok.kind hk hc hcell fin) hd
    · exact wpAny_Name (wpAny_loadName_free I.ok.kind hk hc hcell fin hcd) hd
theorem pe_int {i j pos} : PE X (.Constant (.int i) j pos) (tC (.int i)) := fun _ _ _ H _ I h => wpAny_Constant_int ⟨.int i, H, I.tok _, ⟨_, rfl⟩, h⟩
theorem pe_bl {b j pos} : PE X (.Constant (.bool b) j pos) (tC (.bl b)) := fun _ _ _ H _ I h => Constant_bool ⟨.bl b, H, I, rfl, h⟩
theorem pe_non {j pos} : PE X (.Constant .none j pos) (tC .non) := fun _ _ _ H _ I h => Constant_none ⟨.non, H, I, rfl, h⟩
theorem pe_str {x j pos} : PE X (.Constant (.str x) j pos) (tC (.str x)) := fun _ _ _ H _ I h => Calls.Constant_str ⟨.str x, H, I.tok _, ⟨_, rfl⟩, h⟩
def Gl (X : Cx) (x : Str) : Prop := X.env.kindOf x = some .globalImplicit
theorem ld_glob {E : Value → Shared → Prop} {pins : List (Addr × Obj)} {s : Shared} {σ : St} {H : Hp} {x : Str} {u : Value} {pos : Pos} {Q : Value → Shared → Prop} (I : Inv X pins σ H s) (hg : Gl X x) (hm : X.mg x = some u) (h : Q u s)
    (hd : (x == ("__debug__" : Str)) = false := by decide) : wpAny (model X.prog X.w) X.A (eval (.Name x pos) X.env) Q E s :=
  Calls.Name_function_global I.ok.kind hg (Calls.loadGlobal_global (by rw [I.ok.glob]; exact I.mod.glob.keeps I.bk) hm h) hd
theorem ld_blt {E : Value → Shared → Prop} {pins : List (Addr × Obj)} {s : Shared} {σ : St} {H : Hp} {x : Str} {u : Value} {pos : Pos} {Q : Value → Shared → Prop} (I : Inv X pins σ H s) (hg : Gl X x) (hm : X.mg x = none) (hv : bootBuiltins x = some u) (h : Q u s)
    (hn : x ≠ "__name__" := by decide) (hd : (x == ("__debug__" : Str)) = false := by decide) : wpAny (model X.prog X.w) X.A (eval (.Name x pos) X.env) Q E s := by
  obtain ⟨mb, h1, h2⟩ := I.mod.blt
  exact Calls.Name_function_global I.ok.kind hg (Calls.loadGlobal_builtin (by rw [I.ok.glob]; exact I.mod.glob.keeps I.bk) hm (by rw [I.ok.blt]; exact h1.keeps I.bk) ((h2 x hn).trans hv) h) hd
theorem pe_glob {x : Str} {v : V} {u : Value} {pos : Pos} (hg : Gl X x) (hm : X.mg x = some u) (r : RelV v u) (hd : (x == ("__debug__" : Str)) = false := by decide) : PE X (.Name x pos) (tC v) :=
  fun _ _ _ H _ I h => ld_glob I hg hm ⟨v, H, I, r, h⟩ hd
theorem pe_bltn {x : Str} {v : V} {u : Value} {pos : Pos} (hg : Gl X x) (hm : X.mg x = none) (hv : bootBuiltins x = some u) (r : RelV v u) (hn : x ≠ "__name__" := by decide) (hd : (x == ("__debug__" : Str)) = false := by decide) : PE X (.Name x pos) (tC v) :=
  fun _ _ _ H _ I h => ld_blt I hg hm hv ⟨v, H, I, r, h⟩ hn hd
def t2I (ta tb : TE) (k : Int → Int → Hp → Prop) : St → Hp → Prop := fun σ H => ta σ H fun x H1 => tb σ H1 fun y H2 => ∃ i j, x = .int i ∧ y = .int j ∧ k i j H2
def tAdd (ta tb : TE) : TE := fun σ H Q => t2I ta tb (fun i j H2 => Q (.int (i + j)) H2) σ H
def tSub (ta tb : TE) : TE := fun σ H Q => t2I ta tb (fun i j H2 => Q (.int (i - j)) H2) σ H
def tMul (ta tb : TE) : TE := fun σ H Q => t2I ta tb (fun i j H2 => (-(2 ^ 64) < i ∧ i < 2 ^ 64) ∧ Q (.int (i * j)) H2) σ H
variable {a b : Expr} {ta tb : TE} {pos : Pos}
def PC (X : Cx) (op : CmpOp) (a b : Expr) (t : TE) : Prop :=
  ∀ (pins : List (Addr × Obj)) (s : Shared) (σ : St) (H : Hp) (Q : VK), Inv X pins σ H s → t σ H Q →
    wpAny (model X.prog X.w) X.A (eval a X.env) (fun v s₁ => wpAny (model X.prog X.w) X.A (eval b X.env) (fun u s₂ => wpAny (model X.prog X.w) X.A (compareOp op v u) (EP X pins σ Q) X.xe s₂) X.xe s₁) X.xe s
def tCmp (p : Int → Int → Bool) (ta tb : TE) : TE := fun σ H Q => t2I ta tb (fun i j H2 => Q (.bl (p i j)) H2) σ H
abbrev tLt : TE → TE → TE := tCmp fun i j => decide (i < j)
abbrev tLe : TE → TE → TE := tCmp fun i j => decide (i ≤ j)
abbrev tGt : TE → TE → TE := tCmp fun i j => decide (j < i)
abbrev tGe : TE → TE → TE := tCmp fun i j => decide (j ≤ i)
abbrev tEqI : TE → TE → TE := tCmp fun i j => decide (i = j)
abbrev tNeI : TE → TE → TE := tCmp fun i j => !decide (i = j)
def tIsN (ta : TE) : TE := fun σ H Q => ta σ H fun x H1 => Q (.bl (decide (x = .non))) H1
def tNotN (ta : TE) : TE := fun σ H Q => ta σ H fun x H1 => Q (.bl (!decide (x = .non))) H1
def tB (t : TE) : TT := fun σ H Q => t σ H fun x H1 => ∃ c, x = .bl c ∧ Q c H1
theorem pe_cmp {op : CmpOp} {t : TE} (h : PC X op a b t) (h1 : behindInMarks op b = false := by first | exact nobehind _ (by decide) (by decide) | rfl) : PE X (.Compare a [op] [b] pos) t := fun pins s σ H Q I hw => wpAny_Compare1 (h pins s σ H Q I hw) h1
theorem pt_val {e : Expr} {t : TE} (h : PE X e t) (he : ∀ whole, isTrue e X.env whole = (do let v ← whole; standAt e.pos; holding [v] (truthy v)) := by intro _; rfl) : PT X e (tB t) := by
  intro pins s σ H Q I hw
  refine isTrue_plain (thn (h pins s σ H _ I hw) fun v s1 ⟨x, H1, I1, r1, q1⟩ => ?_) (he _)
  obtain ⟨d, rfl, q⟩ := q1
  cases r1
  exact wpAny_truthy_bool ⟨H1, I1, q⟩
variable {tA tB' : TT} {rest : List Expr}
def tAnd (t u : TT) : TT := fun σ H Q => t σ H fun c H1 => if c = true then u σ H1 Q else Q false H1
def tOr (t u : TT) : TT := fun σ H Q => t σ H fun c H1 => if c = true then Q true H1 else u σ H1 Q
def tNot (t : TT) : TT := fun σ H Q => t σ H fun c H1 => Q (!c) H1
theorem pw_and1 (ha : PT X a tA) : PW X (.BoolOp .And [a] pos) tA := by
  intro wh pins s σ H Q I h
  refine isTrue_and (thn (ha pins s σ H Q I h) fun c s1 e => ?_)
  cases c with
  | true => exact isTrue_and_nil e
  | false => exact e
theorem pw_or1 (ha : PT X a tA) : PW X (.BoolOp .Or [a] pos) tA := by
  intro wh pins s σ H Q I h
  refine isTrue_or (thn (ha pins s σ H Q I h) fun c s1 e => ?_)
  cases c with
  | false => exact isTrue_or_nil e
  | true => exact e
theorem pw_and (ha : PT X a tA) (hb : PW X (.BoolOp .And (b :: rest) pos) tB') : PW X (.BoolOp .And (a :: b :: rest) pos) (tAnd tA tB') := by
  intro wh pins s σ H Q I h
  refine isTrue_and (thn (ha pins s σ H _ I h) fun c s1 ⟨H1, I1, q1⟩ => ?_)
  cases c with
  | true => exact hb wh pins s1 σ H1 Q I1 q1
  | false => exact ⟨H1, I1, q1⟩
theorem pw_or (ha : PT X a tA) (hb : PW X (.BoolOp .Or (b :: rest) pos) tB') : PW X (.BoolOp .Or (a :: b :: rest) pos) (tOr tA tB') := by
  intro wh pins s σ H Q I h
  refine isTrue_or (thn (ha pins s σ H _ I h) fun c s1 ⟨H1, I1, q1⟩ => ?_)
  cases c with
  | true => exact ⟨H1, I1, q1⟩
  | false => exact hb wh pins s1 σ H1 Q I1 q1
theorem pt_not (ha : PT X a tA) : PT X (.UnaryOp .Not a pos) (tNot tA) := by
  intro pins s σ H Q I h
  exact isTrue_not (ha pins s σ H (fun c H1 => Q (!c) H1) I h)
def tAndV (ta tb : TE) : TE := fun σ H Q => ta σ H fun x H1 => ∃ c, x = .bl c ∧ if c = true then tb σ H1 Q else Q (.bl false) H1
def tOrV (ta tb : TE) : TE := fun σ H Q => ta σ H fun x H1 => ∃ c, x = .bl c ∧ if c = true then Q (.bl true) H1 else tb σ H1 Q
def tNotV (ta : TE) : TE := fun σ H Q => ta σ H fun x H1 => ∃ c, x = .bl c ∧ Q (.bl (!c)) H1
theorem pe_one {op} {t : TE} (h : PE X a t) : PE X (.BoolOp op [a] pos) t := fun pins s σ H Q I hw => BoolOp_one (h pins s σ H Q I hw)
theorem pe_and (ha : PE X a ta) (hb : PE X (.BoolOp .And (b :: rest) pos) tb) : PE X (.BoolOp .And (a :: b :: rest) pos) (tAndV ta tb) := by
  intro pins s σ H Q I h
  refine BoolOp_and (thn (ha pins s σ H _ I h) fun v s1 ⟨x, H1, I1, r1, q1⟩ => ?_)
  obtain ⟨c, rfl, q1⟩ := q1
  cases r1
  refine wpAny_truthy_bool ?_
  cases c with
  | true => exact hb pins s1 σ H1 Q I1 q1
  | false => exact ⟨.bl false, H1, I1, rfl, q1⟩
theorem pe_or (ha : PE X a ta) (hb : PE X (.BoolOp .Or (b :: rest) pos) tb) : PE X (.BoolOp .Or (a :: b :: rest) pos) (tOrV ta tb) := by
  intro pins s σ H Q I h
  refine BoolOp_or (thn (ha pins s σ H _ I h) fun v s1 ⟨x, H1, I1, r1, q1⟩ => ?_)
  obtain ⟨c, rfl, q1⟩ := q1
  cases r1
  refine wpAny_truthy_bool ?_
  cases c with
  | false => exact hb pins s1 σ H1 Q I1 q1
  | true => exact ⟨.bl true, H1, I1, rfl, q1⟩
theorem pe_not (ha : PE X a ta) : PE X (.UnaryOp .Not a pos) (tNotV ta) := by
  intro pins s σ H Q I h
  refine UnaryOp_ (thn (ha pins s σ H _ I h) fun v s1 ⟨x, H1, I1, r1, q1⟩ => ?_)
  obtain ⟨c, rfl, q1⟩ := q1
  cases r1
  exact not_of (wpAny_truthy_bool ⟨.bl (!c), H1, I1, rfl, q1⟩)
def tIf (t : TT) (ta tb : TE) : TE := fun σ H Q => t σ H fun c H1 => if c = true then ta σ H1 Q else tb σ H1 Q
end
end L2
namespace L2
open PySem PySem.Spec PyProof.Rows
def SqL (K : PySem.W.Frag) (H : Hp) (a : Addr) (xs : List V) : Prop :=
  Rd H a (.lst xs) ∨
    ∃ (o : Obj) (its : Array Value) (n : Nat), K.lookup a = some o ∧ o.cls = .type "list" ∧ o.dict = none ∧ o.data = .seq its n ∧ its.size ≤ sizeLine ∧ Vals xs its.toList
def SqT (K : PySem.W.Frag) (H : Hp) (a : Addr) (xs : List V) : Prop :=
  Rd H a (.tup xs) ∨
    ∃ (o : Obj) (its : Array Value) (n : Nat), K.lookup a = some o ∧ o.cls = .type "tuple" ∧ o.data = .seq its n ∧ its.size ≤ sizeLine ∧ Vals xs its.toList
def absV : Value → Option V
  | .none => some .non
  | .bool b => some (.bl b)
  | .int i _ => some (.int i)
  | .str x _ => some (.str x)
  | .bytes b _ => some (.byt b)
  | .float b _ => some (.flt b)
  | .ref a => some (.ref a)
  | .type n => some (.ty n)
  | _ => none
theorem RelV.abs {x : V} {u : Value} (r : RelV x u) : absV u = some x := by
  cases x with
  | non => cases r; rfl
  | bl _ => cases r; rfl
  | int _ => obtain ⟨t, rfl⟩ := r; rfl
  | str _ => obtain ⟨t, rfl⟩ := r; rfl
  | byt _ => obtain ⟨t, rfl⟩ := r; rfl
  | flt _ => obtain ⟨t, rfl⟩ := r; rfl
  | ref _ => cases r; rfl
  | ty _ => cases r; rfl
theorem RelV.inj {x y : V} {u : Value} (r : RelV x u) (q : RelV y u) : x = y := Option.some.inj (r.abs.symm.trans q.abs)
theorem Vals.inj : ∀ {xs ys : List V} {us : List Value}, Vals xs us → Vals ys us → xs = ys
  | _, _, _, .nil, .nil => rfl
  | _, _, _, .cons r t, .cons r' t' => by rw [r.inj r', Vals.inj t t']
section
variable {X : Cx} {pins : List (Addr × Obj)} {σ : St} {H : Hp} {s : Shared} {a : Addr} {xs ys : List V}
theorem SqL.of {K : PySem.W.Frag} (h : H a = some (.lst xs)) : SqL K H a xs := .inl (.inl h)
theorem SqT.of {K : PySem.W.Frag} (h : H a = some (.tup xs)) : SqT K H a xs := .inl (.inl h)
theorem Inv.list (I : Inv X pins σ H s) (h : SqL X.K H a xs) : ∃ its : List Value, Vals xs its ∧ PlainL s.heap a its.toArray ∧ xs.length ≤ sizeLine := by
  rcases h with h | ⟨o, its, n, hk, hc, hd, hs, hz, r⟩
  · obtain ⟨z, its, n, r, e⟩ := h.ok I.hok
    exact ⟨its, r, ⟨_, n, e, rfl, rfl, rfl⟩, z⟩
  · refine ⟨its.toList, r, ⟨o, n, I.kIn a o hk, hc, hd, by simpa using hs⟩, ?_⟩
    have e := r.length
    simp only [Array.length_toList] at e
    omega
theorem Inv.tuple (I : Inv X pins σ H s) (h : SqT X.K H a xs) : ∃ its : List Value, Vals xs its ∧ IsTup s.heap a its.toArray ∧ xs.length ≤ sizeLine := by
  rcases h with h | ⟨o, its, n, hk, hc, hs, hz, r⟩
  · obtain ⟨z, its, r, p⟩ := h.ok I.hok
    exact ⟨its, r, p, z⟩
  · refine ⟨its.toList, r, ⟨o, I.kIn a o hk, hc, n, by simpa using hs⟩, ?_⟩
    have e := r.length
    simp only [Array.length_toList] at e
    omega
theorem Inv.list_inj (I : Inv X pins σ H s) (h : SqL X.K H a xs) (h' : SqL X.K H a ys) : xs = ys := by
  obtain ⟨its, r, ⟨o, n, e, _, _, d⟩, _⟩ := I.list h
  obtain ⟨its', r', ⟨o', n', e', _, _, d'⟩, _⟩ := I.list h'
  rw [e] at e'; cases e'
  rw [d] at d'
  injection d' with d1 _
  have : its = its' := by simpa using congrArg Array.toList d1
  subst this
  exact r.inj r'
theorem Inv.tuple_inj (I : Inv X pins σ H s) (h : SqT X.K H a xs) (h' : SqT X.K H a ys) : xs = ys := by
  obtain ⟨its, r, ⟨o, e, _, n, d⟩, _⟩ := I.tuple h
  obtain ⟨its', r', ⟨o', e', _, n', d'⟩, _⟩ := I.tuple h'
  rw [e] at e'; cases e'
  rw [d] at d'
  injection d' with d1 _
  have : its = its' := by simpa using congrArg Array.toList d1
  subst this
  exact r.inj r'
end
abbrev Cx.wish (X : Cx) (E : Value → Shared → Prop) : Cx := { X with xe := E }
abbrev Cx.nox (X : Cx) : Cx := X.wish fun _ _ => False
theorem Cx.Ok.wish {X : Cx} (ok : X.Ok) (E : Value → Shared → Prop) : (X.wish E).Ok :=
  ⟨ok.mod, ok.kind, ok.glob, ok.blt, ok.above, ok.inj, ok.has, ok.cab, ok.hd, ok.frames, ok.stk, ok.exf, ok.bs, ok.bsz, ok.noex, ok.exfs, ok.funs, ok.frf⟩
theorem Cx.Ok.unwish {X : Cx} {E : Value → Shared → Prop} (ok : (X.wish E).Ok) : X.Ok :=
  ⟨ok.mod, ok.kind, ok.glob, ok.blt, ok.above, ok.inj, ok.has, ok.cab, ok.hd, ok.frames, ok.stk, ok.exf, ok.bs, ok.bsz, ok.noex, ok.exfs, ok.funs, ok.frf⟩
section
variable {X : Cx} {pins : List (Addr × Obj)} {σ : St} {H : Hp} {s : Shared} {E : Value → Shared → Prop}
theorem Inv.wish (I : Inv X pins σ H s) (E : Value → Shared → Prop) : Inv (X.wish E) pins σ H s := ⟨I.ok.wish E, I.os, I.bare, I.base, I.loc, I.cell, I.free, I.freeC, I.pin, I.hok, I.len⟩
theorem Inv.unwish (I : Inv (X.wish E) pins σ H s) : Inv X pins σ H s := ⟨I.ok.unwish, I.os, I.bare, I.base, I.loc, I.cell, I.free, I.freeC, I.pin, I.hok, I.len⟩
theorem SP.unwish {D : Ends} {f : Flow} {s' : Shared} (h : SP (X.wish E) pins D f s') : SP X pins D f s' := by
  cases f with
  | next => obtain ⟨σ', H', I, q⟩ := h; exact ⟨σ', H', I.unwish, q⟩
  | brk => obtain ⟨σ', H', I, q⟩ := h; exact ⟨σ', H', I.unwish, q⟩
  | cont => obtain ⟨σ', H', I, q⟩ := h; exact ⟨σ', H', I.unwish, q⟩
  | ret u => obtain ⟨v, σ', H', I, r, q⟩ := h; exact ⟨v, σ', H', I.unwish, r, q⟩
theorem PSs.nox {st : List Stmt} {t : TS} (h : PSs X.nox st t) : PSs X st t := fun pins s σ H D I hw =>
  wpAny_mono (h pins s σ H D (I.wish _) hw) (fun _ _ q => q.unwish) fun _ _ z => False.elim z
end
section
variable {X : Cx} {st : Stmt} {rest : List Stmt} {t u : TS} {e : Expr} {te : TE} {pos : Pos}
def tNext : TS := fun D σ H => D.nx σ H
def tSeq (t u : TS) : TS := fun D σ H => t { D with nx := u D } σ H
theorem pss_nil : PSs X [] tNext := fun _ _ σ H _ I h => wpAny_execs_nil ⟨σ, H, I, h⟩
theorem pss_cons (h1 : PS X st t) (h2 : PSs X rest u) : PSs X (st :: rest) (tSeq t u) := by
  intro pins s σ H D I h
  refine wpAny_execs_cons (thn (h1 pins s σ H { D with nx := u D } I h) fun f s1 q => ?_)
  cases f with
  | next =>
    obtain ⟨σ', H', I', q⟩ := q
    exact h2 pins s1 σ' H' D I' q
  | ret v => exact q
  | brk => exact q
  | cont => exact q
theorem pss_one (h1 : PS X st t) : PSs X [st] t := by
  intro pins s σ H D I h
  refine wpAny_execs_cons (thn (h1 pins s σ H D I h) fun f s1 q => ?_)
  cases f with
  | next => exact wpAny_execs_nil q
  | ret v => exact q
  | brk => exact q
  | cont => exact q
def tBreak : TS := fun D σ H => D.bk σ H
def tCont : TS := fun D σ H => D.ct σ H
theorem ps_continue : PS X (.Continue pos) tCont := fun _ _ σ H _ I h => wpAny_Continue ⟨σ, H, I, h⟩
theorem Inv.quiet {pins : List (Addr × Obj)} {σ : St} {H : Hp} {s : Shared} (I : Inv X pins σ H s) : interactive X.env = false := by simp [interactive, I.ok.kind]
def tDrop (te : TE) : TS := fun D σ H => te σ H fun _ H1 => D.nx σ H1
theorem ps_expr (he : PE X e te) (hs : swapsWith e none pos.line X.env = pure false := by rfl) : PS X (.Expr e pos) (tDrop te) := by
  intro pins s σ H D I h
  exact wpAny_Expr_any (thn (he pins s σ H _ I h) fun v s1 ⟨x, H1, I1, r1, q1⟩ => ⟨σ, H1, I1, q1⟩) I.quiet hs
def tRet (te : TE) : TS := fun D σ H => te σ H D.rt
theorem ps_ret (he : PE X e te) : PS X (.Return (some e) pos) (tRet te) := by
  intro pins s σ H D I h
  exact wpAny_Return_some (thn (he pins s σ H _ I h) fun v s1 ⟨x, H1, I1, r1, q1⟩ => ⟨x, σ, H1, I1, r1, q1⟩)
def tRetN : TS := fun D _ H => D.rt .non H
def tIfS (c : TT) (t u : TS) : TS := fun D σ H => c σ H fun b H1 => if b = true then t D σ H1 else u D σ H1
theorem ps_if {c : Expr} {a b : List Stmt} {tc : TT} (hc : PT X c tc) (ha : PSs X a t) (hb : PSs X b u) : PS X (.If c a b pos) (tIfS tc t u) := by
  intro pins s σ H D I h
  refine wpAny_If (thn (hc pins s σ H _ I h) fun d s1 ⟨H1, I1, q1⟩ => ?_)
  cases d with
  | true => exact ha pins s1 σ H1 D I1 q1
  | false => exact hb pins s1 σ H1 D I1 q1
def tNever : TS := fun _ _ _ => False
end
abbrev TG := V → St → Hp → (St → Hp → Prop) → Prop
abbrev TGs := List V → St → Hp → (St → Hp → Prop) → Prop
def PG (X : Cx) (target : Expr) (t : TG) : Prop :=
  ∀ (pins : List (Addr × Obj)) (s : Shared) (σ : St) (H : Hp) (v : V) (u : Value) (Q : St → Hp → Prop), Inv X pins σ H s → RelV v u → t v σ H Q →
    wpAny (model X.prog X.w) X.A (assign target X.env u) (fun _ s' => ∃ σ' H', Inv X pins σ' H' s' ∧ Q σ' H') X.xe s
def PGs (X : Cx) (ts : List Expr) (t : TGs) : Prop :=
  ∀ (pins : List (Addr × Obj)) (s : Shared) (σ : St) (H : Hp) (vs : List V) (us : List Value) (Q : St → Hp → Prop), Inv X pins σ H s → Vals vs us → t vs σ H Q →
    wpAny (model X.prog X.w) X.A (assignInOrder ((assignEach ts X.env).map (·.2)) us) (fun _ s' => ∃ σ' H', Inv X pins σ' H' s' ∧ Q σ' H') X.xe s
abbrev TSet := V → V → V → Hp → (Hp → Prop) → Prop
def PSet (X : Cx) (t : TSet) : Prop :=
  ∀ (pins : List (Addr × Obj)) (s : Shared) (σ : St) (H : Hp) (o i v : V) (ov iv u : Value) (Q : Hp → Prop), Inv X pins σ H s → RelV o ov → RelV i iv → RelV v u → t o i v H Q →
    wpAny (model X.prog X.w) X.A (setItem ov iv u) (fun _ s' => ∃ H', Inv X pins σ H' s' ∧ Q H') X.xe s
abbrev TIp := V → V → Hp → VK → Prop
def PIp (X : Cx) (op : Operator) (t : TIp) : Prop :=
  ∀ (pins : List (Addr × Obj)) (s : Shared) (σ : St) (H : Hp) (x y : V) (v u : Value) (Q : VK), Inv X pins σ H s → RelV x v → RelV y u → t x y H Q →
    wpAny (model X.prog X.w) X.A (inplaceOp op v u) (EP X pins σ Q) X.xe s
section
variable {X : Cx} {pos : Pos}
def gName (i : Nat) : TG := fun v σ H Q => Q (σ.set i (some v)) H
theorem pg_name {i : Nat} {x : Str} (hN : X.N.Nodup) (hi : X.N[i]? = some x) (hx : Loc X.env.scope x) (hf : X.fn x = true ∨ X.env.scope.names.lookup x = some .local := by first | exact .inl rfl | exact .inr rfl | assumption) : PG X (.Name x pos) (gName i) := by
  intro pins s σ H v u Q I r h
  exact wpAny_assign_Name (store_ok I hN hi hx r (fun s' I' => ⟨_, H, I', h⟩) hf)
def gNil : TGs := fun vs σ H Q => vs = [] ∧ Q σ H
def gCons (t : TG) (u : TGs) : TGs := fun vs σ H Q => ∃ v r, vs = v :: r ∧ t v σ H fun σ' H' => u r σ' H' Q
theorem pgs_nil : PGs X [] gNil := by
  intro pins s σ H vs us Q I r h
  obtain ⟨e, h⟩ := h
  subst e
  cases r
  exact assignInOrder_nil ⟨σ, H, I, h⟩
theorem pgs_cons {e : Expr} {es : List Expr} {t : TG} {u : TGs} (h1 : PG X e t) (h2 : PGs X es u)
    (hs : (assignEach (e :: es) X.env).map (·.2) = assign e X.env :: (assignEach es X.env).map (·.2) := by rfl) : PGs X (e :: es) (gCons t u) := by
  intro pins s σ H vs us Q I r h
  obtain ⟨v, vr, e1, h⟩ := h
  subst e1
  cases r with
  | cons r rr =>
    rw [hs]
    refine assignInOrder_cons (thn (h1 pins s σ H _ _ _ I r h) fun _ s1 ⟨σ1, H1, I1, q1⟩ => ?_)
    exact h2 pins s1 σ1 H1 _ _ Q I1 rr q1
def gTup (K : PySem.W.Frag) (n : Nat) (t : TGs) : TG := fun v σ H Q => ∃ a xs, v = .ref a ∧ SqT K H a xs ∧ xs.length = n ∧ t xs σ H Q
theorem pg_tup {es : List Expr} {k : Nat} {t : TGs} {n : Nat} (hc : X.calm = true) (h : PGs X es t)
    (hn : (assignEach es X.env).length = n := by rfl) (hst : (assignEach es X.env).findIdx? (·.1) = none := by rfl) : PG X (.Tuple es k pos) (gTup X.K n t) := by
  intro pins s σ H v u Q I r hw
  obtain ⟨a, xs, e1, hq, hl, hw⟩ := hw
  subst e1
  cases r
  obtain ⟨its, rv, ht, hz⟩ := I.tuple hq
  refine assign_Tuple_tuple (I.ok.hd hc) ht (by simp [hn, ← hl, rv.length]) hst fun h' hx => ?_
  have I1 : Inv X pins σ H { s with heap := h' } := I.kept (t' := s.toks) fun b o e => hx b o (Nat.ne_of_lt (Heap.lt_size e)) e
  exact h pins _ σ H xs _ Q I1 (by simpa using rv) hw
def gSub (to ti : TE) (t : TSet) : TG := fun v σ H Q => to σ H fun o H1 => ti σ H1 fun i H2 => t o i v H2 fun H3 => Q σ H3
theorem pg_sub {o i : Expr} {to ti : TE} {t : TSet} (ho : PE X o to) (hi : PE X i ti) (hs : PSet X t)
    (ha : ∀ v, assign (.Subscript o i pos) X.env v = (do
      let ov ← holding [v] (eval o X.env)
      let iv ← holding [v, ov] (eval i X.env)
      standAt pos
      holding [v, ov, iv] (setItem ov iv v)
      release [v, ov, iv] []) := by intro _; rfl) : PG X (.Subscript o i pos) (gSub to ti t) := by
  intro pins s σ H v u Q I r h
  rw [ha]
  refine wpAny_bind (wpAny_holding (thn (ho pins s σ H _ I h) fun ov s1 ⟨x, H1, I1, r1, q1⟩ => ?_))
  refine wpAny_bind (wpAny_holding (thn (hi pins s1 σ H1 _ I1 q1) fun iv s2 ⟨y, H2, I2, r2, q2⟩ => ?_))
  refine wpAny_bind (wpAny_standAt (wpAny_bind (wpAny_holding (thn (hs pins s2 σ H2 x y v ov iv u _ I2 r1 r2 r q2) fun _ s3 ⟨H3, I3, q3⟩ => ?_))))
  exact wpAny_release ⟨σ, H3, I3, q3⟩
def tAsg (te : TE) (g : TG) : TS := fun D σ H => te σ H fun x H1 => g x σ H1 D.nx
theorem ps_asg {tg e : Expr} {te : TE} {g : TG} (he : PE X e te) (hg : PG X tg g) (hs : swapsWithSole [tg] e pos.line X.env = pure false := by rfl) (hw : swappedStores [tg] e X.env = pure none := by rfl)
    (h1 : (assignEach [tg] X.env).map (·.2) = [assign tg X.env] := by rfl) : PS X (.Assign [tg] e pos) (tAsg te g) := by
  intro pins s σ H D I h
  refine wpAny_Assign_stores (thn (he pins s σ H _ I h) fun v s1 ⟨x, H1, I1, r1, q1⟩ => ?_) hs hw
  rw [h1]
  exact thn (hg pins s1 σ H1 x v _ I1 r1 q1) fun _ s2 q => q
theorem ps_set {i : Nat} {x : Str} {e : Expr} {te : TE} {pos' : Pos} (hN : X.N.Nodup) (hi : X.N[i]? = some x) (hx : Loc X.env.scope x) (he : PE X e te) (hs : swapsWith e (some (.Name x pos')) pos.line X.env = pure false := by rfl) (hf : X.fn x = true ∨ X.env.scope.names.lookup x = some .local := by first | exact .inl rfl | exact .inr rfl | assumption) :
    PS X (.Assign [.Name x pos'] e pos) (tAsg te (gName i)) := by
  intro pins s σ H D I h
  refine wpAny_Assign_Name (thn (he pins s σ H _ I h) fun v s1 ⟨y, H1, I1, r1, q1⟩ => ?_) hs
  exact store_ok I1 hN hi hx r1 (fun s2 I2 => ⟨_, H1, I2, q1⟩) hf
def tPar (i j : Nat) (ta : TA) : TS := fun D σ H => ta σ H fun vs H1 => ∃ v w, vs = [v, w] ∧ D.nx ((σ.set i (some v)).set j (some w)) H1
def tAug (i : Nat) (te : TE) (ti : TIp) : TS := fun D σ H => ∃ x, σ[i]? = some (some x) ∧ te σ H fun y H1 => ti x y H1 fun z H2 => D.nx (σ.set i (some z)) H2
def tAugS (to ti te : TE) (tget : V → V → Hp → VK → Prop) (tip : TIp) (tset : TSet) : TS := fun D σ H => to σ H fun o H1 => ti σ H1 fun i H2 => tget o i H2 fun x H3 => te σ H3 fun y H4 => tip x y H4 fun z H5 => tset o i z H5 fun H6 => D.nx σ H6
def PGet (X : Cx) (t : V → V → Hp → VK → Prop) : Prop :=
  ∀ (pins : List (Addr × Obj)) (s : Shared) (σ : St) (H : Hp) (o i : V) (ov iv : Value) (Q : VK), Inv X pins σ H s → RelV o ov → RelV i iv → t o i H Q →
    wpAny (model X.prog X.w) X.A (getItem ov iv) (EP X pins σ Q) X.xe s
def ipI (f : Int → Int → Int) : TIp := fun x y H Q => ∃ i j, x = .int i ∧ y = .int j ∧ Q (.int (f i j)) H
end
section
variable {X : Cx} {pos : Pos}
def tWhile (c : TT) (tb : TS) : TS := fun D σ H => ∃ W : Nat → St → Hp → Prop, (∃ m, W m σ H) ∧ ∀ m σ H, W m σ H →
  c σ H fun b H1 => if b = true then ∃ N : St → Hp → Prop, (∀ σ' H', N σ' H' → ∃ m', m' < m ∧ W m' σ' H') ∧ tb { D with nx := N, ct := N, bk := D.nx } σ H1 else D.nx σ H1
theorem ps_while {c : Expr} {body : List Stmt} {tc : TT} {tb : TS} (hp : PassesOwn (model X.prog X.w) X.A X.env X.xe) (hc : PT X c tc) (hb : PSs X body tb) : PS X (.While c body [] pos) (tWhile tc tb) := by
  intro pins s σ H D I h
  obtain ⟨W, ⟨m0, w0⟩, turn⟩ := h
  refine wpAny_While (codeAny_whileLoop (fun n s' => ∃ σ' H', Inv X pins σ' H' s' ∧ W n σ' H') ?_ m0 ⟨σ, H, I, w0⟩)
  rintro n s1 ⟨σ1, H1, I1, w1⟩
  refine wpAny_passesOwn hp (thn (hc pins s1 σ1 H1 _ I1 (turn n σ1 H1 w1)) fun b s2 ⟨H2, I2, q2⟩ => ?_)
  cases b with
  | true =>
    obtain ⟨N, hN, q2⟩ := q2
    rw [if_pos rfl]
    refine wpAny_passesOwn hp (thn (hb pins s2 σ1 H2 _ I2 q2) fun f s3 q3 => ?_)
    cases f with
    | next =>
      obtain ⟨σ3, H3, I3, n3⟩ := q3
      obtain ⟨m', hm, w3⟩ := hN σ3 H3 n3
      exact ⟨m', hm, σ3, H3, I3, w3⟩
    | cont =>
      obtain ⟨σ3, H3, I3, n3⟩ := q3
      obtain ⟨m', hm, w3⟩ := hN σ3 H3 n3
      exact ⟨m', hm, σ3, H3, I3, w3⟩
    | brk => exact q3
    | ret v => exact q3
  | false =>
    rw [if_neg Bool.false_ne_true]
    exact wpAny_execs_nil ⟨σ1, H2, I2, q2⟩
end
structure It where
  go : Nat → Hp → Prop
  yld : Nat → Hp → V → Hp → Prop
  stop : Nat → Hp → Prop
def FpOk (X : Cx) (pins : List (Addr × Obj)) (H : Hp) (b : Addr) : Prop :=
  H b = none ∧ b ≠ X.env.locals ∧ b ∉ X.fs ∧ (b ∈ X.ex ∨ X.s₀.heap.objs.size ≤ b) ∧ (∀ x c, X.env.cells.lookup x = some c → c ≠ b) ∧ ∀ p ∈ X.pn ++ pins, p.1 ≠ b
theorem Inv.fpOk {X : Cx} {pins : List (Addr × Obj)} {σ : St} {H H' : Hp} {s : Shared} {b : Addr} (I : Inv X pins σ H s) (hb : s.heap.objs.size ≤ b) (hn : H' b = none) : FpOk X pins H' b := by
  refine ⟨hn, Nat.ne_of_gt (Nat.lt_of_lt_of_le I.lt hb), I.nofs hb, .inr (Nat.le_trans I.sz hb), fun x c e z => ?_, fun p hp z => ?_⟩
  · obtain ⟨v, q⟩ := I.cell x c e
    exact absurd (Nat.lt_of_lt_of_le q.lt (by rw [z]; exact hb)) (Nat.lt_irrefl _)
  · exact absurd (Nat.lt_of_lt_of_le (Heap.lt_size (I.pin p hp).1) (by rw [z]; exact hb)) (Nat.lt_irrefl _)
structure Turn (P : Program) (w : World) (K : PySem.W.Frag) (tg : Expr) (J : It) (fp : List Addr) (it : Addr) (tn : Nat → Heap → Prop) : Prop where
  mem : it ∈ fp
  obj : ∀ i h, tn i h → ∀ b ∈ fp, ∃ o, h.get? b = some o ∧ ∀ v, o.data ≠ .cell v
  keep : ∀ i h h', tn i h → (∀ b ∈ fp, ∀ o, h.get? b = some o → h'.get? b = some o) → tn i h'
  item : ∀ (X : Cx), X.prog = P → X.w = w → X.K = K → X.calm = true → ∀ (i : Nat) (pins : List (Addr × Obj)) (s : Shared) (σ : St) (H : Hp) (E : Value → Shared → Prop), Inv X pins σ H s → (∀ b ∈ fp, FpOk X pins H b) → tn i s.heap → J.go i H →
    wpAny (model P w) X.A (pyNext (.ref it)) (fun r s1 => ∃ u, r = some u ∧
      wpAny (model P w) X.A (letOwnedTupleGo tg (.ref it) u) (fun _ s2 => ∃ x H', Inv X pins σ H' s2 ∧ RelV x u ∧ J.yld i H x H' ∧ tn (i + 1) s2.heap ∧ ∀ b ∈ fp, H' b = none) E s1) E s
  done : ∀ (X : Cx), X.prog = P → X.w = w → X.K = K → X.calm = true → ∀ (i : Nat) (pins : List (Addr × Obj)) (s : Shared) (σ : St) (H : Hp) (E : Value → Shared → Prop), Inv X pins σ H s → (∀ b ∈ fp, FpOk X pins H b) → tn i s.heap → J.stop i H →
    wpAny (model P w) X.A (pyNext (.ref it)) (fun r s1 => r = none ∧ Inv X pins σ H s1) E s
  self : ∀ (A : Around) (i : Nat) (s : Shared) (Q : Value → Shared → Prop) (E : Value → Shared → Prop), tn i s.heap → Q (.ref it) s → wpAny (model P w) A (pyIter (.ref it)) Q E s
abbrev TI := St → Hp → (It → Hp → Prop) → Prop
def PIE (X : Cx) (pins : List (Addr × Obj)) (σ : St) (tg : Expr) (R : It → Hp → Prop) (itv : Value) (s2 : Shared) : Prop :=
  ∃ (it : Addr) (fp : List Addr) (tn : Nat → Heap → Prop) (J : It) (H' : Hp), itv = .ref it ∧ Inv X pins σ H' s2 ∧ Turn X.prog X.w X.K tg J fp it tn ∧ tn 0 s2.heap ∧ (∀ b ∈ fp, FpOk X pins H' b) ∧ R J H'
def PI (X : Cx) (tg iter : Expr) (wi : TI) : Prop :=
  ∀ (pins : List (Addr × Obj)) (s : Shared) (σ : St) (H : Hp) (R : It → Hp → Prop), Inv X pins σ H s → wi σ H R →
    wpAny (model X.prog X.w) X.A (eval iter X.env) (fun v s1 => wpAny (model X.prog X.w) X.A (pyIter v) (PIE X pins σ tg R) X.xe s1) X.xe s
theorem go_of {M : Model} {A : Around} {E : Value → Shared → Prop} {s : Shared} {tg : Expr} {it : Addr} {u : Value} {o : Obj} {n : String} {vs : Array Value} {Q : Unit → Shared → Prop} (ho : s.heap.get? it = some o) (hc : o.cls = .type n) (hd : o.data = .fields vs)
    (hn : ["enumerate", "zip", "dict_itemiterator", "dict_reverseitemiterator", "odict_iterator", "itertools.zip_longest", "itertools.pairwise"].contains n = false) (hQ : Q () s) : wpAny M A (letOwnedTupleGo tg (.ref it) u) Q E s := by
  unfold letOwnedTupleGo
  cases tg <;> first
    | exact wpAny_pure hQ
    | (cases u <;> first
        | exact wpAny_pure hQ
        | (refine wpAny_bind (wpAny_load ho ?_)
           rw [hc, hd]
           show wpAny M A (if (["enumerate", "zip", "dict_itemiterator", "dict_reverseitemiterator", "odict_iterator", "itertools.zip_longest", "itertools.pairwise"].contains n && vs[0]? == some (rawInt _)) = true then _ else _) Q E s
           rw [if_neg (by intro h; rw [hn, Bool.false_and] at h; cases h)]
           exact wpAny_pure hQ))
def Itl (K : PySem.W.Frag) (a : Addr) : It :=
  ⟨fun i H => ∃ xs x, SqL K H a xs ∧ xs[i]? = some x, fun i H x H' => H' = H ∧ ∀ xs, SqL K H a xs → xs[i]? = some x, fun i H => ∃ xs, SqL K H a xs ∧ xs.length ≤ i⟩
def Itt (K : PySem.W.Frag) (a : Addr) : It :=
  ⟨fun i H => ∃ xs x, SqT K H a xs ∧ xs[i]? = some x, fun i H x H' => H' = H ∧ ∀ xs, SqT K H a xs → xs[i]? = some x, fun i H => ∃ xs, SqT K H a xs ∧ xs.length ≤ i⟩
def Itr (lo : Int) (n : Nat) : It := ⟨fun i _ => i < n, fun i H x H' => H' = H ∧ x = .int (lo + i), fun i _ => n ≤ i⟩
theorem turn_list {P : Program} {w : World} {K : PySem.W.Frag} {tg : Expr} (a it : Addr) : Turn P w K tg (Itl K a) [it] it (fun i h => h.IsListIter it a i) where
  mem := by simp
  obj := fun i h st b hb => by
    have e : b = it := by simpa using hb
    subst e
    obtain ⟨o, e, c, d⟩ := st
    exact ⟨o, e, fun v z => by rw [d] at z; cases z⟩
  keep := fun i h h' st k => st.at fun o e => k it (by simp) o e
  item := by
    intro X hP hw hK hc i pins s σ H E I hf st hg
    subst hP hw hK
    obtain ⟨xs, x, hq, hx⟩ := hg
    obtain ⟨its, rv, p, hz⟩ := I.list hq
    obtain ⟨u, hu, ru⟩ := rv.get hx
    obtain ⟨f0, f1, f2, f3, f4, f5⟩ := hf it (by simp)
    refine wpAny_pyNext_list_item st p.isList (x := u) (by simpa using hu) fun h' st' sb => ?_
    have I1 : Inv X pins σ H { s with heap := h' } := I.turned (t' := s.toks) (fun b o hb e => (sb.2 b hb).trans e) f0 f1 f3 f4 f5
    obtain ⟨o, e, c, d⟩ := id st'
    exact ⟨u, rfl, go_of (s := { s with heap := h' }) e c d (by decide) ⟨x, H, I1, ru, ⟨rfl, fun ys hy => by rw [I.list_inj hy hq]; exact hx⟩, st', fun b hb => (hf b hb).1⟩⟩
  done := by
    intro X hP hw hK hc i pins s σ H E I hf st hg
    subst hP hw hK
    obtain ⟨xs, hq, hx⟩ := hg
    obtain ⟨its, rv, p, hz⟩ := I.list hq
    obtain ⟨f0, f1, f2, f3, f4, f5⟩ := hf it (by simp)
    have hl := rv.length
    exact wpAny_pyNext_list_end (I.ok.hd hc) st p.isList (by simp; omega) fun h' eb => ⟨rfl, I.turned (t' := s.toks) (fun b o hb e => eb b o hb e) f0 f1 f3 f4 f5⟩
  self := fun _ _ _ _ _ st h => wpAny_pyIter_listiter st h
theorem turn_tuple {P : Program} {w : World} {K : PySem.W.Frag} {tg : Expr} (a it : Addr) : Turn P w K tg (Itt K a) [it] it (fun i h => h.IsTupleIter it a i) where
  mem := by simp
  obj := fun i h st b hb => by
    have e : b = it := by simpa using hb
    subst e
    obtain ⟨o, e, c, d⟩ := st
    exact ⟨o, e, fun v z => by rw [d] at z; cases z⟩
  keep := fun i h h' st k => st.at fun o e => k it (by simp) o e
  item := by
    intro X hP hw hK hc i pins s σ H E I hf st hg
    subst hP hw hK
    obtain ⟨xs, x, hq, hx⟩ := hg
    obtain ⟨its, rv, p, hz⟩ := I.tuple hq
    obtain ⟨u, hu, ru⟩ := rv.get hx
    obtain ⟨f0, f1, f2, f3, f4, f5⟩ := hf it (by simp)
    refine wpAny_pyNext_tuple_item st (show s.heap.IsTuple a its.toArray from p) (x := u) (by simpa using hu) fun h' st' sb => ?_
    have I1 : Inv X pins σ H { s with heap := h' } := I.turned (t' := s.toks) (fun b o hb e => (sb.2 b hb).trans e) f0 f1 f3 f4 f5
    obtain ⟨o, e, c, d⟩ := id st'
    exact ⟨u, rfl, go_of (s := { s with heap := h' }) e c d (by decide) ⟨x, H, I1, ru, ⟨rfl, fun ys hy => by rw [I.tuple_inj hy hq]; exact hx⟩, st', fun b hb => (hf b hb).1⟩⟩
  done := by
    intro X hP hw hK hc i pins s σ H E I hf st hg
    subst hP hw hK
    obtain ⟨xs, hq, hx⟩ := hg
    obtain ⟨its, rv, p, hz⟩ := I.tuple hq
    obtain ⟨f0, f1, f2, f3, f4, f5⟩ := hf it (by simp)
    have hl := rv.length
    exact wpAny_pyNext_tuple_end (I.ok.hd hc) st (show s.heap.IsTuple a its.toArray from p) (by simp; omega) fun h' eb => ⟨rfl, I.turned (t' := s.toks) (fun b o hb e => eb b o hb e) f0 f1 f3 f4 f5⟩
  self := fun _ _ _ _ _ st h => wpAny_pyIter_tupleiter st h
theorem turn_range {P : Program} {w : World} {K : PySem.W.Frag} {tg : Expr} (it : Addr) (lo : Int) (n : Nat) : Turn P w K tg (Itr lo n) [it] it (fun i h => IsRangeIter h it (lo + (i : Nat) * 1) ((n : Int) - (i : Nat)) 1) where
  mem := by simp
  obj := fun i h st b hb => by
    have e : b = it := by simpa using hb
    subst e
    exact ⟨_, st, fun v z => by
      have z' : Data.fields _ = Data.cell v := z
      cases z'⟩
  keep := fun i h h' st k => k it (by simp) _ st
  item := by
    intro X hP hw hK hc i pins s σ H E I hf st hg
    subst hP hw hK
    obtain ⟨f0, f1, f2, f3, f4, f5⟩ := hf it (by simp)
    have W := Walks.range (prog := X.prog) (w := X.w) (I.ok.hd hc) it lo 1 n
    refine W.item i s _ _ hg st fun v h' tk hv st' kk => ?_
    obtain ⟨t, rfl⟩ := hv
    have I1 : Inv X pins σ H { s with heap := h', toks := tk } := I.turned (fun b o hb e => kk b o (by simpa using hb) e) f0 f1 f3 f4 f5
    refine ⟨_, rfl, go_of (s := { s with heap := h', toks := tk }) (n := "range_iterator") st' rfl rfl (by decide) ⟨.int (lo + i), H, I1, ⟨t, ?_⟩, ⟨rfl, rfl⟩, st', fun b hb => (hf b hb).1⟩⟩
    rw [Int.mul_one]
  done := by
    intro X hP hw hK hc i pins s σ H E I hf st hg
    subst hP hw hK
    obtain ⟨f0, f1, f2, f3, f4, f5⟩ := hf it (by simp)
    exact wpAny_pyNext_range_end (I.ok.hd hc) st (by have : n ≤ i := hg; omega) fun h' eb => ⟨rfl, I.turned (t' := s.toks) (fun b o hb e => eb b o hb e) f0 f1 f3 f4 f5⟩
  self := fun _ _ _ _ _ st h => wpAny_pyIter_rangeiter st h
end L2
namespace L2
open PySem PySem.Spec PyProof.Rows
section
variable {X : Cx} {tg : Expr}
def iList (K : PySem.W.Frag) (tl : TE) : TI := fun σ H R => tl σ H fun x H1 => ∃ a, x = .ref a ∧ (∃ xs, SqL K H1 a xs) ∧ R (Itl K a) H1
def iTup (K : PySem.W.Frag) (tl : TE) : TI := fun σ H R => tl σ H fun x H1 => ∃ a, x = .ref a ∧ (∃ xs, SqT K H1 a xs) ∧ R (Itt K a) H1
theorem pi_list {l : Expr} {tl : TE} (hl : PE X l tl) : PI X tg l (iList X.K tl) := by
  intro pins s σ H R I h
  refine thn (hl pins s σ H _ I h) fun v s1 ⟨x, H1, I1, r1, q1⟩ => ?_
  obtain ⟨a, e, ⟨xs, hq⟩, q⟩ := q1
  subst e
  cases r1
  obtain ⟨its, rv, p, hz⟩ := I1.list hq
  refine wpAny_pyIter_list p.isList ?_
  refine ⟨s1.heap.objs.size, [s1.heap.objs.size], _, _, H1, rfl, I1.kept (t' := s1.toks) fun b o e => Heap.get?_push_of_some _ e, turn_list a _, ⟨_, Heap.get?_push_size _ rfl, rfl, rfl⟩, fun b hb => ?_, q⟩
  have e : b = s1.heap.objs.size := by simpa using hb
  subst e
  exact I1.fpOk (Nat.le_refl _) (I1.hok.fresh (Nat.le_refl _))
theorem pi_tup {l : Expr} {tl : TE} (hl : PE X l tl) : PI X tg l (iTup X.K tl) := by
  intro pins s σ H R I h
  refine thn (hl pins s σ H _ I h) fun v s1 ⟨x, H1, I1, r1, q1⟩ => ?_
  obtain ⟨a, e, ⟨xs, hq⟩, q⟩ := q1
  subst e
  cases r1
  obtain ⟨its, rv, p, hz⟩ := I1.tuple hq
  refine wpAny_pyIter_tuple (show s1.heap.IsTuple a its.toArray from p) ?_
  refine ⟨s1.heap.objs.size, [s1.heap.objs.size], _, _, H1, rfl, I1.kept (t' := s1.toks) fun b o e => Heap.get?_push_of_some _ e, turn_tuple a _, ⟨_, Heap.get?_push_size _ rfl, rfl, rfl⟩, fun b hb => ?_, q⟩
  have e : b = s1.heap.objs.size := by simpa using hb
  subst e
  exact I1.fpOk (Nat.le_refl _) (I1.hok.fresh (Nat.le_refl _))
theorem range_it {pins : List (Addr × Obj)} {σ : St} {H : Hp} {s : Shared} {R : It → Hp → Prop} {E : Value → Shared → Prop} {lo hi : Int} {t u v : Tok} {tk : Nat} (I : Inv X pins σ H s) (h1 : -(2 ^ 62) ≤ lo) (h2 : lo < 2 ^ 62) (h3 : -(2 ^ 62) ≤ hi) (h4 : hi < 2 ^ 62)
    (q : R (Itr lo (hi - lo).toNat) H) : wpAny (model X.prog X.w) X.A (pyIter (.ref s.heap.objs.size)) (PIE X pins σ tg R) E { s with heap := s.heap.push { cls := .type "range", data := .fields #[.int lo t, .int hi u, .int 1 v] }, toks := tk } := by
  refine wpAny_pyIter_range (IsRange.new ..) (small_one h1 h2 h3 h4) ?_
  have I1 : Inv X pins σ H { s with heap := s.heap.push { cls := .type "range", data := .fields #[.int lo t, .int hi u, .int 1 v] }, toks := tk } := I.kept fun b o e => Heap.get?_push_of_some _ e
  refine ⟨(s.heap.push { cls := .type "range", data := .fields #[.int lo t, .int hi u, .int 1 v] }).objs.size, [(s.heap.push { cls := .type "range", data := .fields #[.int lo t, .int hi u, .int 1 v] }).objs.size], _, _, H, rfl,
    I1.kept (t' := tk) fun b o e => Heap.get?_push_of_some _ e, turn_range _ lo (hi - lo).toNat, ?_, fun b hb => ?_, q⟩
  · have e1 : lo + ((0 : Nat) : Int) * 1 = lo := by simp
    have e2 : (((hi - lo).toNat : Nat) : Int) - ((0 : Nat) : Int) = Builtin.Range.rangeSize lo hi 1 := by rw [rangeSize_one]; split <;> omega
    show IsRangeIter _ _ (lo + ((0 : Nat) : Int) * 1) ((((hi - lo).toNat : Nat) : Int) - ((0 : Nat) : Int)) 1
    rw [e1, e2]
    exact Heap.get?_push_size _ rfl
  · have e : b = (s.heap.push { cls := .type "range", data := .fields #[.int lo t, .int hi u, .int 1 v] }).objs.size := by simpa using hb
    subst e
    exact I1.fpOk (Nat.le_refl _) (I1.hok.fresh (Nat.le_refl _))
def iRng1 (ta : TA) : TI := fun σ H R => ta σ H fun vs H1 => ∃ j : Int, vs = [.int j] ∧ -(2 ^ 62) ≤ j ∧ j < 2 ^ 62 ∧ R (Itr 0 j.toNat) H1
def iRng2 (ta : TA) : TI := fun σ H R => ta σ H fun vs H1 => ∃ i j : Int, vs = [.int i, .int j] ∧ (-(2 ^ 62) ≤ i ∧ i < 2 ^ 62 ∧ -(2 ^ 62) ≤ j ∧ j < 2 ^ 62) ∧ R (Itr i (j - i).toNat) H1
theorem pi_range1 {a : Expr} {ta : TA} {p pos : Pos} (hg : Gl X "range") (hm : X.mg "range" = none) (ha : PA X [a] ta) (hs : starEach [a] X.env = [(false, eval a X.env)] := by rfl) : PI X tg (.Call (.Name "range" p) [a] [] pos) (iRng1 ta) := by
  intro pins s σ H R I h
  refine Call_ (ld_blt I hg hm boot_range (PyProof.Rows.callWith_type1 (thn (ha pos pins s σ H _ I h) fun us s1 ⟨vs, H1, I1, r1, q1⟩ => ?_) hs rfl))
  obtain ⟨j, e, q1, q2, q⟩ := q1
  subst e
  cases r1 with
  | cons r rr =>
    cases rr
    obtain ⟨t, rfl⟩ := r
    exact call_range_1 (range_it I1 (by omega) (by omega) q1 q2 (by simpa using q))
def tFor (wi : TI) (g : TG) (tb : TS) : TS := fun D σ H => wi σ H fun J H1 => ∃ W : Nat → Nat → St → Hp → Prop, (∃ m, W 0 m σ H1) ∧ ∀ i m σ H, W i m σ H →
  (J.stop i H ∧ D.nx σ H) ∨ (J.go i H ∧ ∃ N : St → Hp → Prop, (∀ σ' H', N σ' H' → ∃ m', m' < m ∧ W (i + 1) m' σ' H') ∧ ∀ x H', J.yld i H x H' → g x σ H' fun σ2 H2 => tb { D with nx := N, ct := N, bk := D.nx } σ2 H2)
def pinsAt (fp : List Addr) (h : Heap) : List (Addr × Obj) := fp.filterMap fun b => (h.get? b).map fun o => (b, o)
theorem mem_pinsAt {fp : List Addr} {h : Heap} {b : Addr} {o : Obj} (hb : b ∈ fp) (e : h.get? b = some o) : (b, o) ∈ pinsAt fp h := List.mem_filterMap.mpr ⟨b, hb, by rw [e]; rfl⟩
theorem of_pinsAt {fp : List Addr} {h : Heap} {p : Addr × Obj} (hp : p ∈ pinsAt fp h) : p.1 ∈ fp ∧ h.get? p.1 = some p.2 := by
  obtain ⟨b, hb, e⟩ := List.mem_filterMap.mp hp
  cases q : h.get? b with
  | none => rw [q] at e; cases e
  | some o =>
    rw [q] at e
    have e' : (b, o) = p := Option.some.inj e
    subst e'
    exact ⟨hb, q⟩
theorem Inv.pinned {pins : List (Addr × Obj)} {σ : St} {H : Hp} {s : Shared} {fp : List Addr} (I : Inv X pins σ H s) (hf : ∀ b ∈ fp, FpOk X pins H b) (ho : ∀ b ∈ fp, ∃ o, s.heap.get? b = some o ∧ ∀ v, o.data ≠ .cell v) : Inv X (pins ++ pinsAt fp s.heap) σ H s :=
  I.pins_of fun p hp => (List.mem_append.mp hp).elim (fun z => I.pin p (List.mem_append_right _ z)) fun z => by
    obtain ⟨hb, e⟩ := of_pinsAt z
    obtain ⟨f0, f1, f2, _⟩ := hf p.1 hb
    obtain ⟨o, e', d⟩ := ho p.1 hb
    rw [e] at e'; cases e'
    exact ⟨e, f0, f1, f2, d⟩
theorem Inv.unpinned {pins pl : List (Addr × Obj)} {σ : St} {H : Hp} {s : Shared} (I : Inv X (pins ++ pl) σ H s) : Inv X pins σ H s := I.pins_of fun p hp => I.pin p (List.mem_append_right _ (List.mem_append_left _ hp))
theorem ps_for {iter : Expr} {body : List Stmt} {wi : TI} {g : TG} {tb : TS} {pos : Pos} (hp : PassesOwn (model X.prog X.w) X.A X.env X.xe) (hc : X.calm = true) (hi : PI X tg iter wi) (hg : PG X tg g) (hb : PSs X body tb)
    (hs : ∀ x, foldedSetIterable iter X.env x = pure x := by intro _; rfl) : PS X (.For tg iter body [] pos) (tFor wi g tb) := by
  intro pins s σ H D I h
  refine wpAny_For (thn (hi pins s σ H _ I h) fun v s1 h1 => thn h1 fun itv s2 h2 => ?_) hs
  obtain ⟨it, fp, tn, J, H2, e, I2, T, st2, f2, W, ⟨m0, w0⟩, turn⟩ := h2
  subst e
  have stat : ∀ {H' : Hp}, (∀ b ∈ fp, H' b = none) → ∀ b ∈ fp, FpOk X pins H' b := fun hn b hb => ⟨hn b hb, (f2 b hb).2⟩
  refine codeAny_forLoop_any (fun n s' => ∃ i σ' H', Inv X pins σ' H' s' ∧ tn i s'.heap ∧ (∀ b ∈ fp, H' b = none) ∧ W i n σ' H') ?_ m0 ⟨0, σ, H2, I2, st2, fun b hb => (f2 b hb).1, w0⟩
  rintro n s3 ⟨i, σ3, H3, I3, st3, fr3, w3⟩
  rcases turn i n σ3 H3 w3 with ⟨stop, qn⟩ | ⟨go, N, hN, step⟩
  · refine wpAny_passesOwn hp (thn (T.done X rfl rfl rfl hc i pins s3 σ3 H3 X.xe I3 (stat fr3) st3 stop) fun r s4 ⟨hr, I4⟩ => ?_)
    subst hr
    exact wpAny_execs_nil ⟨σ3, H3, I4, qn⟩
  · refine wpAny_passesOwn hp (thn (T.item X rfl rfl rfl hc i pins s3 σ3 H3 X.xe I3 (stat fr3) st3 go) fun r s4 ⟨u, hr, h4⟩ => ?_)
    subst hr
    refine wpAny_passesOwn hp (thn h4 fun _ s5 ⟨x, H5, I5, r5, y5, st5, fr5⟩ => ?_)
    have I5' := I5.pinned (stat fr5) (T.obj _ _ st5)
    refine wpAny_passesOwn hp (thn (hg _ s5 σ3 H5 x u _ I5' r5 (step x H5 y5)) fun _ s6 ⟨σ6, H6, I6, q6⟩ => ?_)
    refine wpAny_passesOwn hp (thn (hb _ s6 σ6 H6 _ I6 q6) fun f s7 q7 => ?_)
    have again : ∀ {σ7 : St} {H7 : Hp}, Inv X (pins ++ pinsAt fp s5.heap) σ7 H7 s7 → N σ7 H7 → ∃ m, m < n ∧ ∃ i σ' H', Inv X pins σ' H' s7 ∧ tn i s7.heap ∧ (∀ b ∈ fp, H' b = none) ∧ W i m σ' H' := fun {σ7 H7} I7 n7 => by
      obtain ⟨m', hm, w7⟩ := hN σ7 H7 n7
      refine ⟨m', hm, i + 1, σ7, H7, I7.unpinned, T.keep _ _ _ st5 fun b hb o e => (I7.pin (b, o) (List.mem_append_right _ (List.mem_append_right _ (mem_pinsAt hb e)))).1, fun b hb => ?_, w7⟩
      obtain ⟨o, e, d⟩ := T.obj _ _ st5 b hb
      exact (I7.pin (b, o) (List.mem_append_right _ (List.mem_append_right _ (mem_pinsAt hb e)))).2.1
    cases f with
    | next => obtain ⟨σ7, H7, I7, n7⟩ := q7; exact again I7 n7
    | cont => obtain ⟨σ7, H7, I7, n7⟩ := q7; exact again I7 n7
    | brk => obtain ⟨σ7, H7, I7, q7⟩ := q7; exact ⟨σ7, H7, I7.unpinned, q7⟩
    | ret v => obtain ⟨x7, σ7, H7, I7, r7, q7⟩ := q7; exact ⟨x7, σ7, H7, I7.unpinned, r7, q7⟩
end
theorem for_list {K : PySem.W.Frag} {a : Addr} {xs : List V} {g : TG} {tb : TS} {D : Ends} {σ : St} {H : Hp} (Pv : Nat → St → Hp → Prop) (h0 : Pv 0 σ H) (hl : ∀ i σ H, i ≤ xs.length → Pv i σ H → SqL K H a xs)
    (hs : ∀ i x σ H, xs[i]? = some x → Pv i σ H → g x σ H fun σ2 H2 => tb { D with nx := Pv (i + 1), ct := Pv (i + 1), bk := D.nx } σ2 H2) (hd : ∀ σ H, Pv xs.length σ H → D.nx σ H) :
    ∃ W : Nat → Nat → St → Hp → Prop, (∃ m, W 0 m σ H) ∧ ∀ i m σ H, W i m σ H →
      ((Itl K a).stop i H ∧ D.nx σ H) ∨ ((Itl K a).go i H ∧ ∃ N : St → Hp → Prop, (∀ σ' H', N σ' H' → ∃ m', m' < m ∧ W (i + 1) m' σ' H') ∧ ∀ x H', (Itl K a).yld i H x H' → g x σ H' fun σ2 H2 => tb { D with nx := N, ct := N, bk := D.nx } σ2 H2) := by
  refine ⟨fun i m σ H => m = xs.length - i ∧ i ≤ xs.length ∧ Pv i σ H, ⟨xs.length, by simp, Nat.zero_le _, h0⟩, ?_⟩
  rintro i m σ H ⟨rfl, hi, p⟩
  have q := hl i σ H hi p
  by_cases hlt : i < xs.length
  · refine .inr ⟨⟨xs, xs[i], q, by simp [hlt]⟩, Pv (i + 1), fun σ' H' p' => ⟨xs.length - (i + 1), by omega, rfl, hlt, p'⟩, fun x H' y => ?_⟩
    obtain ⟨e, y⟩ := y
    subst e
    exact hs i x σ _ (y xs q) p
  · have e : i = xs.length := by omega
    subst e
    exact .inl ⟨⟨xs, q, Nat.le_refl _⟩, hd σ H p⟩
theorem for_range {lo : Int} {n : Nat} {g : TG} {tb : TS} {D : Ends} {σ : St} {H : Hp} (Pv : Nat → St → Hp → Prop) (h0 : Pv 0 σ H)
    (hs : ∀ i σ H, i < n → Pv i σ H → g (.int (lo + i)) σ H fun σ2 H2 => tb { D with nx := Pv (i + 1), ct := Pv (i + 1), bk := D.nx } σ2 H2) (hd : ∀ σ H, Pv n σ H → D.nx σ H) :
    ∃ W : Nat → Nat → St → Hp → Prop, (∃ m, W 0 m σ H) ∧ ∀ i m σ H, W i m σ H →
      ((Itr lo n).stop i H ∧ D.nx σ H) ∨ ((Itr lo n).go i H ∧ ∃ N : St → Hp → Prop, (∀ σ' H', N σ' H' → ∃ m', m' < m ∧ W (i + 1) m' σ' H') ∧ ∀ x H', (Itr lo n).yld i H x H' → g x σ H' fun σ2 H2 => tb { D with nx := N, ct := N, bk := D.nx } σ2 H2) := by
  refine ⟨fun i m σ H => m = n - i ∧ i ≤ n ∧ Pv i σ H, ⟨n, by simp, Nat.zero_le _, h0⟩, ?_⟩
  rintro i m σ H ⟨rfl, hi, p⟩
  by_cases hlt : i < n
  · refine .inr ⟨hlt, Pv (i + 1), fun σ' H' p' => ⟨n - (i + 1), by omega, rfl, hlt, p'⟩, fun x H' y => ?_⟩
    obtain ⟨e, y⟩ := y
    subst e y
    exact hs i σ _ hlt p
  · have e : i = n := by omega
    subst e
    exact .inl ⟨Nat.le_refl _, hd σ H p⟩
end L2
namespace L2
open PySem PySem.Spec PyProof.Rows
abbrev R2 := V → V → Hp → VK → Prop
def OpR (X : Cx) (f : Value → Value → Sem Value) (r : R2) : Prop :=
  ∀ (pins : List (Addr × Obj)) (s : Shared) (σ : St) (H : Hp) (x y : V) (v u : Value) (Q : VK), Inv X pins σ H s → RelV x v → RelV y u → r x y H Q →
    wpAny (model X.prog X.w) X.A (f v u) (EP X pins σ Q) X.xe s
def UnR (X : Cx) (f : Value → Sem Value) (r : V → Hp → VK → Prop) : Prop :=
  ∀ (pins : List (Addr × Obj)) (s : Shared) (σ : St) (H : Hp) (x : V) (v : Value) (Q : VK), Inv X pins σ H s → RelV x v → r x H Q →
    wpAny (model X.prog X.w) X.A (f v) (EP X pins σ Q) X.xe s
def CallR (X : Cx) (f : Value) (r : List V → Hp → VK → Prop) : Prop :=
  ∀ (pins : List (Addr × Obj)) (s : Shared) (σ : St) (H : Hp) (xs : List V) (us : List Value) (Q : VK), Inv X pins σ H s → Vals xs us → r xs H Q →
    wpAny (model X.prog X.w) X.A (call f us) (EP X pins σ Q) X.xe s
def TruR (X : Cx) (r : V → Hp → (Bool → Hp → Prop) → Prop) : Prop :=
  ∀ (pins : List (Addr × Obj)) (s : Shared) (σ : St) (H : Hp) (x : V) (v : Value) (Q : Bool → Hp → Prop), Inv X pins σ H s → RelV x v → r x H Q →
    wpAny (model X.prog X.w) X.A (truthy v) (TP X pins σ Q) X.xe s
def tOp (r : R2) (ta tb : TE) : TE := fun σ H Q => ta σ H fun x H1 => tb σ H1 fun y H2 => r x y H2 Q
def tUn (r : V → Hp → VK → Prop) (ta : TE) : TE := fun σ H Q => ta σ H fun x H1 => r x H1 Q
def rI (C : Int → Int → Prop) (g : Int → Int → V) : R2 := fun x y H Q => ∃ i j, x = .int i ∧ y = .int j ∧ C i j ∧ Q (g i j) H
def rI0 (g : Int → Int → V) : R2 := fun x y H Q => ∃ i j, x = .int i ∧ y = .int j ∧ Q (g i j) H
def rU (g : Int → V) : V → Hp → VK → Prop := fun x H Q => ∃ i, x = .int i ∧ Q (g i) H
section
variable {X : Cx} {a b c : Expr} {ta tb tc : TE} {pos : Pos}
theorem binT (ha : PE X a ta) (hb : PE X b tb) {pins : List (Addr × Obj)} {s : Shared} {σ : St} {H : Hp} {R : V → V → Hp → Prop} (I : Inv X pins σ H s)
    (h : ta σ H fun x H1 => tb σ H1 fun y H2 => R x y H2) {Q : Value → Shared → Prop} {f : Value → Value → Sem Value}
    (hf : ∀ v u s2 x y H2, Inv X pins σ H2 s2 → RelV x v → RelV y u → R x y H2 → wpAny (model X.prog X.w) X.A (f v u) Q X.xe s2) :
    wpAny (model X.prog X.w) X.A (eval a X.env) (fun v s₁ => wpAny (model X.prog X.w) X.A (eval b X.env) (fun u s₂ => wpAny (model X.prog X.w) X.A (f v u) Q X.xe s₂) X.xe s₁) X.xe s := by
  refine thn (ha pins s σ H _ I h) fun v s1 ⟨x, H1, I1, r1, q1⟩ => ?_
  refine thn (hb pins s1 σ H1 _ I1 q1) fun u s2 ⟨y, H2, I2, r2, q2⟩ => ?_
  exact hf v u s2 x y H2 I2 r1 r2 q2
theorem pe_op {op : Operator} {r : R2} (ho : OpR X (binaryOp op) r) (ha : PE X a ta) (hb : PE X b tb) : PE X (.BinOp a op b pos) (tOp r ta tb) := by
  intro pins s σ H Q I h
  exact wpAny_BinOp (binT ha hb I h fun v u s2 x y H2 I2 rx ry q => ho pins s2 σ H2 x y v u Q I2 rx ry q)
theorem pe_un {op : UnaryOp} {r : V → Hp → VK → Prop} (ho : UnR X (unaryOp op) r) (ha : PE X a ta) : PE X (.UnaryOp op a pos) (tUn r ta) := by
  intro pins s σ H Q I h
  exact UnaryOp_ (thn (ha pins s σ H _ I h) fun v s1 ⟨x, H1, I1, r1, q1⟩ => ho pins s1 σ H1 x v Q I1 r1 q1)
theorem opI {f : Value → Value → Sem Value} {C : Int → Int → Prop} {g : Int → Int → Int}
    (rule : ∀ (i j : Int) (t u : Tok) (s : Shared) (Q : Value → Shared → Prop) (E : Value → Shared → Prop), C i j → Q (.int (g i j) s.toks) { s with toks := s.toks + 1 } → wpAny (model X.prog X.w) X.A (f (.int i t) (.int j u)) Q E s) :
    OpR X f (rI C fun i j => .int (g i j)) := by
  intro pins s σ H x y v u Q I rx ry h
  obtain ⟨i, j, rfl, rfl, hc, q⟩ := h
  obtain ⟨t, rfl⟩ := rx
  obtain ⟨t', rfl⟩ := ry
  exact rule i j t t' s _ _ hc ⟨.int (g i j), H, I.tok _, ⟨_, rfl⟩, q⟩
theorem opI0 {f : Value → Value → Sem Value} {g : Int → Int → Int}
    (rule : ∀ (i j : Int) (t u : Tok) (s : Shared) (Q : Value → Shared → Prop) (E : Value → Shared → Prop), Q (.int (g i j) s.toks) { s with toks := s.toks + 1 } → wpAny (model X.prog X.w) X.A (f (.int i t) (.int j u)) Q E s) :
    OpR X f (rI0 fun i j => .int (g i j)) := by
  intro pins s σ H x y v u Q I rx ry h
  obtain ⟨i, j, rfl, rfl, q⟩ := h
  obtain ⟨t, rfl⟩ := rx
  obtain ⟨t', rfl⟩ := ry
  exact rule i j t t' s _ _ ⟨.int (g i j), H, I.tok _, ⟨_, rfl⟩, q⟩
theorem opB0 {f : Value → Value → Sem Value} {g : Int → Int → Bool}
    (rule : ∀ (i j : Int) (t u : Tok) (s : Shared) (Q : Value → Shared → Prop) (E : Value → Shared → Prop), Q (.bool (g i j)) s → wpAny (model X.prog X.w) X.A (f (.int i t) (.int j u)) Q E s) :
    OpR X f (rI0 fun i j => .bl (g i j)) := by
  intro pins s σ H x y v u Q I rx ry h
  obtain ⟨i, j, rfl, rfl, q⟩ := h
  obtain ⟨t, rfl⟩ := rx
  obtain ⟨t', rfl⟩ := ry
  exact rule i j t t' s _ _ ⟨.bl (g i j), H, I, rfl, q⟩
def CDiv (i j : Int) : Prop := 0 < j ∧ j < 1073741824
def CDivN (i j : Int) : Prop := j ≠ 0 ∧ j.natAbs < 1073741824
def CPow (i j : Int) : Prop := 0 ≤ j ∧ j ≤ 1000000 ∧ i.natAbs < 2 ^ 64
def CMul (i j : Int) : Prop := (-(2 ^ 64) < i ∧ i < 2 ^ 64) ∨ (-(2 ^ 64) < j ∧ j < 2 ^ 64)
theorem CMul.ok {i j : Int} (h : CMul i j) : IntMulOk i j := by
  rcases h with ⟨h1, h2⟩ | ⟨h1, h2⟩
  · exact .of_left (intBits_le_64 h1 h2)
  · exact .of_right (intBits_le_64 h1 h2)
theorem op_add : OpR X (binaryOp .Add) (rI0 fun i j => .int (i + j)) := opI0 fun _ _ _ _ _ _ _ q => add_int q
theorem op_sub : OpR X (binaryOp .Sub) (rI0 fun i j => .int (i - j)) := opI0 fun _ _ _ _ _ _ _ q => sub_int q
theorem op_mul : OpR X (binaryOp .Mult) (rI CMul fun i j => .int (i * j)) := opI fun _ _ _ _ _ _ _ hc q => mul_int q hc.ok
theorem op_mod : OpR X (binaryOp .Mod) (rI (fun _ j => 0 < j) fun i j => .int (i % j)) := opI fun i j _ _ _ _ _ hc q => by
  have h1 : (0 : Int) < j := hc
  exact mod_int' (by omega) (by rw [Int.fmod_eq_emod_of_nonneg i (by omega)]; exact q)
theorem op_pow : OpR X (binaryOp .Pow) (rI CPow fun i j => .int (i ^ j.toNat)) := opI fun _ _ _ _ _ _ _ hc q => pow_int_small hc.1 hc.2.1 hc.2.2 q
theorem op_shl : OpR X (binaryOp .LShift) (rI CPow fun i j => .int (i * 2 ^ j.toNat)) := opI fun _ _ _ _ _ _ _ hc q => lshift_int_small hc.1 hc.2.1 hc.2.2 q
theorem unI {f : Value → Sem Value} {g : Int → Int}
    (rule : ∀ (i : Int) (t : Tok) (s : Shared) (Q : Value → Shared → Prop) (E : Value → Shared → Prop), Q (.int (g i) s.toks) { s with toks := s.toks + 1 } → wpAny (model X.prog X.w) X.A (f (.int i t)) Q E s) :
    UnR X f (rU fun i => .int (g i)) := by
  intro pins s σ H x v Q I rx h
  obtain ⟨i, rfl, q⟩ := h
  obtain ⟨t, rfl⟩ := rx
  exact rule i t s _ _ ⟨.int (g i), H, I.tok _, ⟨_, rfl⟩, q⟩
theorem un_neg : UnR X (unaryOp .USub) (rU fun i => .int (-i)) := unI fun _ _ _ _ _ q => neg_int q
end
def scal : V → V → Bool
  | .non, .non => true | .non, .int _ => true | .int _, .non => true | .non, .bl _ => true | .bl _, .non => true | .non, .str _ => true | .str _, .non => true
  | .int _, .int _ => true | .bl _, .bl _ => true | .str _, .str _ => true | .byt _, .byt _ => true
  | .int _, .str _ => true | .str _, .int _ => true | .bl _, .str _ => true | .str _, .bl _ => true
  | _, _ => false
def rEq : R2 := fun x y H Q => scal x y = true ∧ Q (.bl (decide (x = y))) H
def rNe : R2 := fun x y H Q => scal x y = true ∧ Q (.bl (!decide (x = y))) H
theorem dec_int {i j : Int} : decide (V.int i = V.int j) = (i == j) := by
  rw [Bool.eq_iff_iff]
  simp
theorem dec_bl {i j : Bool} : decide (V.bl i = V.bl j) = (i == j) := by
  rw [Bool.eq_iff_iff]
  simp
theorem dec_str {i j : Str} : decide (V.str i = V.str j) = (i == j) := by
  rw [Bool.eq_iff_iff]
  simp
theorem dec_byt {i j : Array UInt8} : decide (V.byt i = V.byt j) = (i.toList == j.toList) := by
  rw [Bool.eq_iff_iff]
  cases i
  cases j
  simp
section
variable {X : Cx} {a b c : Expr} {ta tb tc : TE} {pos : Pos}
theorem fin_bl {pins : List (Addr × Obj)} {σ : St} {H : Hp} {s : Shared} {Q : VK} {k k' : Bool} (I : Inv X pins σ H s) (q : Q (.bl k) H) (e : k = k') : EP X pins σ Q (.bool k') s := by
  subst e
  exact ⟨.bl k, H, I, rfl, q⟩
theorem op_eq : OpR X (compareOp .Eq) rEq := by
  intro pins s σ H x y v u Q I rx ry h
  obtain ⟨hs, q⟩ := h
  cases x with
  | non =>
    cases rx
    cases y with
    | non => cases ry; exact PySem.EqNone.eq_none_none (fin_bl I q (by simp))
    | bl j => cases ry; exact PySem.EqNone.eq_none_bool (fin_bl I q (by simp))
    | int j => obtain ⟨t', rfl⟩ := ry; exact PySem.EqNone.eq_none_int (fin_bl I q (by simp))
    | str j => obtain ⟨t', rfl⟩ := ry; exact PySem.EqNone.eq_none_str (fin_bl I q (by simp))
    | _ => exact absurd (show false = true from hs) Bool.false_ne_true
  | bl i =>
    cases rx
    cases y with
    | non => cases ry; exact PySem.EqNone.eq_bool_none (fin_bl I q (by simp))
    | bl j => cases ry; exact eq_bool (fin_bl I q dec_bl)
    | str j => obtain ⟨t', rfl⟩ := ry; exact PySem.EqMixed.eq_bool_str (fin_bl I q (by simp))
    | _ => exact absurd (show false = true from hs) Bool.false_ne_true
  | int i =>
    obtain ⟨t, rfl⟩ := rx
    cases y with
    | non => cases ry; exact PySem.EqNone.eq_int_none (fin_bl I q (by simp))
    | int j => obtain ⟨t', rfl⟩ := ry; exact eq_int (fin_bl I q dec_int)
    | str j => obtain ⟨t', rfl⟩ := ry; exact PySem.EqMixed.eq_int_str (fin_bl I q (by simp))
    | _ => exact absurd (show false = true from hs) Bool.false_ne_true
  | str i =>
    obtain ⟨t, rfl⟩ := rx
    cases y with
    | non => cases ry; exact PySem.EqNone.eq_str_none (fin_bl I q (by simp))
    | bl j => cases ry; exact PySem.EqMixed.eq_str_bool (fin_bl I q (by simp))
    | int j => obtain ⟨t', rfl⟩ := ry; exact PySem.EqMixed.eq_str_int (fin_bl I q (by simp))
    | str j => obtain ⟨t', rfl⟩ := ry; exact eq_str (fin_bl I q dec_str)
    | _ => exact absurd (show false = true from hs) Bool.false_ne_true
  | byt i =>
    obtain ⟨t, rfl⟩ := rx
    cases y with
    | byt j => obtain ⟨t', rfl⟩ := ry; exact PySem.W.eq_bytes (fin_bl I q dec_byt)
    | _ => exact absurd (show false = true from hs) Bool.false_ne_true
  | _ => cases y <;> exact absurd (show false = true from hs) Bool.false_ne_true
theorem op_ne : OpR X (compareOp .NotEq) rNe := by
  intro pins s σ H x y v u Q I rx ry h
  obtain ⟨hs, q⟩ := h
  cases x with
  | non =>
    cases rx
    cases y with
    | non => cases ry; exact PySem.EqNone.ne_none_none (fin_bl I q (by simp))
    | bl j => cases ry; exact PySem.EqNone.ne_none_bool (fin_bl I q (by simp))
    | int j => obtain ⟨t', rfl⟩ := ry; exact PySem.EqNone.ne_none_int (fin_bl I q (by simp))
    | str j => obtain ⟨t', rfl⟩ := ry; exact PySem.EqNone.ne_none_str (fin_bl I q (by simp))
    | _ => exact absurd (show false = true from hs) Bool.false_ne_true
  | bl i =>
    cases rx
    cases y with
    | non => cases ry; exact PySem.EqNone.ne_bool_none (fin_bl I q (by simp))
    | bl j => cases ry; exact ne_bool (fin_bl I q (congrArg not dec_bl))
    | str j => obtain ⟨t', rfl⟩ := ry; exact PySem.EqMixed.ne_bool_str (fin_bl I q (by simp))
    | _ => exact absurd (show false = true from hs) Bool.false_ne_true
  | int i =>
    obtain ⟨t, rfl⟩ := rx
    cases y with
    | non => cases ry; exact PySem.EqNone.ne_int_none (fin_bl I q (by simp))
    | int j => obtain ⟨t', rfl⟩ := ry; exact ne_int (fin_bl I q (congrArg not dec_int))
    | str j => obtain ⟨t', rfl⟩ := ry; exact PySem.EqMixed.ne_int_str (fin_bl I q (by simp))
    | _ => exact absurd (show false = true from hs) Bool.false_ne_true
  | str i =>
    obtain ⟨t, rfl⟩ := rx
    cases y with
    | non => cases ry; exact PySem.EqNone.ne_str_none (fin_bl I q (by simp))
    | bl j => cases ry; exact PySem.EqMixed.ne_str_bool (fin_bl I q (by simp))
    | int j => obtain ⟨t', rfl⟩ := ry; exact PySem.EqMixed.ne_str_int (fin_bl I q (by simp))
    | str j => obtain ⟨t', rfl⟩ := ry; exact ne_str (fin_bl I q (congrArg not dec_str))
    | _ => exact absurd (show false = true from hs) Bool.false_ne_true
  | byt i =>
    obtain ⟨t, rfl⟩ := rx
    cases y with
    | byt j => obtain ⟨t', rfl⟩ := ry; exact PySem.W.ne_bytes (fin_bl I q (congrArg not dec_byt))
    | _ => exact absurd (show false = true from hs) Bool.false_ne_true
  | _ => cases y <;> exact absurd (show false = true from hs) Bool.false_ne_true
theorem op_lt : OpR X (compareOp .Lt) (rI0 fun i j => .bl (decide (i < j))) := opB0 fun _ _ _ _ _ _ _ q => lt_int q
theorem op_le : OpR X (compareOp .LtE) (rI0 fun i j => .bl (decide (i ≤ j))) := opB0 fun _ _ _ _ _ _ _ q => le_int q
theorem op_gt : OpR X (compareOp .Gt) (rI0 fun i j => .bl (decide (j < i))) := opB0 fun _ _ _ _ _ _ _ q => gt_int q
theorem op_isN : OpR X (compareOp .Is) (fun x y H Q => y = .non ∧ Q (.bl (decide (x = .non))) H) := by
  intro pins s σ H x y v u Q I rx ry h
  obtain ⟨rfl, q⟩ := h
  cases ry
  refine is_none_gen (fin_bl I q ?_)
  cases x <;> first
    | (cases rx; rfl)
    | (obtain ⟨t, rfl⟩ := rx; rfl)
theorem op_notN : OpR X (compareOp .IsNot) (fun x y H Q => y = .non ∧ Q (.bl (!decide (x = .non))) H) := by
  intro pins s σ H x y v u Q I rx ry h
  obtain ⟨rfl, q⟩ := h
  cases ry
  refine isnot_none_gen (fin_bl I q ?_)
  cases x <;> first
    | (cases rx; rfl)
    | (obtain ⟨t, rfl⟩ := rx; rfl)
def isObj : HO → Bool
  | .lst _ => true
  | .ins _ _ _ => true
  | _ => false
theorem nomark (b : Expr) {op : CmpOp} (h : op ≠ .In := by decide) (h2 : op ≠ .NotIn := by decide) : behindInMarks op b = false := by
  have e1 : (op == CmpOp.In) = false := by cases op <;> first | rfl | exact absurd rfl h
  have e2 : (op == CmpOp.NotIn) = false := by cases op <;> first | rfl | exact absurd rfl h2
  cases b <;> simp [behindInMarks, e1, e2]
theorem pe_cmpR {op : CmpOp} {r : R2} (ho : OpR X (compareOp op) r) (ha : PE X a ta) (hb : PE X b tb) (hm : behindInMarks op b = false) : PE X (.Compare a [op] [b] pos) (tOp r ta tb) := by
  intro pins s σ H Q I h
  exact wpAny_Compare1 (binT ha hb I h fun v u s2 x y H2 I2 rx ry q => ho pins s2 σ H2 x y v u Q I2 rx ry q) hm
def tTest (t : TE) : TT := fun σ H Q => t σ H fun x H' => ∃ k, x = .bl k ∧ Q k H'
theorem pt_cmpR {op : CmpOp} {r : R2} (ho : OpR X (compareOp op) r) (ha : PE X a ta) (hb : PE X b tb) (hm : behindInMarks op b = false) : PT X (.Compare a [op] [b] pos) (tTest (tOp r ta tb)) := by
  intro pins s σ H Q I h
  refine wpAny_isTrue_Compare1 (thn (ha pins s σ H _ I h) fun v s1 ⟨x, H1, I1, r1, q1⟩ => thn (hb pins s1 σ H1 _ I1 q1) fun u s2 ⟨y, H2, I2, r2, q2⟩ =>
    thn (ho pins s2 σ H2 x y v u _ I2 r1 r2 q2) fun c s3 ⟨z, H3, I3, r3, k, e, q3⟩ => ?_) hm
  subst e
  cases r3
  exact wpAny_truthy_bool ⟨H3, I3, q3⟩
def tChain (r r' : R2) (ta tb tc : TE) : TE := fun σ H Q => ta σ H fun x H1 => tb σ H1 fun y H2 => r x y H2 fun z H3 => ∃ k, z = .bl k ∧
  (if k = true then tc σ H3 fun w' H4 => r' y w' H4 Q else Q (.bl false) H3)
theorem pe_chain {op op' : CmpOp} {r r' : R2} (ho : OpR X (compareOp op) r) (ho' : OpR X (compareOp op') r') (ha : PE X a ta) (hb : PE X b tb) (hc : PE X c tc)
    (hm : lastMarks [op, op'] [b, c] = false := by with_unfolding_all rfl) : PE X (.Compare a [op, op'] [b, c] pos) (tChain r r' ta tb tc) := by
  intro pins s σ H Q I h
  refine Compare_chain (thn (ha pins s σ H _ I h) fun v s1 ⟨x, H1, I1, r1, q1⟩ => chain_link (thn (hb pins s1 σ H1 _ I1 q1) fun u s2 ⟨y, H2, I2, r2, q2⟩ =>
    thn (ho pins s2 σ H2 x y v u _ I2 r1 r2 q2) fun d s3 ⟨z, H3, I3, r3, k, e, q3⟩ => ?_)) hm
  subst e
  cases r3
  refine wpAny_truthy_bool ?_
  cases k with
  | false => exact ite_ff ⟨.bl false, H3, I3, rfl, q3⟩
  | true => exact ite_tt (chain_last (thn (hc pins s3 σ H3 _ I3 q3) fun w' s4 ⟨z', H4, I4, r4, q4⟩ => ho' pins s4 σ H4 y z' u w' Q I4 r2 r4 q4))
def TruV (K : PySem.W.Frag) (x : V) (H : Hp) (k : Bool) : Prop :=
  match x with
  | .non => k = false
  | .bl b => k = b
  | .int i => k = (i != 0)
  | .str y => y.length ≤ sizeLine ∧ k = ((y.length : Int) != 0)
  | .byt y => y.size ≤ sizeLine ∧ k = ((y.size : Int) != 0)
  | .ref p => (∃ xs, SqL K H p xs ∧ k = !xs.isEmpty) ∨ (∃ xs, SqT K H p xs ∧ k = !xs.isEmpty) ∨ ∃ kvs, H p = some (.dK kvs) ∧ k = !kvs.isEmpty
  | _ => False
theorem line63 : (sizeLine : Nat) < 2 ^ 63 := by rw [sizeLine_eq]; decide
def PlainIxT (b : Expr) : Prop := ∀ o i, subscripted b false o i = operate [o, i] (getItem o i)
theorem vals1 {x : V} {us : List Value} (r : Vals [x] us) : ∃ u, us = [u] ∧ RelV x u := by
  cases r with
  | cons r1 r2 => cases r2; exact ⟨_, rfl, r1⟩
theorem vals2 {x y : V} {us : List Value} (r : Vals [x, y] us) : ∃ u w', us = [u, w'] ∧ RelV x u ∧ RelV y w' := by
  cases r with
  | cons r1 r2 =>
    cases r2 with
    | cons r3 r4 => cases r4; exact ⟨_, _, rfl, r1, r3⟩
def LenV (K : PySem.W.Frag) (x : V) (H : Hp) (n : Nat) : Prop :=
  match x with
  | .str y => y.length ≤ sizeLine ∧ n = y.length
  | .byt y => y.size ≤ sizeLine ∧ n = y.size
  | .ref p => (∃ xs, SqL K H p xs ∧ n = xs.length) ∨ ∃ xs, SqT K H p xs ∧ n = xs.length
  | _ => False
end
end L2
namespace L2
open PySem PySem.Spec PyProof.Rows
structure ObjM (h : Heap) (x dx C : Addr) (mA : Str → Option Value) : Prop where
  obj : h.get? x = some (PySem.W.instObj C dx)
  ns : h.Ns1 dx mA
  ne : dx ≠ x
theorem lookIn_ns {h : Heap} {dx : Addr} {mA : Str → Option Value} (n : h.Ns1 dx mA) : ∃ od, h.get? dx = some od ∧ ∀ name, PySem.W.lookIn name od = some (mA name) := by
  obtain ⟨o, es, ep, ho, hd, hk, _, hm⟩ := n
  refine ⟨o, ho, fun name => ?_⟩
  have e := hm name
  unfold nsFind findBy at e
  rw [← Array.find?_toList] at e
  unfold PySem.W.lookIn
  rw [hd]
  dsimp only
  split
  · rename_i y q
    rw [q] at e
    exact congrArg some e
  · rename_i q
    rw [q] at e
    have a : es.toList.any (·.refKey) = false := by
      rw [List.any_eq_false]
      intro y hy
      obtain ⟨z, t, hkey⟩ := hk y (Array.mem_toList_iff.mp hy)
      simp [DictEntry.refKey, hkey]
    have a' : ¬ es.toList.any (·.refKey) = true := by rw [a]; exact Bool.false_ne_true
    rw [if_neg a']
    exact congrArg some e
theorem ObjM.look {h : Heap} {x dx C : Addr} {mA : Str → Option Value} (I : ObjM h x dx C mA) : ∃ od, PySem.W.InstAt h x (PySem.W.instObj C dx) C (some od) ∧ ∀ name, PySem.W.lookIn name od = some (mA name) :=
  let ⟨od, ho, hl⟩ := lookIn_ns I.ns
  ⟨od, ⟨I.obj, rfl, rfl, ho⟩, hl⟩
section
variable {prog : Program} {w : World} {A : Around} {E : Value → Shared → Prop} {s : Shared} {K : PySem.W.Frag} {x dx C f : Addr} {mA : Str → Option Value} {name : Str} {v : Value}
theorem get_map {expr : Bool} {Q : Value → Shared → Prop} (X : K.In s.heap) (I : ObjM s.heap x dx C mA) (hg : PySem.W.plainGet K C name = true) (hh : PySem.W.hasDictIn K C = true)
    (ha : PySem.W.findIn K (.ref C) name = some none) (hv : mA name = some v) (hv' : PySem.W.handedIn v = true) (h : Q v { s with toks := s.toks + 1 }) :
    wpAny (model prog w) A (getAttr (.ref x) name expr) Q E s := by
  obtain ⟨od, J, hl⟩ := I.look
  exact PySem.W.get_value X J (PySem.W.plainGet_of hg).1 (PySem.W.findObj_own hh ha rfl (by rw [hl, hv])) hv' h
theorem set_map {ns : List Str} {Q : Unit → Shared → Prop} (X : K.In s.heap) (I : ObjM s.heap x dx C mA)
    (hs : PySem.W.findIn K (.ref C) "__setattr__" = some (some (.builtin "object.__setattr__"))) (hp : PySem.W.plainOver K C = true) (ht : PySem.W.takerIn K C name = some none) (hh : PySem.W.hasDictIn K C = true)
    (hw : PySem.Within mA ns) (hsz : ns.length ≤ sizeLine)
    (h : ∀ h', ObjM h' x dx C (fun y => if y = name then some v else mA y) → Heap.SameBut dx s.heap h' → Q () { s with heap := h', toks := s.toks + 2 }) :
    wpAny (model prog w) A (setAttr (.ref x) name v) Q E s := by
  obtain ⟨od, J, hl⟩ := I.look
  refine PySem.W.set_plain X J hs (PySem.W.osa_open (s := { s with toks := s.toks + 1 }) (r := none) X J hp ht fun b => ?_)
  obtain ⟨cd, hc, hd'⟩ := PySem.W.any_some hh
  have hx : s.heap.get? x = some ⟨.ref C, some dx, .plain, #[]⟩ := I.obj
  refine wpAny_bind (wpAny_pure (wpAny_bind (wpAny_bind (wpAny_loadPart hx (wpAny_bind (PySem.W.Looks.here (s := { s with toks := s.toks + 1 }) (PySem.W.looks_clsIn X hc) ?_))))))
  rw [hd']
  refine wpAny_pure (a := some dx) (wpAny_bind (wpAny_pure (wpAny_bind ?_)))
  refine wpAny_nsSet1 (s := { s with toks := s.toks + 1 }) I.ns fun h' hn2 hs2 => ?_
  obtain ⟨oD, esD, epD, hoD, hdD, hcD⟩ := hn2.count (PySem.Within.cons name v hw)
  refine wpAny_bind (wpAny_lookBehind hoD (by rw [hdD]; exact pastItsLine_dict (Nat.le_trans hcD (by rw [List.length_cons]; omega))) ?_)
  exact wpAny_pure (h _ ⟨(hs2.2 _ (Ne.symm I.ne)).trans I.obj, hn2, I.ne⟩ hs2)
theorem make_map {R : Result → Shared → Prop} {vs : List Value} {kw : List (Str × Value)} (X : K.In s.heap) (hm : PySem.W.makesIn K C = true)
    (hi : PySem.W.findIn K (.ref C) "__init__" = some (some (.ref f))) (hf : PySem.W.typeIn K (.ref f) = some (.type "function"))
    (h : codeAny (model prog w) (A.under (.builtin "type.__call__" ⟨.ref C :: vs, kw⟩)) (.call (.ref f) ⟨.ref (s.heap.objs.size + 1) :: vs, kw⟩) (PySem.W.InitBack (s.heap.objs.size + 1) R)
      { s with heap := (s.heap.push PySem.W.emptyDict).push (PySem.W.instObj C s.heap.objs.size) }) :
    codeAny (model prog w) A (.call (.ref C) ⟨vs, kw⟩) R s := by
  obtain ⟨hh, g, d, t, os⟩ := s
  exact PySem.W.make_core (PySem.W.makes_of X hm) (PySem.W.looks_findIn X hi) (fun self => PySem.W.bind_fn X self hf) (.inl rfl) h
end
def putF (f : Str) (v : V) : List (Str × V) → List (Str × V)
  | [] => [(f, v)]
  | (g, x) :: r => if g = f then (g, v) :: r else (g, x) :: putF f v r
theorem lookup_putF (f g : Str) (v : V) : ∀ fs : List (Str × V), (putF f v fs).lookup g = if g = f then some v else fs.lookup g
  | [] => by
    show List.lookup g [(f, v)] = _
    by_cases h : g = f
    · have hb : (g == f) = true := beq_iff_eq.mpr h
      simp only [List.lookup, hb, if_pos h]
    · have hb : (g == f) = false := beq_eq_false_iff_ne.mpr h
      simp only [List.lookup, hb, if_neg h]
  | (k, x) :: r => by
    have ih := lookup_putF f g v r
    rw [show putF f v ((k, x) :: r) = (if k = f then (k, v) :: r else (k, x) :: putF f v r) from rfl]
    by_cases hk : k = f
    · rw [if_pos hk]
      by_cases h : g = k
      · have hb : (g == k) = true := beq_iff_eq.mpr h
        simp only [List.lookup, hb, if_pos (h.trans hk)]
      · have hb : (g == k) = false := beq_eq_false_iff_ne.mpr h
        simp only [List.lookup, hb, if_neg (fun e : g = f => h (e.trans hk.symm))]
    · rw [if_neg hk]
      by_cases h : g = k
      · have hb : (g == k) = true := beq_iff_eq.mpr h
        simp only [List.lookup, hb, if_neg (fun e : g = f => hk (h.symm.trans e))]
      · have hb : (g == k) = false := beq_eq_false_iff_ne.mpr h
        simp only [List.lookup, hb]
        exact ih
theorem keys_putF (f : Str) (v : V) : ∀ fs : List (Str × V), f ∈ (putF f v fs).map (·.1) ∧ ∀ g, g ∈ fs.map (·.1) → g ∈ (putF f v fs).map (·.1)
  | [] => ⟨by simp [putF], fun g h => by simp at h⟩
  | (k, x) :: r => by
    obtain ⟨i1, i2⟩ := keys_putF f v r
    rw [show putF f v ((k, x) :: r) = (if k = f then (k, v) :: r else (k, x) :: putF f v r) from rfl]
    by_cases hk : k = f
    · rw [if_pos hk]
      subst hk
      exact ⟨by simp, fun g h => by simpa using h⟩
    · rw [if_neg hk]
      refine ⟨?_, fun g h => ?_⟩
      · rw [List.map_cons]
        exact List.mem_cons_of_mem _ i1
      · rw [List.map_cons] at h ⊢
        rcases List.mem_cons.mp h with e | e
        · exact List.mem_cons.mpr (.inl e)
        · exact List.mem_cons_of_mem _ (i2 g e)
theorem length_putF (f : Str) (v : V) : ∀ fs : List (Str × V), (putF f v fs).length ≤ fs.length + 1
  | [] => by simp [putF]
  | (k, x) :: r => by
    have ih := length_putF f v r
    rw [show putF f v ((k, x) :: r) = (if k = f then (k, v) :: r else (k, x) :: putF f v r) from rfl]
    by_cases hk : k = f
    · rw [if_pos hk, List.length_cons, List.length_cons]; omega
    · rw [if_neg hk, List.length_cons, List.length_cons]; omega
theorem RelO.some_of {v : V} {o : Option Value} (r : RelO (some v) o) : ∃ u, o = some u ∧ RelV v u := by
  cases o with
  | none => exact (show False from r).elim
  | some u => exact ⟨u, rfl, r⟩
theorem handed_of {v : V} {u : Value} (r : RelV v u) : PySem.W.handedIn u = true := by
  cases v with
  | non => cases (show u = Value.none from r); rfl
  | bl b => cases (show u = Value.bool b from r); rfl
  | int i => obtain ⟨t, e⟩ := (show ∃ t, u = Value.int i t from r); cases e; rfl
  | str x => obtain ⟨t, e⟩ := (show ∃ t, u = Value.str x t from r); cases e; rfl
  | byt b => obtain ⟨t, e⟩ := (show ∃ t, u = Value.bytes b t from r); cases e; rfl
  | flt b => obtain ⟨t, e⟩ := (show ∃ t, u = Value.float b t from r); cases e; rfl
  | ref a => cases (show u = Value.ref a from r); rfl
  | ty n => cases (show u = Value.type n from r); rfl
section
variable {P : Program} {w : World} {H H' : Hp} {h h' : Heap} {a C dx : Addr} {fs fs' : List (Str × V)}
theorem ins_get (hok : HOk P w H h) (e : H a = some (.ins C dx fs)) : ∃ mA, ObjM h a dx C mA ∧ (∀ f, RelO (fs.lookup f) (mA f)) ∧ PySem.Within mA (fs.map (·.1)) ∧ fs.length ≤ 1000 ∧ H dx = some (.own a) := by
  obtain ⟨d, z, ne, ob, mA, n, r, q⟩ := (show ObjOk P w H h a (.ins C dx fs) from hok a _ e)
  exact ⟨mA, ⟨ob, n, ne⟩, r, q, z, d⟩
end
structure Cls (K : PySem.W.Frag) (C : Addr) : Prop where
  pg : PySem.W.plainGet K C Str.empty = true
  hd : PySem.W.hasDictIn K C = true
  po : PySem.W.plainOver K C = true
  sa : PySem.W.findIn K (.ref C) "__setattr__" = some (some (.builtin "object.__setattr__"))
theorem Cls.get {K : PySem.W.Frag} {C : Addr} (c : Cls K C) (f : Str) : PySem.W.plainGet K C f = true := c.pg
def NoAttr (K : PySem.W.Frag) (C : Addr) (f : Str) : Prop := PySem.W.findIn K (.ref C) f = some none
theorem NoAttr.taker {K : PySem.W.Frag} {C : Addr} {f : Str} (n : NoAttr K C f) : PySem.W.takerIn K C f = some none := by
  unfold PySem.W.takerIn
  rw [show PySem.W.findIn K (.ref C) f = some none from n]
  rfl
structure Con (K : PySem.W.Frag) (C : Addr) (f : Str) (v : V) (u : Value) : Prop where
  at_ : PySem.W.findIn K (.ref C) f = some (some u)
  rel : RelV v u
  get : PySem.W.specialIn K u "__get__" = some none
  cp : PySem.W.copiedNames.contains f = false
structure Meth (K : PySem.W.Frag) (C : Addr) (m : Str) (f : Addr) : Prop where
  at_ : PySem.W.findIn K (.ref C) m = some (some (.ref f))
  fn : PySem.W.isFn K (.ref f) = true
  kp : PySem.W.keepIn K (.ref f) = true
section
variable {X : Cx} {pins : List (Addr × Obj)} {σ : St} {H : Hp} {s : Shared} {a C dx : Addr} {fs : List (Str × V)} {f : Str} {v : V} {A : Around} {E : Value → Shared → Prop}
theorem getattr_ok {b : Bool} {Q : Value → Shared → Prop} (I : Inv X pins σ H s) (e : H a = some (.ins C dx fs)) (c : Cls X.K C) (n : NoAttr X.K C f) (l : fs.lookup f = some v)
    (h : ∀ u s', Inv X pins σ H s' → RelV v u → Q u s') : wpAny (model X.prog X.w) A (getAttr (.ref a) f b) Q E s := by
  obtain ⟨mA, O, r, _, _, _⟩ := ins_get I.hok e
  obtain ⟨u, hu, ru⟩ := RelO.some_of (v := v) (o := mA f) (by rw [← l]; exact r f)
  exact get_map I.kIn O (c.get f) c.hd n hu (handed_of ru) (h u _ (I.tok _) ru)
theorem setattr_ok {y : V} {u : Value} {Q : Unit → Shared → Prop} (I : Inv X pins σ H s) (e : H a = some (.ins C dx fs)) (c : Cls X.K C) (n : NoAttr X.K C f) (hl : fs.length < 1000) (ry : RelV y u)
    (h : ∀ s', Inv X pins σ (upd H a (.ins C dx (putF f y fs))) s' → Q () s') : wpAny (model X.prog X.w) A (setAttr (.ref a) f u) Q E s := by
  obtain ⟨mA, O, r, wi, _, ho⟩ := ins_get I.hok e
  have hz : (fs.map (·.1)).length ≤ sizeLine := by rw [List.length_map, sizeLine_eq]; omega
  refine set_map I.kIn O c.sa c.po n.taker c.hd wi hz fun h' O' sb => h _ ?_
  have hd : ∃ o, h'.get? dx = some o := let ⟨o, _, _, e', _⟩ := O'.ns; ⟨o, e'⟩
  refine I.write (x := a) (e := dx) (by rw [e]; exact True.intro) (.inr ho) (fun b q hb z => (sb.2 b hb).trans z) hd ?_
  refine ⟨by rw [upd_ne O.ne]; exact ho, ?_, O.ne, O'.obj, _, O'.ns, fun g => ?_, fun g hg => ?_⟩
  · have := length_putF f y fs; omega
  · show RelO ((putF f y fs).lookup g) (if g = f then some u else mA g)
    rw [lookup_putF]
    by_cases q : g = f
    · rw [if_pos q, if_pos q]; exact ry
    · rw [if_neg q, if_neg q]; exact r g
  · by_cases q : g = f
    · rw [q]; exact (keys_putF f y fs).1
    · refine (keys_putF f y fs).2 g (wi g fun z => hg ?_)
      show (if g = f then some u else mA g) = none
      rw [if_neg q]; exact z
theorem Inv.made (I : Inv X pins σ H s) : Inv X pins σ (upd (upd H s.heap.objs.size (.own (s.heap.objs.size + 1))) (s.heap.objs.size + 1) (.ins C s.heap.objs.size []))
    { s with heap := (s.heap.push PySem.W.emptyDict).push (PySem.W.instObj C s.heap.objs.size) } := by
  have e1 : (s.heap.push PySem.W.emptyDict).get? s.heap.objs.size = some PySem.W.emptyDict := Heap.get?_push_size s.heap rfl
  have e2 : ((s.heap.push PySem.W.emptyDict).push (PySem.W.instObj C s.heap.objs.size)).get? (s.heap.objs.size + 1) = some (PySem.W.instObj C s.heap.objs.size) := by
    have := Heap.get?_push_size (s.heap.push PySem.W.emptyDict) (o := PySem.W.instObj C s.heap.objs.size) rfl
    rwa [Heap.size_push] at this
  have e3 : (s.heap.push PySem.W.emptyDict).Ns s.heap.objs.size (fun _ => none) := ⟨PySem.W.emptyDict, #[], _, e1, rfl, (fun e he => absurd he (by simp)), fun _ => rfl⟩
  have I1 := I.laid (a := s.heap.objs.size) (o := .own (s.heap.objs.size + 1)) (h' := s.heap.push PySem.W.emptyDict) (t' := s.toks) (fun b u q => Heap.get?_push_of_some _ q) (Nat.le_refl _) ⟨_, e1⟩
  refine I1.laid (a := s.heap.objs.size + 1) (o := .ins C s.heap.objs.size []) (t' := s.toks) (fun b u q => Heap.get?_push_of_some _ q) (Nat.le_of_eq (Heap.size_push _ _)) ?_
  have ne : s.heap.objs.size ≠ s.heap.objs.size + 1 := Nat.ne_of_lt (Nat.lt_succ_self _)
  refine ⟨by rw [upd_ne ne, upd_same], Nat.zero_le _, ne, e2, fun _ => none, (Heap.Ns1.of_empty e3).at fun o q => Heap.get?_push_of_some _ q, fun _ => True.intro, fun y hy => absurd rfl hy⟩
theorem attr_of {prog : Program} {w : World} {env : Env} {e : Expr} {f : Str} {pos : Pos} {s : Shared} {Q : Value → Shared → Prop} (hb : attributeBase e f env (eval e env) = eval e env)
    (h : wpAny (model prog w) A (eval e env) (fun o s₁ => wpAny (model prog w) A (getAttr o f true) Q E s₁) E s) : wpAny (model prog w) A (eval (.Attribute e f pos) env) Q E s :=
  Attribute_any_ h (by rw [arm_eval_Attribute, hb])
end
def tFld (K : PySem.W.Frag) (ta : TE) (f : Str) : TE := fun σ H Q => ta σ H fun x H1 => ∃ a C dx fs v, x = .ref a ∧ H1 a = some (.ins C dx fs) ∧ Cls K C ∧ NoAttr K C f ∧ fs.lookup f = some v ∧ Q v H1
def tCon (K : PySem.W.Frag) (ta : TE) (f : Str) : TE := fun σ H Q => ta σ H fun x H1 => ∃ a C dx fs v u, x = .ref a ∧ H1 a = some (.ins C dx fs) ∧ Cls K C ∧ Con K C f v u ∧ fs.lookup f = none ∧ Q v H1
def sFld (K : PySem.W.Frag) (ta tv : TE) (f : Str) : TS := fun D σ H => tv σ H fun y H1 => ta σ H1 fun x H2 => ∃ a C dx fs, x = .ref a ∧ H2 a = some (.ins C dx fs) ∧ Cls K C ∧ NoAttr K C f ∧ fs.length < 1000 ∧
  D.nx σ (upd H2 a (.ins C dx (putF f y fs)))
def InOp (X : Cx) (op : Operator) (rd : V → V → Hp → VK → Prop) : Prop :=
  ∀ (pins : List (Addr × Obj)) (s : Shared) (σ : St) (H : Hp) (x y : V) (u v : Value) (Q : VK), Inv X pins σ H s → RelV x u → RelV y v → rd x y H Q → wpAny (model X.prog X.w) X.A (inplaceOp op u v) (EP X pins σ Q) X.xe s
def sFldAug (K : PySem.W.Frag) (ta tv : TE) (rd : V → V → Hp → VK → Prop) (f : Str) : TS := fun D σ H => ta σ H fun x H1 => ∃ a C dx fs v, x = .ref a ∧ H1 a = some (.ins C dx fs) ∧ Cls K C ∧ NoAttr K C f ∧ fs.lookup f = some v ∧
  tv σ H1 fun y H2 => rd v y H2 fun z H3 => ∃ dx' fs', H3 a = some (.ins C dx' fs') ∧ fs'.length < 1000 ∧ D.nx σ (upd H3 a (.ins C dx' (putF f z fs')))
section
variable {X : Cx} {o e value : Expr} {f : Str} {pos pos' tpos : Pos} {ta tv : TE}
theorem pe_fld (he : PE X e ta) (hb : attributeBase e f X.env (eval e X.env) = eval e X.env) : PE X (.Attribute e f pos) (tFld X.K ta f) := by
  intro pins s σ H Q I h
  refine attr_of hb (thn (he pins s σ H _ I h) fun u s1 ⟨x, H1, I1, rx, a, C, dx, fs, v, ex, ea, c, n, l, q⟩ => ?_)
  subst ex
  obtain rfl : u = Value.ref a := rx
  exact getattr_ok I1 ea c n l fun u' s2 I2 ru => ⟨v, H1, I2, ru, q⟩
theorem ps_fld (ha : PE X o ta) (hv : PE X value tv) (hs : swapsWith value (some (.Attribute o f pos')) pos.line X.env = pure false) : PS X (.Assign [.Attribute o f pos'] value pos) (sFld X.K ta tv f) := by
  intro pins s σ H D I h
  refine plainObj_wpAny_Assign_Attribute (thn (hv pins s σ H _ I h) fun u s1 ⟨y, H1, I1, ry, q⟩ => thn (ha pins s1 σ H1 _ I1 q) fun ov s2 ⟨x, H2, I2, rx, a, C, dx, fs, ex, ea, c, n, l, q2⟩ => ?_) hs
  subst ex
  obtain rfl : ov = Value.ref a := rx
  exact setattr_ok I2 ea c n l ry fun s3 I3 => ⟨σ, _, I3, q2⟩
def rAdd : V → V → Hp → VK → Prop := fun x y H Q => ∃ i j, x = .int i ∧ y = .int j ∧ Q (.int (i + j)) H
def rSub : V → V → Hp → VK → Prop := fun x y H Q => ∃ i j, x = .int i ∧ y = .int j ∧ Q (.int (i - j)) H
end
section
variable {X : Cx} {pins : List (Addr × Obj)} {σ : St} {H : Hp} {s : Shared} {A : Around} {E : Value → Shared → Prop} {Q : Value → Shared → Prop} {c : Value} {b : Bool}
inductive TyOf (K : PySem.W.Frag) (H : Hp) : V → Value → Prop where
  | non : TyOf K H .non (.type "NoneType")
  | bl (x : Bool) : TyOf K H (.bl x) (.type "bool")
  | int (i : Int) : TyOf K H (.int i) (.type "int")
  | str (x : Str) : TyOf K H (.str x) (.type "str")
  | flt (x : UInt64) : TyOf K H (.flt x) (.type "float")
  | lst {a : Addr} {xs : List V} (e : H a = some (.lst xs)) : TyOf K H (.ref a) (.type "list")
  | frz {a : Addr} {o : Obj} {xs : List V} (e : H a = some (.frz o (.lst xs))) : TyOf K H (.ref a) (.type "list")
  | tup {a : Addr} {xs : List V} (e : H a = some (.tup xs)) : TyOf K H (.ref a) (.type "tuple")
  | dK {a : Addr} {kvs : List (Key × V)} (e : H a = some (.dK kvs)) : TyOf K H (.ref a) (.type "dict")
  | dT {a : Addr} {kvs : List (List Key × V)} (e : H a = some (.dT kvs)) : TyOf K H (.ref a) (.type "dict")
  | ins {a C dx : Addr} {fs : List (Str × V)} (e : H a = some (.ins C dx fs)) (cl : Cls K C) (ha : PySem.W.findIn K (.ref C) "__class__" = some (some (.builtin "object.__class__")))
      (hn : PySem.W.specialIn K (.builtin "object.__class__") "__get__" = some (some (.builtin "getset_descriptor.__get__"))) (htk : PySem.W.takesIn K (.builtin "object.__class__") = some true)
      (hm : PySem.W.mroIn K C (.type "object") = some true) : TyOf K H (.ref a) (.ref C)
theorem isinst_ok {x : V} {u t : Value} (I : Inv X pins σ H s) (rx : RelV x u) (ty : TyOf X.K H x t) (e : PySem.W.kitOne X.K t c = some b) (h : ∀ tk, Q (.bool b) { s with toks := tk }) :
    wpAny (model X.prog X.w) A (call (.builtin "isinstance") [u, c]) Q E s := by
  cases ty with
  | non => cases (show u = Value.none from rx); exact PySem.W.kia_one PySem.W.kitx_none I.kIn True.intro e (fun z => nomatch z) h
  | bl y => cases (show u = Value.bool y from rx); exact PySem.W.kia_one PySem.W.kitx_bool I.kIn True.intro e (fun z => nomatch z) h
  | int i => obtain ⟨t, q⟩ := (show ∃ t, u = Value.int i t from rx); cases q; exact PySem.W.kia_one PySem.W.kitx_int I.kIn True.intro e (fun z => nomatch z) h
  | str y => obtain ⟨t, q⟩ := (show ∃ t, u = Value.str y t from rx); cases q; exact PySem.W.kia_one PySem.W.kitx_str I.kIn True.intro e (fun z => nomatch z) h
  | flt y => obtain ⟨t, q⟩ := (show ∃ t, u = Value.float y t from rx); cases q; exact PySem.W.kia_one PySem.W.kitx_float I.kIn True.intro e (fun z => nomatch z) h
  | @lst a xs ea =>
    cases (show u = Value.ref a from rx)
    obtain ⟨_, _, n, _, h1⟩ := (show ObjOk X.prog X.w H s.heap a (.lst xs) from I.hok a _ ea)
    exact PySem.W.kia_one PySem.W.kitx_list I.kIn ⟨_, h1, rfl⟩ e (fun z => nomatch z) h
  | @frz a ob xs ea =>
    cases (show u = Value.ref a from rx)
    obtain ⟨_, _, _, n, _, h1⟩ := (show ObjOk X.prog X.w H s.heap a (.frz ob (.lst xs)) from I.hok a _ ea)
    exact PySem.W.kia_one PySem.W.kitx_list I.kIn ⟨_, h1, rfl⟩ e (fun z => nomatch z) h
  | @tup a xs ea =>
    cases (show u = Value.ref a from rx)
    obtain ⟨_, _, _, p⟩ := (show ObjOk X.prog X.w H s.heap a (.tup xs) from I.hok a _ ea)
    obtain ⟨o, h1, h2, _⟩ := p
    exact PySem.W.kia_one PySem.W.kitx_tuple I.kIn ⟨o, h1, h2⟩ e (fun z => nomatch z) h
  | @dK a kvs ea =>
    cases (show u = Value.ref a from rx)
    obtain ⟨_, _, vs, _, p⟩ := (show ObjOk X.prog X.w H s.heap a (.dK kvs) from I.hok a _ ea)
    obtain ⟨o, es, ep, h1, h2, _⟩ := p
    exact PySem.W.kia_one PySem.W.kitx_dict I.kIn ⟨o, h1, h2.1⟩ e (fun z => nomatch z) h
  | @dT a kvs ea =>
    cases (show u = Value.ref a from rx)
    obtain ⟨_, _, xs, _, o, es, ep, h1, h2, _⟩ := (show ObjOk X.prog X.w H s.heap a (.dT kvs) from I.hok a _ ea)
    exact PySem.W.kia_one PySem.W.kitx_dict I.kIn ⟨o, h1, h2.1⟩ e (fun z => nomatch z) h
  | @ins a C dx fs ea cl ha hn htk hm =>
    cases (show u = Value.ref a from rx)
    obtain ⟨mA, O, _⟩ := ins_get I.hok ea
    obtain ⟨od, J, _⟩ := O.look
    exact PySem.W.kia_one (PySem.W.kitx_own (cl.get _) cl.hd ha hn htk hm) I.kIn J e (fun z => nomatch z) h
end
end L2
namespace L2
open PySem PySem.Spec PyProof.Rows
structure Room (k : Nat) (A : Around) : Prop where
  hd : A.handled = none
  dp : A.depth + 3 * k + 5 < recursionLimit
  un : A.units + 16 * k + 200 < cLine
theorem Room.mono {j k : Nat} {A : Around} (r : Room k A) (h : j ≤ k) : Room j A := ⟨r.hd, by have := r.dp; omega, by have := r.un; omega⟩
theorem Room.deeper {k : Nat} {A : Around} (r : Room (k + 1) A) (env : Env) : Room k (A.deeper env) :=
  ⟨r.hd, by have := r.dp; show A.depth + 1 + 3 * k + 5 < _; omega, by have := r.un; show A.units + 3 + 16 * k + 200 < _; omega⟩
theorem make_depth {A : Around} {C : Addr} {us : List Value} {kw : List (Str × Value)} : (A.under (.builtin "type.__call__" ⟨.ref C :: us, kw⟩)).depth = A.depth + 1 := by
  first | rfl | simp [Around.under, Code.weight, Code.isCreation, Code.isGuard, Code.isCaller, Code.frames, Code.isFrame, guardIds]
theorem make_units {A : Around} {C : Addr} {us : List Value} {kw : List (Str × Value)} : (A.under (.builtin "type.__call__" ⟨.ref C :: us, kw⟩)).units = A.units + 1 := by
  first | rfl | simp [Around.under, Code.cUnits, Code.frames, Code.isFrame]
theorem Room.make {k : Nat} {A : Around} (r : Room (k + 1) A) (C : Addr) (us : List Value) (kw : List (Str × Value)) : Room k (A.under (.builtin "type.__call__" ⟨.ref C :: us, kw⟩)) :=
  ⟨r.hd, by have := r.dp; rw [make_depth]; omega, by have := r.un; rw [make_units]; omega⟩
theorem Room.depth {k : Nat} {A : Around} (r : Room k A) : A.depth < recursionLimit := by have := r.dp; omega
theorem Room.units {k : Nat} {A : Around} (r : Room k A) : A.units + 64 < cLine := by have := r.un; omega
def tNil : TA := fun _ H Q => Q [] H
def tCons (ta : TE) (tr : TA) : TA := fun σ H Q => ta σ H fun x H1 => tr σ H1 fun xs H2 => Q (x :: xs) H2
section
variable {X : Cx} {e : Expr} {es : List Expr} {te : TE} {t : TA} {pos : Pos}
theorem pa_nil : PA X [] tNil := fun _ _ _ _ H Q I h => Calls.spliced_nil ⟨[], H, I, .nil, h⟩
theorem pa_cons (ha : PE X e te) (hr : PA X es t) (hs : starEach (e :: es) X.env = (false, eval e X.env) :: starEach es X.env := by rfl) : PA X (e :: es) (tCons te t) := by
  intro pos pins s σ H Q I h
  rw [hs]
  show wpAny _ _ (spliced ((false, eval e X.env) :: backTo pos (starEach es X.env))) _ _ s
  refine Calls.spliced_cons (thn (ha pins s σ H _ I h) fun u s1 ⟨x, H1, I1, r1, q1⟩ => ?_)
  exact thn (hr pos pins s1 σ H1 _ I1 q1) fun us s2 ⟨xs, H2, I2, r2, q2⟩ => ⟨x :: xs, H2, I2, .cons r1 r2, q2⟩
def tTup (t : TA) : TE := fun σ H Q => t σ H fun xs H1 => xs.length ≤ sizeLine ∧ ∀ p, H1 p = none → Q (.ref p) (upd H1 p (.tup xs))
def tLst (t : TA) : TE := fun σ H Q => t σ H fun xs H1 => xs.length ≤ sizeLine ∧ ∀ p, H1 p = none → Q (.ref p) (upd H1 p (.lst xs))
theorem pe_tup {x1} (h : PA X es t) : PE X (.Tuple es x1 pos) (tTup t) := by
  intro pins s σ H Q I hq
  refine wpAny_Tuple_spliced (thn (h pos pins s σ H _ I hq) fun us s1 ⟨xs, H1, I1, r, z, q⟩ => ⟨by rw [← r.length]; exact z, ?_⟩)
  have hf : H1 s1.heap.objs.size = none := I1.hok.fresh (Nat.le_refl _)
  refine ⟨.ref s1.heap.objs.size, upd H1 s1.heap.objs.size (.tup xs), I1.laid (t' := s1.toks) (fun b u e => Heap.get?_push_of_some _ e) (Nat.le_refl _) ?_, rfl, q _ hf⟩
  exact ⟨z, us, r, ⟨_, Heap.get?_push_size _ rfl, rfl, _, rfl⟩⟩
theorem pe_lst (h : PA X es t) : PE X (.List es pos) (tLst t) := by
  intro pins s σ H Q I hq
  refine wpAny_List_spliced (thn (h pos pins s σ H _ I hq) fun us s1 ⟨xs, H1, I1, r, z, q⟩ => ⟨by rw [← r.length]; exact z, ?_⟩)
  have hf : H1 s1.heap.objs.size = none := I1.hok.fresh (Nat.le_refl _)
  refine ⟨.ref s1.heap.objs.size, upd H1 s1.heap.objs.size (.lst xs), I1.laid (t' := s1.toks) (fun b u e => Heap.get?_push_of_some _ e) (Nat.le_refl _) ?_, rfl, q _ hf⟩
  exact ⟨z, us, 0, r, Heap.get?_push_size _ rfl⟩
end
abbrev Sp := List V → Hp → VK → XK → Prop
abbrev CXT := List Env → Hp → Shared → XK → Value → Shared → Prop
structure Env0 (P : Program) (w : World) (K : PySem.W.Frag) (mg : Str → Option Value) (base : Heap) (A : Around) (outer : List Env) (s : Shared) (H : Hp) : Prop where
  frames : A.frames = some outer
  mod : Mod K mg base
  bs : ∀ b o, base.get? b = some o → s.heap.get? b = some o ∧ H b = none
  bsz : base.objs.size ≤ s.heap.objs.size
  funs : s.heap.FunFrames base outer
  frf : ∀ b ∈ frs outer, H b = none
  hok : HOk P w H s.heap
  bare : AllBare s.gens
def CE (outer : List Env) (P : Program) (w : World) (H : Hp) (s : Shared) (Q : VK) (u : Value) (s' : Shared) : Prop :=
  ∃ v H', s'.os = s.os ∧ AllBare s'.gens ∧ Un (frs outer) [] H H' s.heap s'.heap ∧ HOk P w H' s'.heap ∧ RelV v u ∧ Q v H'
def CR (CX : CXT) (outer : List Env) (P : Program) (w : World) (H : Hp) (s : Shared) (Q : VK) (E : XK) (r : Result) (s' : Shared) : Prop :=
  match r with
  | .ok (.ret u) => CE outer P w H s Q u s'
  | .ok _ => False
  | .error e => CX outer H s E e s'
structure FnOk (P : Program) (w : World) (K : PySem.W.Frag) (mg : Str → Option Value) (base : Heap) (CX : CXT) (k : Nat) (f : Addr) (fd : FuncData) (ps : List Str) (sp : Sp) : Prop where
  len : ∀ vs H Q E, sp vs H Q E → vs.length = ps.length
  run : ∀ (A : Around) (outer : List Env) (s : Shared) (H : Hp) (args : Args) (us : List Value) (vs : List V) (Q : VK) (E : XK), Room k A → Env0 P w K mg base A outer s H → BindsTo s fd args (ps.zip us) → Vals vs us → sp vs H Q E →
    codeAny (model P w) A (.call (.ref f) args) (CR CX outer P w H s Q E) s
theorem FnOk.mono {P : Program} {w : World} {K : PySem.W.Frag} {mg : Str → Option Value} {base : Heap} {CX : CXT} {j k : Nat} {f : Addr} {fd : FuncData} {ps : List Str} {sp : Sp} (F : FnOk P w K mg base CX j f fd ps sp) (h : j ≤ k) :
    FnOk P w K mg base CX k f fd ps sp := ⟨F.len, fun A outer s H args us vs Q E hr => F.run A outer s H args us vs Q E (hr.mono h)⟩
theorem Env0.make {P : Program} {w : World} {K : PySem.W.Frag} {mg : Str → Option Value} {base : Heap} {A : Around} {outer : List Env} {s : Shared} {H : Hp} (e : Env0 P w K mg base A outer s H) (C : Addr) (us : List Value) (kw : List (Str × Value)) :
    Env0 P w K mg base (A.under (.builtin "type.__call__" ⟨.ref C :: us, kw⟩)) outer s H := ⟨by first | exact e.frames | (simpa [Around.under, Code.envs, Code.isFrame, pushEnvs] using e.frames), e.mod, e.bs, e.bsz, e.funs, e.frf, e.hok, e.bare⟩
section
variable {X : Cx} {pins : List (Addr × Obj)} {σ : St} {H : Hp} {s s' : Shared}
theorem Inv.env0 (I : Inv X pins σ H s) : Env0 X.prog X.w X.K X.mg X.base X.A X.stack s H :=
  ⟨I.ok.frames, I.ok.mod, I.bs, Nat.le_trans I.ok.bsz I.sz, I.stack, I.stkFree, I.hok, I.bare⟩
theorem Inv.after {Q : VK} {u : Value} (I : Inv X pins σ H s) (h : CE X.stack X.prog X.w H s Q u s') : EP X pins σ Q u s' := by
  obtain ⟨v, H', os, bare, un, hok, r, q⟩ := h
  obtain ⟨hh, g, d, t, os'⟩ := s'
  obtain rfl : os' = s.os := os
  exact ⟨v, H', I.call (h' := hh) (g' := g) (d' := d) (t' := t) (ch := []) un hok bare (fun b z => absurd z (by simp)), r, q⟩
end
def tCall (sp : Sp) (dvs : List V) (E : XK) (t : TA) : TE := fun σ H Q => t σ H fun vs H1 => sp (vs ++ dvs) H1 Q E
def tMeth (C : Addr) (m : Str) (sp : Sp) (dvs : List V) (E : XK) (ta : TE) (t : TA) : TE := fun σ H Q => ta σ H fun x H1 => ∃ a dx fs, x = .ref a ∧ H1 a = some (.ins C dx fs) ∧ fs.lookup m = none ∧
  t σ H1 fun vs H2 => sp (x :: (vs ++ dvs)) H2 Q E
def tMake (C : Addr) (sp : Sp) (dvs : List V) (E : XK) (t : TA) : TE := fun σ H Q => t σ H fun vs H1 => ∀ x dx, H1 x = none → H1 dx = none → dx ≠ x →
  sp (.ref x :: (vs ++ dvs)) (upd (upd H1 dx (.own x)) x (.ins C dx [])) (fun v H2 => v = .non ∧ Q (.ref x) H2) E
def Binds (K : PySem.W.Frag) (fd : FuncData) (ps : List Str) (ds : List Value) : Prop :=
  ∀ (s : Shared) (us : List Value), K.In s.heap → (us ++ ds).length = ps.length → BindsTo s fd ⟨us, []⟩ (ps.zip (us ++ ds))
theorem Binds.all {K : PySem.W.Frag} {fd : FuncData} {ps : List Str} (h : ∀ us : List Value, us.length = ps.length → bindArgs fd ⟨us, []⟩ = pure (ps.zip us)) : Binds K fd ps [] := fun s us _ hl => by
  rw [List.append_nil] at hl ⊢
  exact .of_eq (h us hl)
def Passes (CX : CXT) (X : Cx) (E : XK) : Prop := ∀ (pins : List (Addr × Obj)) (σ : St) (H : Hp) (s : Shared) (e : Value) (s' : Shared), Inv X pins σ H s → CX X.stack H s E e s' → X.xe e s'
section
variable {X : Cx} {CX : CXT} {k : Nat} {f C : Addr} {fd : FuncData} {ps : List Str} {sp : Sp} {dvs : List V} {ds : List Value} {E : XK} {x m : Str} {p pos apos : Pos} {e o : Expr} {es : List Expr} {ta : TE} {t : TA}
theorem run_fn {pins : List (Addr × Obj)} {σ : St} {H : Hp} {s : Shared} {Q : VK} {us : List Value} {vs : List V} (F : FnOk X.prog X.w X.K X.mg X.base CX k f fd ps sp) (hr : Room k X.A) (hb : Binds X.K fd ps ds) (hd : Vals dvs ds) (hx : Passes CX X E)
    (I : Inv X pins σ H s) (r : Vals vs us) (h : sp (vs ++ dvs) H Q E) : wpAny (model X.prog X.w) X.A (call (.ref f) us) (EP X pins σ Q) X.xe s := by
  have r2 : Vals (vs ++ dvs) (us ++ ds) := r.append hd
  have hl : (us ++ ds).length = ps.length := by rw [← r2.length]; exact F.len _ _ _ _ h
  refine wpAny_call (codeAny_mono (F.run X.A X.stack s H ⟨us, []⟩ (us ++ ds) (vs ++ dvs) Q E hr I.env0 (hb s us I.kIn hl) r2 h) fun r s' hq => ?_)
  cases r with
  | error e => exact hx pins σ H s e s' I hq
  | ok fl =>
    cases fl with
    | ret u => exact I.after hq
    | next => exact False.elim hq
    | brk => exact False.elim hq
    | cont => exact False.elim hq
theorem pe_call (F : FnOk X.prog X.w X.K X.mg X.base CX k f fd ps sp) (hr : Room k X.A) (hg : Gl X x) (hm : X.mg x = some (.ref f)) (hk : PySem.W.keepIn X.K (.ref f) = true) (hb : Binds X.K fd ps ds) (hd : Vals dvs ds) (hx : Passes CX X E)
    (ha : PA X (e :: es) t) (hdb : (x == ("__debug__" : Str)) = false := by decide) (he : starEach (e :: es) X.env = (false, eval e X.env) :: starEach es X.env := by rfl) (hpl : (backTo pos (starEach es X.env)).any (·.1) = false := by rfl) :
    PE X (.Call (.Name x p) (e :: es) [] pos) (tCall sp dvs E t) := by
  intro pins s σ H Q I h
  refine wpAny_Call_Name_kw (ld_glob I hg hm ?_ hdb)
  refine PySem.W.callWith_K (h₀ := X.base) I.ok.mod.kin hk (thn (ha pos pins s σ H _ I h) fun us s1 ⟨vs, H1, I1, r, q⟩ => ⟨I1.kIn, ?_⟩) he hpl
  exact run_fn F hr hb hd hx I1 r q
structure Mk (K : PySem.W.Frag) (C f : Addr) : Prop where
  makes : PySem.W.makesIn K C = true
  init : PySem.W.findIn K (.ref C) "__init__" = some (some (.ref f))
  fn : PySem.W.isFn K (.ref f) = true
  kp : PySem.W.keepIn K (.ref C) = true
theorem run_make {pins : List (Addr × Obj)} {σ : St} {H : Hp} {s : Shared} {Q : VK} {us : List Value} {vs : List V} (M : Mk X.K C f) (F : FnOk X.prog X.w X.K X.mg X.base CX k f fd ps sp) (hr : Room (k + 1) X.A) (hb : Binds X.K fd ps ds) (hd : Vals dvs ds)
    (hx : Passes CX X E) (I : Inv X pins σ H s) (r : Vals vs us)
    (h : ∀ x dx, H x = none → H dx = none → dx ≠ x → sp (.ref x :: (vs ++ dvs)) (upd (upd H dx (.own x)) x (.ins C dx [])) (fun v H2 => v = .non ∧ Q (.ref x) H2) E) :
    wpAny (model X.prog X.w) X.A (call (.ref C) us) (EP X pins σ Q) X.xe s := by
  have hq := h (s.heap.objs.size + 1) s.heap.objs.size (I.hok.fresh (Nat.le_succ _)) (I.hok.fresh (Nat.le_refl _)) (Nat.ne_of_lt (Nat.lt_succ_self _))
  have I2 := Inv.made (C := C) I
  have r2 : Vals (V.ref (s.heap.objs.size + 1) :: (vs ++ dvs)) (Value.ref (s.heap.objs.size + 1) :: (us ++ ds)) := .cons rfl (r.append hd)
  have hl : (Value.ref (s.heap.objs.size + 1) :: us ++ ds).length = ps.length := by
    have e := r2.length
    rw [F.len _ _ _ _ hq] at e
    exact e.symm
  refine wpAny_call (make_map (f := f) I.kIn M.makes M.init (beq_iff_eq.mp M.fn) (codeAny_mono (F.run _ X.stack _ _ ⟨Value.ref (s.heap.objs.size + 1) :: us, []⟩ (Value.ref (s.heap.objs.size + 1) :: (us ++ ds)) _ _ E (hr.make C us [])
    (I2.env0.make C us []) (hb _ (Value.ref (s.heap.objs.size + 1) :: us) I2.kIn hl) r2 hq) fun r s' hq' => ?_))
  cases r with
  | error e => exact hx pins σ _ _ e s' I2 hq'
  | ok fl =>
    cases fl with
    | ret u =>
      obtain ⟨v, H', I3, rv, ev, q3⟩ := I2.after hq'
      subst ev
      exact ⟨rv, ⟨V.ref (s.heap.objs.size + 1), H', I3, rfl, q3⟩⟩
    | next => exact False.elim hq'
    | brk => exact False.elim hq'
    | cont => exact False.elim hq'
theorem pe_make (M : Mk X.K C f) (F : FnOk X.prog X.w X.K X.mg X.base CX k f fd ps sp) (hr : Room (k + 1) X.A) (hg : Gl X x) (hm : X.mg x = some (.ref C)) (hb : Binds X.K fd ps ds) (hd : Vals dvs ds) (hx : Passes CX X E)
    (ha : PA X (e :: es) t) (hdb : (x == ("__debug__" : Str)) = false := by decide) (he : starEach (e :: es) X.env = (false, eval e X.env) :: starEach es X.env := by rfl) (hpl : (backTo pos (starEach es X.env)).any (·.1) = false := by rfl) :
    PE X (.Call (.Name x p) (e :: es) [] pos) (tMake C sp dvs E t) := by
  intro pins s σ H Q I h
  refine wpAny_Call_Name_kw (ld_glob I hg hm ?_ hdb)
  refine PySem.W.callWith_K (h₀ := X.base) I.ok.mod.kin M.kp (thn (ha pos pins s σ H _ I h) fun us s1 ⟨vs, H1, I1, r, q⟩ => ⟨I1.kIn, ?_⟩) he hpl
  exact run_make M F hr hb hd hx I1 r q
end
def PK (X : Cx) (kws : List Keyword) (t : TA) : Prop :=
  ∀ (pos : Pos) (pins : List (Addr × Obj)) (s : Shared) (σ : St) (H : Hp) (Q : List V → Hp → Prop), Inv X pins σ H s → t σ H Q → wpAny (model X.prog X.w) X.A (evalAll ((backToKw pos (keywordEach kws X.env)).map (·.2))) (AP X pins σ Q) X.xe s
section
variable {X : Cx} {CX : CXT} {k : Nat} {f C : Addr} {fd : FuncData} {ps ks : List Str} {sp : Sp} {E : XK} {x m : Str} {p pos apos kpos : Pos} {e o : Expr} {es : List Expr} {kws : List Keyword} {te ta : TE} {t tk : TA} {nm : Option Str}
structure KBinds (K : PySem.W.Frag) (fd : FuncData) (ps ks : List Str) (g : List Value → List Value → List Value) (gV : List V → List V → List V) : Prop where
  to : ∀ (s : Shared) (us ws : List Value), K.In s.heap → (g us ws).length = ps.length → BindsTo s fd ⟨us, ks.zip ws⟩ (ps.zip (g us ws))
  rel : ∀ {vs : List V} {us : List Value} {zs : List V} {ws : List Value}, Vals vs us → Vals zs ws → Vals (gV vs zs) (g us ws)
def tCallK (sp : Sp) (gV : List V → List V → List V) (E : XK) (t tk : TA) : TE := fun σ H Q => t σ H fun vs H1 => tk σ H1 fun zs H2 => sp (gV vs zs) H2 Q E
variable {g : List Value → List Value → List Value} {gV : List V → List V → List V}
end
structure FnScope (N P : List Str) (sc : Scope) : Prop where
  kind : sc.kind = .function
  co : sc.isCoroutine = false
  gen : sc.isGenerator = false
  nd : N.Nodup
  pre : N.take P.length = P
  par : ∀ x ∈ P, sc.names.lookup x = some .local ∨ sc.names.lookup x = some .cell
  nofree : ∀ y ∈ sc.names, y.2 ≠ .free
theorem bindL_out {kindOf : Str → Option NameKind} {x : Str} : ∀ {binds : List (Str × Value)} {m : Str → Option Value}, (∀ v, (x, v) ∉ binds) → bindL kindOf binds m x = m x
  | [], _, _ => rfl
  | (n, v) :: r, m, h => by
    unfold bindL
    rw [bindL_out fun w hw => h w (List.mem_cons_of_mem _ hw)]
    split
    · have : x ≠ n := by rintro rfl; exact h v List.mem_cons_self
      simp [this]
    · rfl
theorem bindC_out {kindOf : Str → Option NameKind} {x : Str} : ∀ {binds : List (Str × Value)} {m : Str → Option Value}, (∀ v, (x, v) ∉ binds) → bindC kindOf binds m x = m x
  | [], _, _ => rfl
  | (n, v) :: r, m, h => by
    unfold bindC
    rw [bindC_out fun w hw => h w (List.mem_cons_of_mem _ hw)]
    split
    · rfl
    · have : x ≠ n := by rintro rfl; exact h v List.mem_cons_self
      simp [this]
theorem bindL_get {kindOf : Str → Option NameKind} {x : Str} {v : Value} : ∀ {P : List Str} {vs : List Value} {i : Nat} {m : Str → Option Value}, P.Nodup → P[i]? = some x → vs[i]? = some v → kindOf x = some .local →
    bindL kindOf (P.zip vs) m x = some v
  | [], _, _, _, _, h, _, _ => by simp at h
  | _ :: _, [], _, _, _, _, h, _ => by simp at h
  | p :: P, w :: vs, 0, m, nd, h1, h2, hk => by
    simp at h1 h2; subst h1; subst h2
    show bindL kindOf ((p, w) :: P.zip vs) m p = _
    unfold bindL
    rw [bindL_out fun v hv => (List.nodup_cons.mp nd).1 (List.of_mem_zip hv).1, if_pos hk]
    simp
  | p :: P, w :: vs, i + 1, m, nd, h1, h2, hk => by
    show bindL kindOf ((p, w) :: P.zip vs) m x = _
    unfold bindL
    exact bindL_get (i := i) (List.nodup_cons.mp nd).2 (by simpa using h1) (by simpa using h2) hk
theorem bindC_get {kindOf : Str → Option NameKind} {x : Str} {v : Value} : ∀ {P : List Str} {vs : List Value} {i : Nat} {m : Str → Option Value}, P.Nodup → P[i]? = some x → vs[i]? = some v → kindOf x ≠ some .local →
    bindC kindOf (P.zip vs) m x = some v
  | [], _, _, _, _, h, _, _ => by simp at h
  | _ :: _, [], _, _, _, _, h, _ => by simp at h
  | p :: P, w :: vs, 0, m, nd, h1, h2, hk => by
    simp at h1 h2; subst h1; subst h2
    show bindC kindOf ((p, w) :: P.zip vs) m p = _
    unfold bindC
    rw [bindC_out fun v hv => (List.nodup_cons.mp nd).1 (List.of_mem_zip hv).1, if_neg hk]
    simp
  | p :: P, w :: vs, i + 1, m, nd, h1, h2, hk => by
    show bindC kindOf ((p, w) :: P.zip vs) m x = _
    unfold bindC
    exact bindC_get (i := i) (List.nodup_cons.mp nd).2 (by simpa using h1) (by simpa using h2) hk
def start (N : List Str) (vs : List V) : St := vs.map some ++ List.replicate (N.length - vs.length) none
def cxOf (CX : CXT) (P : Program) (w : World) (K : PySem.W.Frag) (mg : Str → Option Value) (base : Heap) (N : List Str) (qual : Str) (scope : Scope) (f : Addr) (cd : Value) (A : Around) (outer : List Env) (s : Shared) (H : Hp) (E : XK) : Cx where
  prog := P
  w := w
  K := K
  mg := mg
  base := base
  A := A.deeper (envOfC qual scope s.heap.objs.size f cd)
  N := N
  s₀ := s
  H₀ := H
  env := envOfC qual scope s.heap.objs.size f cd
  outer := outer
  stack := envOfC qual scope s.heap.objs.size f cd :: outer
  ex := []
  calm := true
  fn := fun _ => true
  pn := []
  xe := fun e s' => wpAny (model P w) (A.deeper (envOfC qual scope s.heap.objs.size f cd)) (leaving (envOfC qual scope s.heap.objs.size f cd) e) (fun _ s'' => CX outer H s E e s'') (fun e' s'' => CX outer H s E e' s'') s'
theorem cell_has {sc : Scope} {n : Nat} {x : Str} (h : sc.names.lookup x = some .cell) : ∃ c, (cellsFrom n sc.names []).lookup x = some c := by
  have q := PySem.W.cellsFrom_some sc.names n [] (.inl h)
  exact Option.isSome_iff_exists.mp q
theorem inv_start {CX : CXT} {P : Program} {w : World} {K : PySem.W.Frag} {mg : Str → Option Value} {base : Heap} {N ps : List Str} {qual : Str} {scope : Scope} {f : Addr} {cd : Value} {A : Around} {outer : List Env} {s s1 : Shared} {H : Hp} {E : XK} {us : List Value} {vs : List V}
    (S : FnScope N ps scope) (hd : A.handled = none) (e0 : Env0 P w K mg base A outer s H) (hl : vs.length = ps.length) (r : Vals vs us)
    (x : InCallC s s.heap.objs.size (bindL (envOfC qual scope s.heap.objs.size f cd).kindOf (ps.zip us) fun _ => none) (cellsFrom (s.heap.objs.size + 1) scope.names []) (bindC (envOfC qual scope s.heap.objs.size f cd).kindOf (ps.zip us) fun _ => none) s1) :
    Inv (cxOf CX P w K mg base N qual scope f cd A outer s H E) [] (start N vs) H s1 := by
  have hpl : ps.length ≤ N.length := by have := congrArg List.length S.pre; rw [List.length_take] at this; omega
  obtain ⟨h1, tk, rfl, hk⟩ := x.done
  have noA : ∀ b : Addr, b ∉ (cxOf CX P w K mg base N qual scope f cd A outer s H E).ex := fun b z => absurd (show b ∈ ([] : List Addr) from z) (by simp)
  refine ⟨⟨e0.mod, S.kind, rfl, rfl, Nat.le_refl _, fun y z c h1 h2 => ?_, fun y hy => ?_, fun y c _ h => ?_, fun _ => hd, Around.frames_deeper e0.frames, .inr ⟨rfl, rfl⟩, fun b z => absurd z (noA b), e0.bs, e0.bsz, fun b _ _ => noA b, fun b z => absurd z (noA b), e0.funs, e0.frf⟩,
    rfl, e0.bare, Un.kept hk, ⟨_, x.toInCall.ns, fun i y v h1 h2 h3 => ?_⟩, fun y c h => ⟨_, x.cell y c h⟩, e0.hok.fresh (Nat.le_refl _), fun y c h => ?_, fun p hp => absurd (show p ∈ ([] : List (Addr × Obj)) from hp) (by simp), e0.hok.kept hk, ?_⟩
  · exact name_of_addr x.apart (PySem.mem_of_lookup h1) (PySem.mem_of_lookup h2)
  · have hy : scope.names.lookup y = some .cell ∨ scope.names.lookup y = some .free := hy
    rcases hy with hy | hy
    · exact cell_has hy
    · exact absurd rfl (S.nofree _ (PySem.mem_of_lookup hy))
  · exact Nat.le_of_lt (x.above y c (PySem.mem_of_lookup h))
  · have hi : i < vs.length := by
      unfold start at h2
      by_cases hi : i < vs.length
      · exact hi
      · rw [List.getElem?_append_right (by simpa using hi)] at h2
        rw [List.getElem?_replicate] at h2
        split at h2 <;> cases h2
    have ha : vs[i]? = some v := by
      unfold start at h2
      rw [List.getElem?_append_left (by simpa using hi), List.getElem?_map] at h2
      cases e : vs[i]? with
      | none => rw [e] at h2; cases h2
      | some a => rw [e] at h2; cases h2; rfl
    obtain ⟨u, hu, rv⟩ := r.get ha
    have hp : ps[i]? = some y := by
      rw [← S.pre, List.getElem?_take_of_lt (by omega)]; exact h1
    have ndP : ps.Nodup := by rw [← S.pre]; exact S.nd.sublist (List.take_sublist _ _)
    refine ⟨u, rv, ?_⟩
    rcases S.par y (List.mem_of_getElem? hp) with k | k
    · exact .inl ⟨k, bindL_get ndP hp hu k⟩
    · obtain ⟨c, e⟩ := cell_has (n := s.heap.objs.size + 1) k
      refine .inr ⟨.inl k, c, e, ?_⟩
      have q := x.cell y c e
      rw [bindC_get ndP hp hu (by show scope.names.lookup y ≠ _; rw [k]; decide)] at q
      exact q
  · exact e0.hok.fresh (Nat.le_of_lt (x.above y c (PySem.mem_of_lookup h)))
  · unfold start
    show _ = N.length
    rw [List.length_append, List.length_map, List.length_replicate]
    omega
theorem fn_of {CX : CXT} {P : Program} {w : World} {K : PySem.W.Frag} {mg : Str → Option Value} {base : Heap} {k : Nat} {f : Addr} {name qual : Str} {params : Arguments} {body : List Stmt} {scope : Scope} {dV kV doc pm cdv ct oc : Value} {an od : Option Addr}
    {osl : Array (Option Value)} {N ps : List Str} {sp : Sp} (lk : K.lookup f = some ⟨oc, od, .func (PySem.W.fnOf name qual params body scope dV kV doc pm an cdv ct), osl⟩) (hcd : PySem.W.codeIn K cdv qual = true) (S : FnScope N ps scope)
    (len : ∀ vs H Q E, sp vs H Q E → vs.length = ps.length)
    (hbody : ∀ (A : Around) (outer : List Env) (s : Shared) (H : Hp) (vs : List V) (Q : VK) (E : XK), Room k (A.deeper (envOfC qual scope s.heap.objs.size f cdv)) → sp vs H Q E →
      ∃ t, PSs (cxOf CX P w K mg base N qual scope f cdv A outer s H E) body t ∧ t { nx := fun _ H' => Q .non H', rt := Q } (start N vs) H) :
    FnOk P w K mg base CX (k + 1) f (PySem.W.fnOf name qual params body scope dV kV doc pm an cdv ct) ps sp := by
  refine ⟨len, fun A outer s H args us vs Q E hr e0 hb r hsp => ?_⟩
  have hl := len _ _ _ _ hsp
  have KX : K.In s.heap := e0.mod.kin.keeps fun b o e => (e0.bs b o e).1
  have lim : s.heap.NoLimit := e0.mod.nolimit.keeps fun b o e => (e0.bs b o e).1
  have hkind : ∀ y ∈ ps.zip us, scope.names.lookup y.1 = some .local ∨ (scope.names.lookup y.1 = some .cell ∧ ((cellsFrom (s.heap.objs.size + 1) scope.names []).lookup y.1).isSome = true) := fun ⟨n, v⟩ hy => by
    rcases S.par n (List.of_mem_zip hy).1 with q | q
    · exact .inl q
    · exact .inr ⟨q, PySem.W.cellsFrom_some _ _ _ (.inl q)⟩
  refine codeAny_call_function hr.depth (KX _ _ lk) rfl S.co S.gen rfl (PySem.W.codeRec_of KX hcd) (hb _ _ _ _ ?_)
  refine wpAny_newFunctionEnv_cells S.kind hkind fun env he s1 x => ?_
  subst he
  refine ⟨lim.keeps x.toInCall.keep, codeAny_func ?_⟩
  obtain ⟨t, ht, hq⟩ := hbody A outer s H vs Q E (hr.deeper _) hsp
  have I : Inv (cxOf CX P w K mg base N qual scope f cdv A outer s H E) [] (start N vs) H s1 := inv_start S hr.hd e0 hl r x
  refine wpAny_mono (ht [] s1 (start N vs) H _ I hq) (fun fl s' hs => ?_) fun e s' hs => hs
  have fin : ∀ {σ' : St} {H' : Hp} {v : V} {u : Value}, Inv (cxOf CX P w K mg base N qual scope f cdv A outer s H E) [] σ' H' s' → RelV v u → Q v H' → CE outer P w H s Q u s' :=
    fun {σ' H' v u} J rv q => ⟨v, H', J.os, J.bare, J.base, J.hok, rv, q⟩
  cases fl with
  | ret u =>
    obtain ⟨v, σ', H', J, rv, q⟩ := hs
    exact fin J rv q
  | next =>
    obtain ⟨σ', H', J, q⟩ := hs
    exact fin (v := V.non) (u := Value.none) J rfl q
  | brk =>
    obtain ⟨_, _, _, q⟩ := hs
    exact False.elim q
  | cont =>
    obtain ⟨_, _, _, q⟩ := hs
    exact False.elim q
end L2
namespace L2
open PySem PySem.Spec PyProof.Rows
section
variable {X : Cx} {x : Str} {p pos : Pos} {e : Expr} {es : List Expr} {t : TA} {id T : String} {r : List V → Hp → VK → Prop}
def tCB (r : List V → Hp → VK → Prop) (t : TA) : TE := fun σ H Q => t σ H fun vs H1 => r vs H1 Q
theorem pe_callB (hc : CallR X (.builtin id) r) (hg : Gl X x) (hm : X.mg x = none) (hv : bootBuiltins x = some (.builtin id)) (ha : PA X (e :: es) t) (hn : x ≠ "__name__" := by decide) (hdb : (x == ("__debug__" : Str)) = false := by decide)
    (he : starEach (e :: es) X.env = (false, eval e X.env) :: starEach es X.env := by rfl) (hpl : (backTo pos (starEach es X.env)).any (·.1) = false := by rfl) : PE X (.Call (.Name x p) (e :: es) [] pos) (tCB r t) := by
  intro pins s σ H Q I h
  refine wpAny_Call_Name_kw (ld_blt I hg hm hv ?_ hn hdb)
  exact PyProof.Rows.callWith_builtin1 (thn (ha pos pins s σ H _ I h) fun us s1 ⟨vs, H1, I1, r1, q1⟩ => hc pins s1 σ H1 vs us Q I1 r1 q1) he hpl
theorem pe_callTy (hc : CallR X (.type T) r) (hg : Gl X x) (hm : X.mg x = none) (hv : bootBuiltins x = some (.type T)) (ha : PA X (e :: es) t) (hn : x ≠ "__name__" := by decide) (hdb : (x == ("__debug__" : Str)) = false := by decide)
    (he : starEach (e :: es) X.env = (false, eval e X.env) :: starEach es X.env := by rfl) (hpl : (backTo pos (starEach es X.env)).any (·.1) = false := by rfl) : PE X (.Call (.Name x p) (e :: es) [] pos) (tCB r t) := by
  intro pins s σ H Q I h
  refine wpAny_Call_Name_kw (ld_blt I hg hm hv ?_ hn hdb)
  exact PyProof.Rows.callWith_type1 (thn (ha pos pins s σ H _ I h) fun us s1 ⟨vs, H1, I1, r1, q1⟩ => hc pins s1 σ H1 vs us Q I1 r1 q1) he hpl
end
end L2
namespace HT
open PySem PyProof.Rows
def lexLt : List Int → List Int → Bool
  | [], [] => false
  | [], _ :: _ => true
  | _ :: _, [] => false
  | x :: xs, y :: ys => if x = y then lexLt xs ys else decide (x < y)
section
open PySem.SeqAt
open PySem.AutoSeq1 (wpAny_loadPart')
open PySem.MeetsSeq PySem.MeetsSeq2 PySem.MeetsSeq3
end
section
variable {prog : Program} {w : World} {A : Around} {E : Value → Shared → Prop} {s : Shared}
theorem cat_tup {t b : Addr} {vs ws : List Value} {Q : Value → Shared → Prop} (ht : IsTup s.heap t vs.toArray) (hb : IsTup s.heap b ws.toArray) (hv : vs ≠ [])
    (h1 : ws = [] → Q (.ref t) s) (h2 : ws ≠ [] → Q (.ref s.heap.objs.size) { s with heap := s.heap.push { cls := .type "tuple", data := .seq (vs ++ ws).toArray } })
    (hsz : vs.length + ws.length ≤ sizeLine) : wpAny (model prog w) A (binaryOp .Add (.ref t) (.ref b)) Q E s := by
  obtain ⟨⟨cls, dd, data, sl⟩, ho, hc, n, hd⟩ := id ht
  obtain ⟨⟨cls2, dd2, data2, sl2⟩, ho2, hc2, n2, hd2⟩ := id hb
  simp only at hc hd hc2 hd2
  subst hc hd hc2 hd2
  have e : vs.toArray ++ ws.toArray = (vs ++ ws).toArray := by simp
  by_cases hw : ws = []
  · exact concat_meets ⟨_, ho, rfl⟩ ⟨_, ho2, rfl⟩ noFill_tuple_add seq_tuple_add PySem.F.slot_tuple_add PySem.F.entry_tuple_add (PySem.F.args_tuple_add_2 _ _)
      (tuple_addW1 t b vs.toArray ws.toArray n n2 dd dd2 sl sl2 (by simpa using hv) (by simp [hw])) ⟨ho, ho2, h1 hw⟩
  · refine concat_meets ⟨_, ho, rfl⟩ ⟨_, ho2, rfl⟩ noFill_tuple_add seq_tuple_add PySem.F.slot_tuple_add PySem.F.entry_tuple_add (PySem.F.args_tuple_add_2 _ _)
      (tuple_addW2 t b vs.toArray ws.toArray n n2 dd dd2 sl sl2 (by simpa using hv) (by simpa using hw) (by rw [List.size_toArray, List.size_toArray]; exact hsz)) ⟨ho, ho2, ?_⟩
    rw [e]
    exact h2 hw
def sIx (n d : Nat) : Option Int → Nat
  | none => d
  | some v => if v < 0 then (v + (n : Int)).toNat else min v.toNat n
theorem sIx_nat (n d k : Nat) : sIx n d (some (k : Int)) = min k n := by
  show (if (k : Int) < 0 then ((k : Int) + (n : Int)).toNat else min (k : Int).toNat n) = min k n
  rw [if_neg (by omega), Int.toNat_natCast]
theorem sIx_le (n d : Nat) (hd : d ≤ n) (o : Option Int) : sIx n d o ≤ n := by
  cases o with
  | none => exact hd
  | some v =>
    show (if v < 0 then (v + (n : Int)).toNat else min v.toNat n) ≤ n
    by_cases hv : v < 0
    · rw [if_pos hv]; omega
    · rw [if_neg hv]; exact Nat.min_le_right _ _
theorem clip_eq (v : Int) (n d : Nat) : (if v < 0 then max (v + (n : Int)) 0 else min v (n : Int)) = ((sIx n d (some v) : Nat) : Int) := by
  show (if v < 0 then max (v + (n : Int)) 0 else min v (n : Int)) = (((if v < 0 then (v + (n : Int)).toNat else min v.toNat n) : Nat) : Int)
  by_cases hv : v < 0
  · simp only [if_pos hv]; omega
  · simp only [if_neg hv]; omega
theorem adjust_gen (lo hi : Option Int) (n : Nat) : Builtin.Slice.sliceAdjust lo hi 1 (n : Int) = (((sIx n 0 lo : Nat) : Int), ((sIx n n hi : Nat) : Int)) := by
  have h1 : ¬ ((1 : Int) < 0) := by omega
  unfold Builtin.Slice.sliceAdjust
  simp only [h1, if_false]
  refine Prod.ext ?_ ?_
  · cases lo with
    | none => rfl
    | some v => exact clip_eq v n 0
  · cases hi with
    | none => rfl
    | some v => exact clip_eq v n n
theorem places_gen (i j : Nat) : Builtin.Slice.slicePlaces (i : Int) (j : Int) 1 = j - i := by
  unfold Builtin.Slice.slicePlaces
  have h1 : (1 : Int) > 0 := by omega
  simp only [h1, if_true, Int.ediv_one]
  split <;> omega
theorem slicePart_ {v : Value} {o : Option Int} {Q : Option Int → Shared → Prop} (p : IsPart v o) (h : Q o s) : wpAny (model prog w) A (Builtin.Slice.slicePartIndex v) Q E s := by
  cases p with
  | none => exact slicePart_none h
  | int i t => exact slicePart_int h
theorem sliceApplied_gen {sl : Addr} {vl vu : Value} {lo hi : Option Int} {n : Nat} {Q : Int × Int × Nat → Shared → Prop} (hs : s.heap.IsSliceOf sl vl vu .none) (pl : IsPart vl lo) (pu : IsPart vu hi)
    (h : Q (((sIx n 0 lo : Nat) : Int), 1, sIx n n hi - sIx n 0 lo) s) : wpAny (model prog w) A (Builtin.Slice.sliceApplied (.ref sl) (pure (n : Int))) Q E s := by
  obtain ⟨os, hos, hcs, hds⟩ := id hs
  unfold Builtin.Slice.sliceApplied Builtin.Slice.sliceFields
  refine wpAny_bind (wpAny_bind (wpAny_field hos hds (x := vl) rfl (wpAny_bind (wpAny_field hos hds (x := vu) rfl (wpAny_bind (wpAny_field hos hds (x := .none) rfl (wpAny_pure ?_)))))))
  refine wpAny_bind (slicePart_none ?_)
  show wpAny _ _ (if ((1 : Int) == 0) = true then _ else _) _ _ s
  rw [if_neg (by decide)]
  refine wpAny_bind (slicePart_ pl (wpAny_bind (slicePart_ pu (wpAny_bind (wpAny_pure ?_)))))
  show wpAny _ _ (match Builtin.Slice.sliceAdjust lo hi 1 (n : Int) with | (lo, hi) => pure (lo, (1 : Int), Builtin.Slice.slicePlaces lo hi 1)) _ _ s
  rw [adjust_gen lo hi n]
  show wpAny _ _ (pure (((sIx n 0 lo : Nat) : Int), (1 : Int), Builtin.Slice.slicePlaces ((sIx n 0 lo : Nat) : Int) ((sIx n n hi : Nat) : Int) 1)) _ _ s
  rw [places_gen]
  exact wpAny_pure h
theorem pick_gen (xs : Array Value) (i k : Nat) : ((List.range k).filterMap fun (m : Nat) => xs[((i : Int) + (m : Int) * 1).toNat]?).toArray = ((xs.toList.drop i).take k).toArray := by
  have e : (fun (m : Nat) => xs[((i : Int) + (m : Int) * 1).toNat]?) = fun m => xs[i + m]? := by
    funext m
    have : ((i : Int) + (m : Int) * 1).toNat = i + m := by omega
    rw [this]
  rw [e]
  have := pick_run xs i k
  rw [List.filterMap_map] at this
  have e2 : ((fun x => xs[x]?) ∘ fun x => i + x) = fun m => xs[i + m]? := rfl
  rw [e2] at this
  rw [this]
theorem getItem_tuple_cut {t sl : Addr} {items : Array Value} {vl vu : Value} {lo hi : Option Int} {Q : Value → Shared → Prop} (ht : IsTup s.heap t items) (hs : s.heap.IsSliceOf sl vl vu .none) (pl : IsPart vl lo) (pu : IsPart vu hi)
    (hw : ¬ (sIx items.size 0 lo = 0 ∧ sIx items.size items.size hi = items.size))
    (h : Q (.ref s.heap.objs.size) { s with heap := s.heap.push { cls := .type "tuple", data := .seq ((items.toList.drop (sIx items.size 0 lo)).take (sIx items.size items.size hi - sIx items.size 0 lo)).toArray } })
    (hsz : items.size ≤ sizeLine) : wpAny (model prog w) A (getItem (.ref t) (.ref sl)) Q E s := by
  have htake : sizeOk (.seq ((items.toList.drop (sIx items.size 0 lo)).take (sIx items.size items.size hi - sIx items.size 0 lo)).toArray) := by
    show ((items.toList.drop (sIx items.size 0 lo)).take (sIx items.size items.size hi - sIx items.size 0 lo)).toArray.size ≤ sizeLine
    rw [List.size_toArray, List.length_take, List.length_drop, Array.length_toList]
    omega
  have hj : sIx items.size items.size hi ≤ items.size := sIx_le _ _ (Nat.le_refl _) hi
  obtain ⟨os, hos, hcs, hds⟩ := id hs
  have hTs : s.TypeIs (.ref sl) "slice" := ⟨os, hos, hcs⟩
  unfold getItem
  try with_reducible refine wpAny_holding ?_
  first | refine wpAny_bind (wpAny_pure ?_) | skip
  refine wpAny_bind (wpAny_sequenceKey ht.typeIs (by decide) ?_)
  refine wpAny_bind (wpAny_callSpecial?_slot (name := Str.ofString "__getitem__") ht.typeIs PyProof.Rows.slot_tuple_getitem
    (wpAny_call_entry PyProof.Rows.slot_tuple_getitem ht.typeIs entry_tuple_getitem ?_ (args_tuple_getitem _ _)))
  show wpAny _ _ (Builtin.Tuple.tupleItemsOf (.ref t) >>= _) _ _ s
  refine wpAny_bind (tupleItemsOf_ ht ?_)
  refine wpAny_bind (wpAny_typeOf hTs ?_)
  rw [if_pos (by decide)]
  refine wpAny_bind (sliceApplied_gen hs pl pu ?_)
  have hno : ¬ ((((sIx items.size 0 lo : Nat) : Int) == 0 && (1 : Int) == 1 && (sIx items.size items.size hi - sIx items.size 0 lo) == items.size) = true) := by
    intro q
    rw [Bool.and_eq_true, Bool.and_eq_true] at q
    have q1 : ((sIx items.size 0 lo : Nat) : Int) = 0 := eq_of_beq q.1.1
    have q2 : sIx items.size items.size hi - sIx items.size 0 lo = items.size := eq_of_beq q.2
    exact hw ⟨by omega, by omega⟩
  show wpAny _ _ (if (((sIx items.size 0 lo : Nat) : Int) == 0 && (1 : Int) == 1 && (sIx items.size items.size hi - sIx items.size 0 lo) == items.size) = true then _ else _) _ _ s
  rw [if_neg hno, pick_gen]
  first
    | exact wpAny_bind (m := Builtin.Tuple.tupleExact _) (wpAny_newObj_type (wpAny_pure ⟨_, rfl, wpAny_pure h⟩) htake)
    | exact wpAny_bind (m := Builtin.Tuple.tupleExact _) (wpAny_newObj_type (wpAny_bind (wpAny_pure (wpAny_pure ⟨_, rfl, wpAny_pure h⟩))) htake)
    | exact wpAny_bind (wpAny_bind (m := Builtin.Tuple.tupleExact _) (wpAny_newObj_type (wpAny_pure (wpAny_pure ⟨_, rfl, wpAny_pure h⟩)) htake))
    | exact wpAny_bind (wpAny_bind (m := Builtin.Tuple.tupleExact _) (wpAny_newObj_type (wpAny_pure ⟨_, rfl, wpAny_pure h⟩) htake))
end
end HT
namespace L2
open PySem PySem.Spec PyProof.Rows
abbrev TO := St → Hp → (Option Int → Hp → Prop) → Prop
def PO (X : Cx) (e : Option Expr) (t : TO) : Prop :=
  ∀ (pins : List (Addr × Obj)) (s : Shared) (σ : St) (H : Hp) (Q : Option Int → Hp → Prop), Inv X pins σ H s → t σ H Q →
    wpAny (model X.prog X.w) X.A (evalPart e X.env) (fun u s' => ∃ o H', Inv X pins σ H' s' ∧ IsPart u o ∧ Q o H') X.xe s
def tNoPart : TO := fun _ H Q => Q none H
def tPart (t : TE) : TO := fun σ H Q => t σ H fun x H1 => ∃ i, x = .int i ∧ Q (some i) H1
section
variable {X : Cx} {e : Expr} {te : TE} {lo hi : Option Expr} {tl th : TO} {pos p2 : Pos}
theorem po_none : PO X none tNoPart := by
  intro pins s σ H Q I h
  rw [evalPart_none]
  exact wpAny_pure ⟨none, H, I, .none, h⟩
theorem po_some (h : PE X e te) : PO X (some e) (tPart te) := by
  intro pins s σ H Q I hw
  rw [evalPart_some]
  refine thn (h pins s σ H _ I hw) fun u s1 ⟨x, H1, I1, r1, q1⟩ => ?_
  obtain ⟨i, rfl, q⟩ := q1
  obtain ⟨t, rfl⟩ := r1
  exact ⟨some i, H1, I1, .int i t, q⟩
def SlR (X : Cx) (r : V → Option Int → Option Int → Hp → VK → Prop) : Prop :=
  ∀ (pins : List (Addr × Obj)) (s : Shared) (σ : St) (H : Hp) (x : V) (v vl vu : Value) (lo hi : Option Int) (sl : Addr) (Q : VK), Inv X pins σ H s → RelV x v → s.heap.IsSliceOf sl vl vu .none → IsPart vl lo → IsPart vu hi → r x lo hi H Q →
    ∃ T id, typeLookup (.type T) "__getitem__" = pure (some (.builtin id)) ∧ s.TypeIs v T ∧ wpAny (model X.prog X.w) X.A (getItem v (.ref sl)) (EP X pins σ Q) X.xe s
def tSl (r : V → Option Int → Option Int → Hp → VK → Prop) (te : TE) (tl th : TO) : TE := fun σ H Q => te σ H fun x H1 => tl σ H1 fun l H2 => th σ H2 fun u H3 => r x l u H3 Q
theorem pe_slice {r : V → Option Int → Option Int → Hp → VK → Prop} (hr : SlR X r) (he : PE X e te) (hl : PO X lo tl) (hu : PO X hi th) : PE X (.Subscript e (.Slice lo hi none p2) pos) (tSl r te tl th) := by
  intro pins s σ H Q I h
  refine Subscript_ (thn (he pins s σ H _ I h) fun v s1 ⟨x, H1, I1, r1, q1⟩ => ?_)
  refine wpAny_Slice (thn (hl pins s1 σ H1 _ I1 q1) fun vl s2 ⟨l, H2, I2, pl, q2⟩ => thn (hu pins s2 σ H2 _ I2 q2) fun vu s3 ⟨u, H3, I3, pu, q3⟩ => ?_)
  rw [evalPart_none]
  refine wpAny_pure ?_
  have I4 : Inv X pins σ H3 { s3 with heap := s3.heap.push { cls := .type "slice", data := .fields #[vl, vu, .none] } } := I3.kept (t' := s3.toks) fun b ob q => Heap.get?_push_of_some _ q
  obtain ⟨T, id, hT, ht, hg⟩ := hr pins { s3 with heap := s3.heap.push { cls := .type "slice", data := .fields #[vl, vu, .none] } } σ H3 x v vl vu l u s3.heap.objs.size Q I4 r1 (Heap.IsSliceOf.new ..) pl pu q3
  show wpAny (model X.prog X.w) X.A (subscriptTail e (.Slice lo hi none p2) v (.ref s3.heap.objs.size)) (EP X pins σ Q) X.xe { s3 with heap := s3.heap.push { cls := .type "slice", data := .fields #[vl, vu, .none] } }
  exact tail_any (ops := [.ref s3.heap.objs.size, v]) ht hT hg (by with_unfolding_all rfl)
def cutV (xs : List V) (lo hi : Option Int) : List V := (xs.drop (HT.sIx xs.length 0 lo)).take (HT.sIx xs.length xs.length hi - HT.sIx xs.length 0 lo)
theorem cutV_length (xs : List V) (lo hi : Option Int) : (cutV xs lo hi).length ≤ xs.length := by
  unfold cutV
  rw [List.length_take, List.length_drop]
  omega
def rSlT (K : PySem.W.Frag) : V → Option Int → Option Int → Hp → VK → Prop := fun x lo hi H Q => ∃ a xs, x = .ref a ∧ SqT K H a xs ∧
  ¬ (HT.sIx xs.length 0 lo = 0 ∧ HT.sIx xs.length xs.length hi = xs.length) ∧ ∀ p, H p = none → Q (.ref p) (upd H p (.tup (cutV xs lo hi)))
theorem sl_tup : SlR X (rSlT X.K) := by
  intro pins s σ H x v vl vu lo hi sl Q I rx hs pl pu h
  obtain ⟨a, xs, rfl, hx, hw, q⟩ := h
  cases rx
  obtain ⟨its, r, ht, hz⟩ := I.tuple hx
  have hlen : its.toArray.size = xs.length := by rw [List.size_toArray]; exact r.length.symm
  refine ⟨"tuple", _, PyProof.Rows.slot_tuple_getitem.lookup, ht.typeIs, ?_⟩
  refine HT.getItem_tuple_cut ht hs pl pu (by rw [hlen]; exact hw) ?_ (by rw [hlen]; exact hz)
  rw [hlen]
  refine ⟨.ref s.heap.objs.size, _, I.laid (t' := s.toks) (o := .tup (cutV xs lo hi)) (fun b ob q => Heap.get?_push_of_some _ q) (Nat.le_refl _) ?_, rfl, q _ (I.hok.fresh (Nat.le_refl _))⟩
  exact ⟨Nat.le_trans (cutV_length xs lo hi) hz, _, (r.drop (HT.sIx xs.length 0 lo)).take (HT.sIx xs.length xs.length hi - HT.sIx xs.length 0 lo), IsTup.new _ _⟩
def rLtT (K : PySem.W.Frag) : R2 := fun x y H Q => ∃ a b ns ms, x = .ref a ∧ y = .ref b ∧ SqT K H a (ns.map V.int) ∧ SqT K H b (ms.map V.int) ∧ Q (.bl (HT.lexLt ns ms)) H
def rCatT (K : PySem.W.Frag) : R2 := fun x y H Q => ∃ a b xs ys, x = .ref a ∧ y = .ref b ∧ SqT K H a xs ∧ SqT K H b ys ∧ xs ≠ [] ∧ xs.length + ys.length ≤ sizeLine ∧
  (ys = [] → Q (.ref a) H) ∧ (ys ≠ [] → ∀ p, H p = none → Q (.ref p) (upd H p (.tup (xs ++ ys))))
theorem Vals.nil_iff {xs : List V} {us : List Value} (r : Vals xs us) : us = [] ↔ xs = [] := by
  cases r with
  | nil => simp
  | cons _ _ => simp
theorem op_catT : OpR X (binaryOp .Add) (rCatT X.K) := by
  intro pins s σ H x y v u Q I rx ry h
  obtain ⟨a, b, xs, ys, rfl, rfl, ha, hb, hx, hz, q1, q2⟩ := h
  cases rx
  cases ry
  obtain ⟨its, r1, p1, _⟩ := I.tuple ha
  obtain ⟨its2, r2, p2, _⟩ := I.tuple hb
  refine HT.cat_tup p1 p2 (fun z => hx (r1.nil_iff.mp z)) (fun z => ⟨.ref a, H, I, rfl, q1 (r2.nil_iff.mp z)⟩) (fun z => ?_) (by rw [← r1.length, ← r2.length]; exact hz)
  refine ⟨.ref s.heap.objs.size, _, I.laid (t' := s.toks) (o := .tup (xs ++ ys)) (fun b ob q => Heap.get?_push_of_some _ q) (Nat.le_refl _) ?_, rfl, q2 (fun w => z (r2.nil_iff.mpr w)) _ (I.hok.fresh (Nat.le_refl _))⟩
  exact ⟨by rw [List.length_append]; exact hz, _, r1.append r2, IsTup.new _ _⟩
end
end L2
namespace L2
open PySem PySem.Spec PyProof.Rows
def ixN (n : Nat) (i : Int) : Option Nat := if 0 ≤ i then (if i < n then some i.toNat else none) else if -(n : Int) ≤ i then some (i + n).toNat else none
def atI {α : Type} (xs : List α) (i : Int) : Option α := (ixN xs.length i).bind fun j => xs[j]?
theorem ixN_seq {n : Nat} {i : Int} {j : Nat} (h : ixN n i = some j) : seqIndex? i n = some j ∧ j < n ∧ -(n : Int) ≤ i ∧ i < n := by
  unfold ixN at h
  by_cases h0 : 0 ≤ i
  · rw [if_pos h0] at h
    by_cases h1 : i < n
    · rw [if_pos h1] at h
      have e : i.toNat = j := Option.some.inj h
      exact ⟨by rw [seqIndex_of h0 h1, e], by omega, by omega, h1⟩
    · rw [if_neg h1] at h; cases h
  · rw [if_neg h0] at h
    by_cases h1 : -(n : Int) ≤ i
    · rw [if_pos h1] at h
      have e : (i + n).toNat = j := Option.some.inj h
      exact ⟨by rw [seqIndex_neg (by omega) h1, e], by omega, h1, by omega⟩
    · rw [if_neg h1] at h; cases h
theorem atI_get {α : Type} {xs : List α} {i : Int} {v : α} (h : atI xs i = some v) : ∃ j, seqIndex? i xs.length = some j ∧ xs[j]? = some v ∧ j < xs.length ∧ -(xs.length : Int) ≤ i ∧ i < xs.length := by
  unfold atI at h
  cases e : ixN xs.length i with
  | none => rw [e] at h; cases h
  | some j =>
    rw [e] at h
    obtain ⟨h1, h2, h3, h4⟩ := ixN_seq e
    exact ⟨j, h1, h, h2, h3, h4⟩
theorem atI_nat {α : Type} {xs : List α} {j : Nat} {v : α} (h : xs[j]? = some v) : atI xs (j : Int) = some v := by
  have hj : j < xs.length := (List.getElem?_eq_some_iff.mp h).1
  have e : ixN xs.length (j : Int) = some j := by
    unfold ixN
    rw [if_pos (by omega), if_pos (by omega)]; simp
  unfold atI; rw [e]; exact h
def PlainIx (b : Expr) : Prop := ∀ o i, subscripted b false o i = operate [o, i] (getItem o i)
def IxR (X : Cx) (r : R2) : Prop :=
  ∀ (value slice : Expr) (pins : List (Addr × Obj)) (s : Shared) (σ : St) (H : Hp) (x y : V) (v u : Value) (Q : VK), Inv X pins σ H s → RelV x v → RelV y u → r x y H Q →
    subscripted slice false v u = operate [v, u] (getItem v u) → wpAny (model X.prog X.w) X.A (subscriptTail value slice v u) (EP X pins σ Q) X.xe s
def MtR (X : Cx) (id : String) (r : V → List V → Hp → VK → Prop) : Prop :=
  ∀ (pins : List (Addr × Obj)) (s : Shared) (σ : St) (H : Hp) (x : V) (xs : List V) (v : Value) (us : List Value) (Q : VK), Inv X pins σ H s → RelV x v → Vals xs us → r x xs H Q →
    wpAny (model X.prog X.w) X.A (call (.builtin id) (v :: us)) (EP X pins σ Q) X.xe s
section
variable {X : Cx} {a b : Expr} {ta tb : TE} {pos : Pos}
theorem pe_ix {r : R2} (hr : IxR X r) (ha : PE X a ta) (hb : PE X b tb) (hs : PlainIx b) : PE X (.Subscript a b pos) (tOp r ta tb) := by
  intro pins s σ H Q I h
  exact Subscript_ (binT ha hb I h fun v u s2 x y H2 I2 rx ry q => hr a b pins s2 σ H2 x y v u Q I2 rx ry q (hs _ _))
def rIxL (K : PySem.W.Frag) : R2 := fun x y H Q => ∃ p xs i v, x = .ref p ∧ y = .int i ∧ SqL K H p xs ∧ atI xs i = some v ∧ Q v H
def rIxT (K : PySem.W.Frag) : R2 := fun x y H Q => ∃ p xs i v, x = .ref p ∧ y = .int i ∧ SqT K H p xs ∧ atI xs i = some v ∧ Q v H
def rIxS : R2 := fun x y H Q => ∃ z i c, x = .str z ∧ y = .int i ∧ z.length ≤ sizeLine ∧ atI z.cps.toList i = some c ∧ Q (.str ⟨#[c]⟩) H
theorem ix_list : IxR X (rIxL X.K) := by
  intro value slice pins s σ H x y v u Q I rx ry h hs
  obtain ⟨p, xs, i, z, rfl, rfl, hq, he, q⟩ := h
  cases rx
  obtain ⟨t, rfl⟩ := ry
  obtain ⟨its, r, pl, hz⟩ := I.list hq
  obtain ⟨j, h1, h2, h3, h4, h5⟩ := atI_get he
  obtain ⟨w, ew, rw'⟩ := r.get h2
  have hl := r.length
  have hn := line63
  have fin : EP X pins σ Q w s := ⟨z, H, I, rw', q⟩
  by_cases h0 : 0 ≤ i
  · have hj : i.toNat = j := by
      rw [seqIndex_of h0 h5] at h1
      exact Option.some.inj h1
    exact item_listR pl.isList h0 (by omega) (by rw [hj]; simpa using ew) fin hs
  · have hj : (i + (its.toArray.size : Int)).toNat = j := by
      rw [seqIndex_neg (by omega) h4] at h1
      rw [List.size_toArray, ← hl]
      exact Option.some.inj h1
    exact subscriptTail_builtinR (x := w) pl.isList.typeIs slot_list_getitem.lookup
      (wpAny_getItem_list_neg (Q := fun r s' => r = w ∧ EP X pins σ Q r s') pl.isList (by omega) (by rw [List.size_toArray] <;> omega) (by omega) (by rw [hj]; simpa using ew) ⟨rfl, fin⟩) hs
theorem ix_tup : IxR X (rIxT X.K) := by
  intro value slice pins s σ H x y v u Q I rx ry h hs
  obtain ⟨p, xs, i, z, rfl, rfl, hq, he, q⟩ := h
  cases rx
  obtain ⟨t, rfl⟩ := ry
  obtain ⟨its, r, pl, hz⟩ := I.tuple hq
  obtain ⟨j, h1, h2, h3, h4, h5⟩ := atI_get he
  obtain ⟨w, ew, rw'⟩ := r.get h2
  have hl := r.length
  have hn := line63
  have fin : EP X pins σ Q w s := ⟨z, H, I, rw', q⟩
  exact subscriptTail_builtinR (x := w) pl.typeIs slot_tuple_getitem.lookup
    (getItem_tuple (j := j) (Q := fun r s' => r = w ∧ EP X pins σ Q r s') pl (by omega) (by omega) (by rw [List.size_toArray, ← hl]; exact h1) (by simpa using ew) ⟨rfl, fin⟩) hs
def rIx (K : PySem.W.Frag) : R2 := fun x y H Q => rIxL K x y H Q ∨ rIxT K x y H Q ∨ rIxS x y H Q
theorem mapSeq_set (its : List Value) (n j : Nat) (u : Value) : Obj.mapSeq (·.setIfInBounds j u) { cls := .type "list", data := .seq its.toArray n } = { cls := .type "list", data := .seq (its.set j u).toArray n } := by
  simp [Obj.mapSeq]
theorem Inv.lst {pins : List (Addr × Obj)} {σ : St} {H : Hp} {s : Shared} {p : Addr} {xs : List V} (I : Inv X pins σ H s) (h : H p = some (.lst xs)) :
    ∃ (its : List Value) (n : Nat), Vals xs its ∧ s.heap.get? p = some { cls := .type "list", data := .seq its.toArray n } ∧ xs.length ≤ sizeLine := by
  obtain ⟨z, its, n, r, e⟩ := I.hok p _ h
  exact ⟨its, n, r, e, z⟩
theorem Inv.lstUpd {pins : List (Addr × Obj)} {σ : St} {H : Hp} {s : Shared} {p : Addr} {xs ys : List V} {its its' : List Value} {n n' : Nat} {f : Obj → Obj} (I : Inv X pins σ H s) (h : H p = some (.lst xs))
    (ho : s.heap.get? p = some { cls := .type "list", data := .seq its.toArray n }) (hf : f { cls := .type "list", data := .seq its.toArray n } = { cls := .type "list", data := .seq its'.toArray n' }) (r : Vals ys its') (hz : ys.length ≤ sizeLine) (t : Nat) :
    Inv X pins σ (upd H p (.lst ys)) { s with heap := s.heap.update p f, toks := t } := by
  have e : (s.heap.update p f).get? p = some { cls := .type "list", data := .seq its'.toArray n' } := by
    rw [Heap.get?_update_self f ho (by rw [hf] <;> rfl), hf]
  refine I.write (x := p) (e := p) (by rw [h]; trivial) (.inl rfl) (fun b u hb q => (Heap.get?_update_other _ _ (Ne.symm hb)).trans q) ⟨_, e⟩ ?_
  exact ⟨hz, its', n', r, e⟩
def rSetL : V → V → V → Hp → (Hp → Prop) → Prop := fun o i v H Q => ∃ p xs k j, o = .ref p ∧ i = .int k ∧ H p = some (.lst xs) ∧ ixN xs.length k = some j ∧ Q (upd H p (.lst (xs.set j v)))
theorem set_list : PSet X rSetL := by
  intro pins s σ H o i v ov iv u Q I ro ri rv h
  obtain ⟨p, xs, k, j, rfl, rfl, hp, hj, q⟩ := h
  cases ro
  obtain ⟨t, rfl⟩ := ri
  obtain ⟨its, n, r, ho, hz⟩ := I.lst hp
  obtain ⟨h1, h2, h3, h4⟩ := ixN_seq hj
  have hl := r.length
  have hn := line63
  have I' : Inv X pins σ (upd H p (.lst (xs.set j v))) { s with heap := s.heap.update p (Obj.mapSeq (·.setIfInBounds j u)) } :=
    I.lstUpd hp ho (mapSeq_set its n j u) (r.set rv j) (by rw [List.length_set]; exact hz) s.toks
  by_cases h0 : 0 ≤ k
  · have hk : k.toNat = j := by
      rw [seqIndex_of h0 h4] at h1
      exact Option.some.inj h1
    exact PySem.W.ki_setAt ho h0 (by omega) (by rw [List.size_toArray, ← hl]; exact h4) (by rw [hk]; exact ⟨_, I', q⟩)
  · have hk : (k + (its.toArray.size : Int)).toNat = j := by
      rw [seqIndex_neg (by omega) h3] at h1
      rw [List.size_toArray, ← hl]
      exact Option.some.inj h1
    exact PySem.W.ki_setBack ho (by omega) (by rw [List.size_toArray, ← hl]; exact h3) (by omega) (by rw [hk]; exact ⟨_, I', q⟩)
theorem slice_bounds (lo hi : Option Int) (n : Nat) : (sliceBounds lo hi none n).1 = ((HT.sIx n 0 lo : Nat) : Int) ∧ (sliceBounds lo hi none n).2.1 = ((HT.sIx n n hi : Nat) : Int) ∧ (sliceBounds lo hi none n).2.2 = 1 := by
  refine ⟨?_, ?_, rfl⟩
  · cases lo with
    | none => simp [sliceBounds, HT.sIx]
    | some i =>
      simp only [sliceBounds, HT.sIx, Option.getD_none, show (1 : Int) > 0 by decide, if_true]
      by_cases h : i < 0
      · simp only [h, if_true] <;> omega
      · simp only [h, if_false] <;> omega
  · cases hi with
    | none => simp [sliceBounds, HT.sIx]
    | some i =>
      simp only [sliceBounds, HT.sIx, Option.getD_none, show (1 : Int) > 0 by decide, if_true]
      by_cases h : i < 0
      · simp only [h, if_true] <;> omega
      · simp only [h, if_false] <;> omega
theorem slicePick_cut (its : List Value) (lo hi : Option Int) : slicePick its.toArray lo hi none = ((its.drop (HT.sIx its.length 0 lo)).take (HT.sIx its.length its.length hi - HT.sIx its.length 0 lo)).toArray := by
  obtain ⟨h1, h2, h3⟩ := slice_bounds lo hi its.toArray.size
  unfold slicePick
  rw [h1, h2, h3]
  simp only [sliceRange_one, pick_run, List.size_toArray] <;> rfl
def rSlL (K : PySem.W.Frag) : V → Option Int → Option Int → Hp → VK → Prop := fun x lo hi H Q => ∃ a xs, x = .ref a ∧ SqL K H a xs ∧ ∀ p, H p = none → Q (.ref p) (upd H p (.lst (cutV xs lo hi)))
theorem sl_list : SlR X (rSlL X.K) := by
  intro pins s σ H x v vl vu lo hi sl Q I rx hs pl pu h
  obtain ⟨a, xs, rfl, hx, q⟩ := h
  cases rx
  obtain ⟨its, r, ht, hz⟩ := I.list hx
  have hlen := r.length
  refine ⟨"list", _, slot_list_getitem.lookup, ht.isList.typeIs, ?_⟩
  refine wpAny_getItem_list_slice ht.isList hs pl pu .none (by simp) ?_ (by rw [List.size_toArray] <;> omega)
  rw [slicePick_cut, ← hlen]
  refine ⟨.ref s.heap.objs.size, _, I.laid (t' := s.toks) (o := .lst (cutV xs lo hi)) (fun b ob q => Heap.get?_push_of_some _ q) (Nat.le_refl _) ?_, rfl, q _ (I.hok.fresh (Nat.le_refl _))⟩
  exact ⟨Nat.le_trans (cutV_length xs lo hi) hz, _, 0, (r.drop (HT.sIx xs.length 0 lo)).take (HT.sIx xs.length xs.length hi - HT.sIx xs.length 0 lo), Heap.get?_push_size _ rfl⟩
def flatV : V → Bool
  | .non => true
  | .bl _ => true
  | .int _ => true
  | .str _ => true
  | _ => false
def eqV : V → V → Bool
  | .non, .non => true
  | .bl a, .bl b => a == b
  | .bl a, .int b => (if a then 1 else 0) == b
  | .int a, .bl b => a == (if b then 1 else 0)
  | .int a, .int b => a == b
  | .str a, .str b => a == b
  | _, _ => false
theorem eqAt_V {A : Around} {s : Shared} {y x : V} {u v : Value} (ry : RelV y u) (rx : RelV x v) (fy : flatV y = true) (fx : flatV x = true) : SeqAt.EqAt A s u v (eqV y x) := by
  cases y with
  | non =>
    cases ry
    cases x with
    | non => cases rx; exact SeqAt.EqAt.same _
    | bl b => cases rx; exact SeqAt.EqAt.none_bool b
    | int b => obtain ⟨t, rfl⟩ := rx; exact SeqAt.EqAt.none_int b t
    | str b => obtain ⟨t, rfl⟩ := rx; exact SeqAt.EqAt.none_str b t
    | _ => exact absurd (show false = true from fx) Bool.false_ne_true
  | bl a =>
    cases ry
    cases x with
    | non => cases rx; exact SeqAt.EqAt.bool_none a
    | bl b => cases rx; exact SeqAt.EqAt.bool_bool a b
    | int b => obtain ⟨t, rfl⟩ := rx; exact SeqAt.EqAt.bool_int a b t
    | str b => obtain ⟨t, rfl⟩ := rx; exact SeqAt.EqAt.bool_str a b t
    | _ => exact absurd (show false = true from fx) Bool.false_ne_true
  | int a =>
    obtain ⟨t', rfl⟩ := ry
    cases x with
    | non => cases rx; exact SeqAt.EqAt.int_none a t'
    | bl b => cases rx; exact SeqAt.EqAt.int_bool a t' b
    | int b => obtain ⟨t, rfl⟩ := rx; exact SeqAt.EqAt.int_int a t' b t
    | str b => obtain ⟨t, rfl⟩ := rx; exact SeqAt.EqAt.int_str a t' b t
    | _ => exact absurd (show false = true from fx) Bool.false_ne_true
  | str a =>
    obtain ⟨t', rfl⟩ := ry
    cases x with
    | non => cases rx; exact SeqAt.EqAt.str_none a t'
    | bl b => cases rx; exact SeqAt.EqAt.str_bool a t' b
    | int b => obtain ⟨t, rfl⟩ := rx; exact SeqAt.EqAt.str_int a t' b t
    | str b => obtain ⟨t, rfl⟩ := rx; exact SeqAt.EqAt.str_str a t' b t
    | _ => exact absurd (show false = true from fx) Bool.false_ne_true
  | _ => exact absurd (show false = true from fy) Bool.false_ne_true
def eqU (x : V) (u : Value) : Bool := match u with
  | .none => eqV .non x
  | .bool b => eqV (.bl b) x
  | .int i _ => eqV (.int i) x
  | .str z _ => eqV (.str z) x
  | _ => false
theorem eqU_of {x y : V} {u : Value} (r : RelV y u) (f : flatV y = true) : eqU x u = eqV y x := by
  cases y with
  | non => cases r; rfl
  | bl b => cases r; rfl
  | int i => obtain ⟨t, rfl⟩ := r; rfl
  | str z => obtain ⟨t, rfl⟩ := r; rfl
  | _ => exact absurd (show false = true from f) Bool.false_ne_true
theorem any_eqU {x : V} : ∀ {xs : List V} {us : List Value}, Vals xs us → xs.all flatV = true → us.any (eqU x) = xs.any fun y => eqV y x
  | _, _, .nil, _ => rfl
  | y :: xs, u :: us, .cons r t, f => by
    rw [List.all_cons, Bool.and_eq_true] at f
    rw [List.any_cons, List.any_cons, eqU_of r f.1, any_eqU t f.2]
theorem mem_eqAt {A : Around} {s : Shared} {x : V} {v : Value} (rx : RelV x v) (fx : flatV x = true) : ∀ {xs : List V} {us : List Value}, Vals xs us → xs.all flatV = true → ∀ u ∈ us, SeqAt.EqAt A s u v (eqU x u)
  | _, _, .nil, _ => fun u hu => by cases hu
  | y :: xs, u :: us, .cons r t, f => fun u' hu => by
    rw [List.all_cons, Bool.and_eq_true] at f
    rcases List.mem_cons.mp hu with rfl | hu
    · rw [eqU_of r f.1]; exact eqAt_V r rx f.1 fx
    · exact mem_eqAt rx fx t f.2 u' hu
def inV (x : V) (xs : List V) : Bool := xs.any fun y => eqV y x
def rIn (K : PySem.W.Frag) (neg : Bool) : R2 := fun x y H Q => ∃ p xs, y = .ref p ∧ (SqL K H p xs ∨ SqT K H p xs) ∧ flatV x = true ∧ xs.all flatV = true ∧ Q (.bl (if neg then !inV x xs else inV x xs)) H
theorem op_in_seq : OpR X (compareOp .In) (rIn X.K false) := by
  intro pins s σ H x y v u Q I rx ry h
  obtain ⟨p, xs, rfl, hq, fx, fs, q⟩ := h
  cases ry
  rcases hq with hq | hq
  · obtain ⟨its, r, pl, hz⟩ := I.list hq
    refine SeqAt.in_listAt (eqU x) pl.isList (fun w hw => mem_eqAt rx fx r fs w (by simpa using hw)) ⟨.bl _, H, I, rfl, ?_⟩
    rw [show its.toArray.any (eqU x) = its.any (eqU x) by simp, any_eqU r fs]
    exact q
  · obtain ⟨its, r, pl, hz⟩ := I.tuple hq
    refine SeqAt.in_tupleAt (eqU x) pl (fun w hw => mem_eqAt rx fx r fs w (by simpa using hw)) ⟨.bl _, H, I, rfl, ?_⟩
    rw [show its.toArray.any (eqU x) = its.any (eqU x) by simp, any_eqU r fs]
    exact q
theorem op_notIn_seq : OpR X (compareOp .NotIn) (rIn X.K true) := by
  intro pins s σ H x y v u Q I rx ry h
  obtain ⟨p, xs, rfl, hq, fx, fs, q⟩ := h
  cases ry
  rcases hq with hq | hq
  · obtain ⟨its, r, pl, hz⟩ := I.list hq
    refine SeqAt.notIn_listAt (eqU x) pl.isList (fun w hw => mem_eqAt rx fx r fs w (by simpa using hw)) ⟨.bl _, H, I, rfl, ?_⟩
    rw [show its.toArray.any (eqU x) = its.any (eqU x) by simp, any_eqU r fs]
    exact q
  · obtain ⟨its, r, pl, hz⟩ := I.tuple hq
    refine SeqAt.notIn_tupleAt (eqU x) pl (fun w hw => mem_eqAt rx fx r fs w (by simpa using hw)) ⟨.bl _, H, I, rfl, ?_⟩
    rw [show its.toArray.any (eqU x) = its.any (eqU x) by simp, any_eqU r fs]
    exact q
theorem call_len_seq : CallR X (.builtin "len") (fun xs H Q => ∃ p ys, xs = [.ref p] ∧ (SqL X.K H p ys ∨ SqT X.K H p ys) ∧ Q (.int ys.length) H) := by
  intro pins s σ H xs us Q I r h
  obtain ⟨p, ys, rfl, hq, q⟩ := h
  obtain ⟨u, rfl, rx⟩ := vals1 r
  cases rx
  have hn := line63
  rcases hq with hq | hq
  · obtain ⟨its, r', pl, hz⟩ := I.list hq
    have hlen := r'.length
    exact Calls.call_len_list pl.isList (by simp only [List.size_toArray] <;> omega) ⟨.int ys.length, H, I.tok _, ⟨s.toks + 1, by rw [List.size_toArray, hlen]⟩, q⟩
  · obtain ⟨its, r', pl, hz⟩ := I.tuple hq
    have hlen := r'.length
    exact len_tuple pl (by simp only [List.size_toArray] <;> omega) ⟨.int ys.length, H, I.tok _, ⟨s.toks + 1, by rw [List.size_toArray, hlen]⟩, q⟩
theorem call_list_of : CallR X (.type "list") (fun xs H Q => ∃ p ys, xs = [.ref p] ∧ (SqL X.K H p ys ∨ SqT X.K H p ys) ∧ ∀ l, H l = none → Q (.ref l) (upd H l (.lst ys))) := by
  intro pins s σ H xs us Q I r h
  obtain ⟨p, ys, rfl, hq, q⟩ := h
  obtain ⟨u, rfl, rx⟩ := vals1 r
  cases rx
  have fin : ∀ (its : List Value), Vals ys its → ys.length ≤ sizeLine → ∀ (h' : Heap) (c' : Nat), (∀ b o', s.heap.get? b = some o' → h'.get? b = some o') →
      h'.get? s.heap.objs.size = some { cls := .type "list", dict := none, data := .seq its.toArray c', slots := #[] } → EP X pins σ Q (.ref s.heap.objs.size) { s with heap := h' } := fun its r' hz h' c' kp e =>
    ⟨.ref s.heap.objs.size, _, I.laid (t' := s.toks) kp (Nat.le_refl _) (show ObjOk X.prog X.w _ h' _ (.lst ys) from ⟨hz, its, c', r', e⟩), rfl, q _ (I.hok.fresh (Nat.le_refl _))⟩
  rcases hq with hq | hq
  · obtain ⟨its, r', pl, hz⟩ := I.list hq
    have hlen := r'.length
    obtain ⟨o, ho, hc, n, hd⟩ := pl.isList
    exact call_list_seq p (.inl rfl) ho hc hd (fun h' c' kp e => fin its r' hz h' c' kp e) (by simp only [List.size_toArray] <;> omega)
  · obtain ⟨its, r', pl, hz⟩ := I.tuple hq
    have hlen := r'.length
    obtain ⟨o, ho, hc, n, hd⟩ := pl
    exact call_list_seq p (.inr rfl) ho hc hd (fun h' c' kp e => fin its r' hz h' c' kp e) (by simp only [List.size_toArray] <;> omega)
theorem call_tuple_of : CallR X (.type "tuple") (fun xs H Q => ∃ p ys, xs = [.ref p] ∧ ((SqL X.K H p ys ∧ ∀ l, H l = none → Q (.ref l) (upd H l (.tup ys))) ∨ (SqT X.K H p ys ∧ Q (.ref p) H))) := by
  intro pins s σ H xs us Q I r h
  obtain ⟨p, ys, rfl, h⟩ := h
  obtain ⟨u, rfl, rx⟩ := vals1 r
  cases rx
  rcases h with ⟨hq, q⟩ | ⟨hq, q⟩
  · obtain ⟨its, r', pl, hz⟩ := I.list hq
    have hlen := r'.length
    refine call_tuple_list pl.isList (fun h' kp => ?_) (by simp only [List.size_toArray] <;> omega)
    have I1 : Inv X pins σ H { s with heap := h' } := I.kept (t' := s.toks) kp
    have I2 : Inv X pins σ (upd H h'.objs.size (.tup ys)) { s with heap := h'.push { cls := .type "tuple", data := .seq its.toArray } } :=
      I1.laid (t' := s.toks) (fun b o e => Heap.get?_push_of_some _ e) (Nat.le_refl _) (show ObjOk X.prog X.w _ _ _ (.tup ys) from ⟨hz, its, r', IsTup.new _ _⟩)
    exact ⟨.ref h'.objs.size, _, I2, rfl, q _ (I1.hok.fresh (Nat.le_refl _))⟩
  · obtain ⟨its, r', pl, hz⟩ := I.tuple hq
    exact call_tuple_same pl ⟨.ref p, H, I, rfl, q⟩
def tyV (K : PySem.W.Frag) (T : String) (x : V) (H : Hp) : Prop := match x with
  | .str _ => T = "str"
  | .int _ => T = "int"
  | .ref p => (T = "list" ∧ ∃ xs, SqL K H p xs) ∨ (T = "tuple" ∧ ∃ o, K.lookup p = some o ∧ o.cls = .type "tuple" ∧ o.dict = none) ∨
      (T = "dict" ∧ ((∃ kvs, H p = some (.dK kvs)) ∨ ∃ kvs, H p = some (.dT kvs))) ∨ (T = "set" ∧ ∃ S n, H p = some (.set S n))
  | _ => False
theorem tyV_is {pins : List (Addr × Obj)} {σ : St} {H : Hp} {s : Shared} {T : String} {x : V} {v : Value} (I : Inv X pins σ H s) (r : RelV x v) (ty : tyV X.K T x H) :
    s.TypeIs v T ∧ ∀ a, v = .ref a → ∃ ob, s.heap.get? a = some ob ∧ ob.dict = none := by
  cases x with
  | str z =>
    obtain ⟨t, rfl⟩ := r
    cases (show T = "str" from ty)
    exact ⟨typeIs_str s z t, fun _ e => nomatch e⟩
  | int i =>
    obtain ⟨t, rfl⟩ := r
    cases (show T = "int" from ty)
    exact ⟨typeIs_int s i t, fun _ e => nomatch e⟩
  | ref p =>
    cases r
    rcases ty with ⟨rfl, xs, hq⟩ | ⟨rfl, o, hk, hc, hd⟩ | ⟨rfl, hk⟩ | ⟨rfl, S, n, hk⟩
    · obtain ⟨its, _, pl, _⟩ := I.list hq
      refine ⟨pl.isList.typeIs, fun a e => ?_⟩
      cases e
      obtain ⟨o, n, e, c, hd, _⟩ := pl
      exact ⟨o, e, hd⟩
    · refine ⟨⟨o, I.kIn p o hk, hc⟩, fun a e => ?_⟩
      cases e
      exact ⟨o, I.kIn _ o hk, hd⟩
    · have z : ∃ o, s.heap.get? p = some o ∧ o.ExactDict := by
        rcases hk with ⟨kvs, hk⟩ | ⟨kvs, hk⟩
        · obtain ⟨_, _, _, _, o, _, _, e, ex, _⟩ := I.hok p _ hk
          exact ⟨o, e, ex⟩
        · obtain ⟨_, _, _, _, o, _, _, e, ex, _⟩ := I.hok p _ hk
          exact ⟨o, e, ex⟩
      obtain ⟨o, e, ex⟩ := z
      refine ⟨⟨o, e, ex.1⟩, fun a e2 => ?_⟩
      cases e2
      exact ⟨o, e, ex.2.1⟩
    · obtain ⟨o, _, _, _, e, ex, _⟩ := I.hok p _ hk
      refine ⟨⟨o, e, ex.1⟩, fun a e2 => ?_⟩
      cases e2
      exact ⟨o, e, ex.2.1⟩
  | _ => exact False.elim ty
def tBM0 (K : PySem.W.Frag) (T : String) (r : V → List V → Hp → VK → Prop) (to : TE) : TE := fun σ H Q => to σ H fun x H1 => tyV K T x H1 ∧ r x [] H1 Q
def tBM (K : PySem.W.Frag) (T : String) (r : V → List V → Hp → VK → Prop) (to : TE) (t : TA) : TE := fun σ H Q => to σ H fun x H1 => tyV K T x H1 ∧ t σ H1 fun xs H2 => r x xs H2 Q
variable {o e : Expr} {es : List Expr} {to : TE} {t : TA} {name : Str} {apos cpos : Pos} {T id : String} {r : V → List V → Hp → VK → Prop}
theorem pe_bm0 (pa : PlainAttrs T) (slot : Slot T name id) (hty : typeOf (.builtin id) = pure (.type "method_descriptor")) (hm : MtR X id r) (ho : PE X o to)
    (hbase : attributeBase o name X.env (eval o X.env) = eval o X.env := by rfl) (hline : (apos.endLine == cpos.line) = true := by rfl) : PE X (.Call (.Attribute o name apos) [] [] cpos) (tBM0 X.K T r to) := by
  intro pins s σ H Q I h
  refine wpAny_Call_method0_late hbase hline (thn (ho pins s σ H _ I h) fun v s1 ⟨x, H1, I1, r1, ty, q1⟩ => ?_)
  obtain ⟨h1, h2⟩ := tyV_is I1 r1 ty
  exact ⟨T, id, pa, slot, hty, h1, h2, Calls.callWith_builtin rfl (PySem.evalArgs_none (hm pins s1 σ H1 x [] v [] Q I1 r1 .nil q1))⟩
theorem pe_bm (pa : PlainAttrs T) (slot : Slot T name id) (hty : typeOf (.builtin id) = pure (.type "method_descriptor")) (hm : MtR X id r) (ho : PE X o to) (ha : PA X (e :: es) t)
    (hbase : attributeBase o name X.env (eval o X.env) = eval o X.env := by rfl)
    (hfew : ((backTo cpos (starEach (e :: es) X.env)).all (fun x => !x.1) && (backToKw cpos (keywordEach [] X.env)).all (fun x => x.1.isSome)
      && decide ((e :: es).length + ([] : List Keyword).length + (if ([] : List Keyword).isEmpty then 0 else 1) < 30)) = true := by rfl)
    (hline : (apos.endLine == cpos.line) = true := by rfl) (hs : starEach (e :: es) X.env = (false, eval e X.env) :: starEach es X.env := by rfl) (hplain : (backTo cpos (starEach es X.env)).any (·.1) = false := by rfl) :
    PE X (.Call (.Attribute o name apos) (e :: es) [] cpos) (tBM X.K T r to t) := by
  intro pins s σ H Q I h
  refine wpAny_Call_method_late hbase hfew hline rfl (thn (ho pins s σ H _ I h) fun v s1 ⟨x, H1, I1, r1, ty, q1⟩ => ?_)
  obtain ⟨h1, h2⟩ := tyV_is I1 r1 ty
  refine ⟨T, id, pa, slot, hty, h1, h2, ?_⟩
  have hA := ha cpos pins s1 σ H1 _ I1 q1
  rw [hs] at hA ⊢
  refine Calls.callWith_builtin (by show (false || (backTo cpos (starEach es X.env)).any (·.1)) = false; rw [hplain] <;> rfl) (Calls.evalArgs_plain ?_)
  exact thn hA fun us s2 ⟨vs, H2, I2, r2, q2⟩ => hm pins s2 σ H2 x vs v us Q I2 r1 r2 q2
end
end L2
namespace L2
open PySem PySem.Spec PyProof.Rows
def MtM (X : Cx) (id : String) (r : V → List V → Hp → VK → Prop) : Prop :=
  ∀ (pins : List (Addr × Obj)) (s : Shared) (σ : St) (H : Hp) (x : V) (xs : List V) (v : Value) (us : List Value) (Q : VK), Inv X pins σ H s → RelV x v → Vals xs us → r x xs H Q →
    wpAny (model X.prog X.w) X.A (call (.builtin id) (v :: us)) (EP X pins σ Q) X.xe s
theorem Vals.one : ∀ {x : V} {us : List Value}, Vals [x] us → ∃ u, us = [u] ∧ RelV x u
  | _, _, .cons r .nil => ⟨_, rfl, r⟩
theorem Vals.zero : ∀ {us : List Value}, Vals [] us → us = []
  | _, .nil => rfl
theorem Vals.dropLast {xs : List V} {us : List Value} (h : Vals xs us) : Vals xs.dropLast us.dropLast := by
  induction h with
  | nil => exact .nil
  | cons r t ih =>
    cases t with
    | nil => exact .nil
    | cons q t' => exact .cons r ih
theorem Vals.rep {xs : List V} {us : List Value} (h : Vals xs us) : ∀ k : Nat, Vals (List.replicate k xs).flatten (List.replicate k us).flatten
  | 0 => .nil
  | k + 1 => by
    rw [List.replicate_succ, List.replicate_succ, List.flatten_cons, List.flatten_cons]
    exact Vals.append h (Vals.rep h k)
theorem erase_last {α : Type} (l : List α) : l.eraseIdx (l.length - 1) = l.dropLast := by
  induction l with
  | nil => rfl
  | cons a r ih =>
    cases r with
    | nil => rfl
    | cons b r =>
      have e : (a :: b :: r).length - 1 = ((b :: r).length - 1) + 1 := by
        have h1 : (a :: b :: r).length = r.length + 2 := rfl
        have h2 : (b :: r).length = r.length + 1 := rfl
        omega
      rw [e, List.eraseIdx_cons_succ, ih]
      all_goals rfl
theorem foldl_rep (its : List Value) : ∀ (k : Nat) (acc : List Value),
    List.foldl (fun x1 x2 => x1 ++ x2) acc.toArray (List.replicate k its.toArray) = (acc ++ (List.replicate k its).flatten).toArray
  | 0, acc => by simp
  | k + 1, acc => by
    have e : acc.toArray ++ its.toArray = (acc ++ its).toArray := by simp
    have e2 : (acc ++ its) ++ (List.replicate k its).flatten = acc ++ (List.replicate (k + 1) its).flatten := by
      rw [List.replicate_succ, List.flatten_cons, List.append_assoc]
    rw [← e2, ← foldl_rep its k (acc ++ its), ← e, List.replicate_succ, List.foldl_cons]
section
variable {X : Cx} {pins : List (Addr × Obj)} {σ : St} {H : Hp} {s : Shared} {l b : Addr} {xs ys zs : List V}
theorem Inv.lset {its its' : List Value} {n : Nat} {f : Array Value → Array Value} {t' : Nat} (I : Inv X pins σ H s) (hH : H l = some (.lst xs))
    (e : s.heap.get? l = some { cls := .type "list", data := .seq its.toArray n }) (hf : f its.toArray = its'.toArray) (hv : Vals ys its') (hz : ys.length ≤ sizeLine) :
    Inv X pins σ (upd H l (.lst ys)) { s with heap := s.heap.update l (Obj.mapSeq f), toks := t' } := by
  have q := PySem.IsL.update e f
  rw [hf] at q
  refine I.write (x := l) (e := l) (by rw [hH]; exact trivial) (.inl rfl) (fun b' u hb hu => (Heap.get?_update_other s.heap (Obj.mapSeq f) (Ne.symm hb)).trans hu) ⟨_, q⟩ ?_
  exact ⟨hz, its', _, hv, q⟩
theorem Inv.lnew {its : List Value} {t' : Nat} (I : Inv X pins σ H s) (hv : Vals ys its) (hz : ys.length ≤ sizeLine) :
    Inv X pins σ (upd H s.heap.objs.size (.lst ys)) { s with heap := s.heap.push { cls := .type "list", data := .seq its.toArray }, toks := t' } :=
  I.laid (fun _ _ q => Heap.get?_push_of_some _ q) (Nat.le_refl _) ⟨hz, its, 0, hv, Heap.get?_push_size _ rfl⟩
theorem Inv.fresh (I : Inv X pins σ H s) : H s.heap.objs.size = none := I.hok.fresh (Nat.le_refl _)
theorem Inv.lstM (I : Inv X pins σ H s) (hH : H l = some (.lst xs)) : xs.length ≤ sizeLine ∧ ∃ (its : List Value) (n : Nat), Vals xs its ∧ xs.length = its.length ∧ s.heap.get? l = some { cls := .type "list", data := .seq its.toArray n } := by
  obtain ⟨z, its, n, r, e⟩ := I.hok l _ hH
  exact ⟨z, its, n, r, r.length, e⟩
theorem notLongL {n : Nat} (h : n ≤ sizeLine) : Builtin.List.listTooLong n = false := by
  unfold Builtin.List.listTooLong
  exact decide_eq_false (by omega)
end
section
variable {X : Cx}
def rAppend : V → List V → Hp → VK → Prop := fun x vs H Q => ∃ l xs y, x = .ref l ∧ vs = [y] ∧ H l = some (.lst xs) ∧ xs.length < sizeLine ∧ Q .non (upd H l (.lst (xs ++ [y])))
theorem mt_append : MtM X "list.append" rAppend := by
  intro pins s σ H x vs v us Q I rx rv h
  obtain ⟨l, xs, y, rfl, rfl, hH, hz, q⟩ := h
  cases rx
  obtain ⟨u, rfl, ru⟩ := rv.one
  obtain ⟨z, its, n, r, hl, e⟩ := I.lstM hH
  refine call_meets F.slot_list_append ⟨_, e, rfl⟩ F.entry_list_append (F.args_list_append_2 _ _) (PySem.list_append l its.toArray n u (by rw [List.size_toArray]; omega)) ⟨e, ?_⟩
  refine ⟨.non, _, I.lset (its' := its ++ [u]) hH e (by simp) (r.append (.cons ru .nil)) ?_, rfl, q⟩
  rw [List.length_append, List.length_singleton]
  omega
def rExtend : V → List V → Hp → VK → Prop := fun x vs H Q => ∃ l b xs zs, x = .ref l ∧ vs = [.ref b] ∧ H l = some (.lst xs) ∧ H b = some (.lst zs) ∧ xs.length + zs.length ≤ sizeLine ∧ Q .non (upd H l (.lst (xs ++ zs)))
def rPop : V → List V → Hp → VK → Prop := fun x vs H Q => ∃ l xs y, x = .ref l ∧ vs = [] ∧ H l = some (.lst xs) ∧ xs[xs.length - 1]? = some y ∧ Q y (upd H l (.lst xs.dropLast))
theorem mt_pop : MtM X "list.pop" rPop := by
  intro pins s σ H x vs v us Q I rx rv h
  obtain ⟨l, xs, y, rfl, rfl, hH, hy, q⟩ := h
  cases rx
  have hus := rv.zero
  subst hus
  obtain ⟨z, its, n, r, hl, e⟩ := I.lstM hH
  obtain ⟨u, hu, ru⟩ := r.get hy
  have hy' : its.toArray[its.toArray.size - 1]? = some u := by
    show its.toArray[its.length - 1]? = some u
    rw [← Array.getElem?_toList, ← hl]
    exact hu
  refine call_meets F.slot_list_pop ⟨_, e, rfl⟩ F.entry_list_pop (F.args_list_pop_1 _) (MeetsSeq.list_pop_last l its.toArray n u hy' (by rw [List.size_toArray]; omega)) ⟨e, ?_⟩
  refine ⟨y, _, I.lset (its' := its.dropLast) hH e ?_ r.dropLast ?_, ru, q⟩
  · show its.toArray.eraseIdxIfInBounds (its.toArray.size - 1) = its.dropLast.toArray
    rw [List.size_toArray, List.eraseIdxIfInBounds_toArray, erase_last]
  · rw [List.length_dropLast]
    omega
def rPopAt : V → List V → Hp → VK → Prop := fun x vs H Q => ∃ l xs i k y, x = .ref l ∧ vs = [.int i] ∧ H l = some (.lst xs) ∧ -(2 ^ 63) ≤ i ∧ i < 2 ^ 63 ∧ seqIndex? i xs.length = some k ∧ xs[k]? = some y ∧ Q y (upd H l (.lst (xs.eraseIdx k)))
def rReverse : V → List V → Hp → VK → Prop := fun x vs H Q => ∃ l xs, x = .ref l ∧ vs = [] ∧ H l = some (.lst xs) ∧ Q .non (upd H l (.lst xs.reverse))
def rClear : V → List V → Hp → VK → Prop := fun x vs H Q => ∃ l xs, x = .ref l ∧ vs = [] ∧ H l = some (.lst xs) ∧ Q .non (upd H l (.lst []))
def rCat : R2 := fun x y H Q => ∃ l b xs zs, x = .ref l ∧ y = .ref b ∧ H l = some (.lst xs) ∧ H b = some (.lst zs) ∧ xs.length + zs.length ≤ sizeLine ∧ ∀ p, H p = none → Q (.ref p) (upd H p (.lst (xs ++ zs)))
theorem op_cat : OpR X (binaryOp .Add) rCat := by
  intro pins s σ H x y v u Q I rx ry h
  obtain ⟨l, b, xs, zs, rfl, rfl, hH, hB, hz, q⟩ := h
  cases rx
  cases ry
  obtain ⟨z, its, n, r, hl, e⟩ := I.lstM hH
  obtain ⟨z2, its2, n2, r2, hl2, e2⟩ := I.lstM hB
  refine PySem.P.add_list e e2 ?_ (by rw [List.size_toArray, List.size_toArray]; omega)
  have ea : its.toArray ++ its2.toArray = (its ++ its2).toArray := by simp
  rw [ea]
  exact ⟨.ref _, _, I.lnew (t' := s.toks) (r.append r2) (by rw [List.length_append]; omega), rfl, q _ I.fresh⟩
def rRep : R2 := fun x y H Q => ∃ l k xs, x = .ref l ∧ y = .int k ∧ H l = some (.lst xs) ∧ -(2 ^ 63) ≤ k ∧ k < 2 ^ 63 ∧ xs.length * k.toNat ≤ sizeLine ∧
  ∀ p, H p = none → Q (.ref p) (upd H p (.lst (List.replicate k.toNat xs).flatten))
theorem len_rep {α : Type} (xs : List α) (k : Nat) : (List.replicate k xs).flatten.length = k * xs.length := by
  induction k with
  | zero => simp
  | succ k ih => rw [List.replicate_succ, List.flatten_cons, List.length_append, ih, Nat.succ_mul, Nat.add_comm]
theorem op_rep : OpR X (binaryOp .Mult) rRep := by
  intro pins s σ H x y v u Q I rx ry h
  obtain ⟨l, k, xs, rfl, rfl, hH, h1, h2, hz, q⟩ := h
  cases rx
  obtain ⟨t, rfl⟩ := ry
  obtain ⟨z, its, n, r, hl, e⟩ := I.lstM hH
  have hlen : its.toArray.size * k.toNat ≤ sizeLine := by rw [List.size_toArray, ← hl]; exact hz
  have hcap : ¬ its.toArray.size * k.toNat > (2 ^ 63 - 1) / 8 := by
    have : (sizeLine : Nat) ≤ (2 ^ 63 - 1) / 8 := by decide
    omega
  have hfit : ¬ (!Builtin.List.listFitsIndex k) = true := by
    rw [fitsIndex_both h1 h2]
    exact Bool.false_ne_true
  have hlong : ¬ Builtin.List.listTooLong (its.toArray.size * k.toNat) = true := by
    rw [notLongL hlen]
    exact Bool.false_ne_true
  have hnew : List.foldl (fun x1 x2 => x1 ++ x2) #[] (List.replicate (if its.toArray.isEmpty = true then 0 else k.toNat) its.toArray) = (List.replicate k.toNat its).flatten.toArray := by
    have f0 : ∀ m : Nat, List.foldl (fun x1 x2 => x1 ++ x2) #[] (List.replicate m its.toArray) = (List.replicate m its).flatten.toArray := fun m => by
      have := foldl_rep its m []
      rw [List.nil_append] at this
      exact this
    rw [f0]
    cases its with
    | nil => simp
    | cons a r' => rw [if_neg (by simp)]
  refine wpAny_binaryOp_repeat_ref (T := "list") (U := "int") (by decide) ⟨_, e, rfl⟩ (fun s' => typeIs_int s' k t) noFill_list_mul F.fills_int_mul F.slot_int_rmul repeat_list F.slot_int_index.lookup
    (call_meets F.slot_int_rmul (typeIs_int s k t) F.entry_int_rmul (F.args_int_rmul_2 _ _) (int___rmul___int_list k t l its.toArray n)
      ⟨e, rfl, ⟨_, e, rfl⟩, call_meets F.slot_list_mul ⟨_, e, rfl⟩ F.entry_list_mul (F.args_list_mul_2 _ _) (AutoListH.list___mul___list_int_3 l its.toArray n k t hfit hcap hlong) ⟨e, ?_⟩⟩)
  rw [hnew]
  exact ⟨.ref _, _, I.lnew (t' := s.toks) (r.rep k.toNat) (by rw [len_rep, Nat.mul_comm]; exact hz), rfl, q _ I.fresh⟩
end
section
variable {prog : Program} {w : World} {A : Around} {E : Value → Shared → Prop} {s : Shared}
end
section
variable {X : Cx}
end
end L2
namespace Att
open PySem PySem.W PySem.Calls PyProof.Rows
theorem ints_of_wellAll {P : Params} {h : Heap} : ∀ (ns : List Int) (vs : List Value), WellAll P h vs (ns.map WData.int) → IntsAre vs ns := by
  intro ns
  induction ns with
  | nil =>
    intro vs w
    rw [List.map_nil] at w
    cases w
    exact .nil
  | cons n ns ih =>
    intro vs w
    rw [List.map_cons] at w
    cases w with
    | cons a b =>
      cases a
      exact .cons _ _ (ih _ b)
theorem script_of {l : OpenLaw} {n : Nat} (hn : l.most = some n) {P : Params} {h : Heap} {args : List WData} {vals : List Value}
    (hpre : l.row.toRowW.claim.pre args = true) (hwl : WellAll P h vals args) :
    ∃ a vs ns, vals = [Value.ref a] ∧ args = [WData.list (ns.map WData.int)] ∧ h.get? a = some { cls := .type "list", data := .seq vs.toArray } ∧ IntsAre vs ns ∧ ns.length ≤ n := by
  have hsh : WShape.hasAll [] args [.list .int] = true := (pre_splitW hpre).1
  have hc : l.pre.holds [] { args := args } = true := (pre_splitW hpre).2
  obtain ⟨d, r, rfl, h1, h2⟩ := hasAllW_cons hsh
  obtain rfl := hasAllW_nil h2
  obtain ⟨xs, rfl, h3⟩ := hasW_list h1
  obtain ⟨ns, rfl⟩ := items_int h3
  have hlen : ns.length ≤ n := by
    unfold OpenLaw.pre at hc
    have h4 : (WTm.not (.lt (.lit (.int (n : Int))) (.len (.arg 0)))).holds [] { args := [.list (ns.map .int)] } = true := by
      have h4 := (holds_andW hc).1
      rw [hn] at h4
      exact h4
    have h5 := condW_of h4 (w_not (w_lt w_lit (w_len_list (w_arg rfl))))
    rw [List.length_map] at h5
    refine Nat.le_of_not_lt fun q => ?_
    have q' : (n : Int) < ((ns.length : Nat) : Int) := by omega
    first
      | (rw [decide_eq_true q'] at h5; exact absurd h5 (by decide))
      | (simp at h5; omega)
  cases hwl with
  | cons w1 w2 =>
    cases w2
    cases w1 with
    | list ho hall => exact ⟨_, _, ns, rfl, rfl, ho, ints_of_wellAll ns _ hall, hlen⟩
theorem post_true (l : OpenLaw) (args : List WData) : l.row.toRowW.claim.post args (.bool true) args = true :=
  postW_of (r := l.row.toRowW) (X := (true == true))
    (show WShape.has [] (.bool true) .bool = true by first | rfl | decide | simp [WShape.has, WShape.arms, WShape.armsAll])
    (show (WTm.eq .res (.lit (.bool true))).value [] { args := args, res := some (.bool true), after := args } = some (.bool (true == true)) from w_eq_bool (w_res rfl) w_lit) rfl
theorem attach_call {l : OpenLaw} {n : Nat} {q : Program} {loose : List Str} {XP : (Str → Option Value) → Heap → Prop} {YP : World → Heap → Prop} {d : DefRec}
    (hn : l.most = some n) (hdf : d.params.defaults = [])
    (call : ∀ (w : World) (s₀ s₁ : Shared) (mg mb : Str → Option Value) (fa : Addr) (o : Obj) (pm cd doc : Value) (a : Addr) (vs : List Value) (ns : List Int),
      Ground q loose [] XP w s₀ mg mb s₁.heap → YP w s₁.heap →
      s₁.heap.get? fa = some o → o.data = .func (docDef d.name d.params d.body d.scope pm cd doc) → s₁.heap.CodeRec cd d.name → mg d.name = some (.ref fa) →
      s₁.heap.get? a = some { cls := .type "list", data := .seq vs.toArray } → IntsAre vs ns → ns.length ≤ n → s₁.gens = #[] →
      codeAny (model l.prog w) callerA (.call (.ref fa) ⟨[.ref a], []⟩) (fun r s' => r = .ok (.ret (.bool true)) ∧ OldK s₁.heap s'.heap ∧ s'.os = s₁.os ∧ AllBare s'.gens) s₁) :
    WalkO q loose XP YP l.row.toRowW d [] (fun f vs => PySem.call f vs) := by
  intro w s₀ s₁ mg mb G Y fa o pm cd doc dV kV ho hd hcd hD hmg hg args vals as hpre hlay hrd hwl hlo
  obtain rfl : dV = .none := Dflts.none hD hdf
  obtain rfl : kV = .none := Dflts.noKw hD
  obtain ⟨a, vs, ns, rfl, rfl, hobj, hints, hlen⟩ := script_of hn hpre hwl
  refine enter_call (codeAny_mono (call w s₀ s₁ mg mb fa o pm cd doc a vs ns G Y ho (fd_plain hd) hcd hmg hobj hints hlen hg) fun r s' hq => ?_)
  obtain ⟨rfl, h2, h3, h4⟩ := hq
  exact ⟨.inl ⟨.bool true, .bool true, [], rfl, fun _ => rfl, .bool true, post_true l _, fun _ => ⟨List.Pairwise.nil, fun _ hm => (nomatch hm)⟩⟩, h2, h3, h4⟩
section
variable {prog : Program} {w : World} {A : Around} {E : Value → Shared → Prop} {s : Shared} {K : Frag}
def noObjs (h : Heap) : Heap := { h with objs := #[] }
def ledger (h : Heap) (L d : Addr) : List (Addr × Obj) := (List.range h.objs.size).filterMap fun a => if a = L ∨ a = d then none else (h.get? a).map fun o => (a, o)
end
end Att
namespace L2
open PySem PySem.Spec PyProof.Rows
theorem vals_ints : ∀ {vs : List Value} {ns : List Int}, IntsAre vs ns → Vals (ns.map V.int) vs
  | _, _, .nil => .nil
  | _, _, .cons n t h => .cons ⟨t, rfl⟩ (vals_ints h)
def Only (H : Hp) : Prop := ∀ b, H b = none ∨ ∃ o xs, H b = some (.frz o (.lst xs))
theorem law_call {P : Program} {w : World} {K : PySem.W.Frag} {mg mb : Str → Option Value} {CX : CXT} {k : Nat} {fa a : Addr} {fd : FuncData} {x : Str} {sp : Sp} {s₁ : Shared} {vs : List Value} {ns : List Int}
    (KX : K.In s₁.heap) (hns : s₁.heap.Ns mainGlobals mg) (hb : s₁.heap.Ns builtinsNs mb) (hbb : ∀ x : Str, x ≠ "__name__" → mb x = bootBuiltins x) (hlim : s₁.heap.NoLimit) (hg : s₁.gens = #[])
    (ha : s₁.heap.get? a = some { cls := .type "list", data := .seq vs.toArray }) (hi : IntsAre vs ns) (hl : ns.length ≤ sizeLine) (hr : Room k callerA)
    (F : ∀ base : Heap, K.In base → base.Ns mainGlobals mg → FnOk P w K mg base CX k fa fd [x] sp) (hbind : ∀ (s : Shared) (u : Value), BindsTo s fd ⟨[u], []⟩ [(x, u)])
    (hsp : ∀ H : Hp, Only H → SqL K H a (ns.map V.int) → sp [.ref a] H (fun v _ => v = .bl true) fun _ _ _ => False)
    (hCX : ∀ H e s', CX [] H s₁ (fun _ _ _ => False) e s' → False) :
    codeAny (model P w) callerA (.call (.ref fa) ⟨[.ref a], []⟩) (fun r s' => r = .ok (.ret (.bool true)) ∧ OldK s₁.heap s'.heap ∧ s'.os = s₁.os ∧ AllBare s'.gens) s₁ := by
  have rv := vals_ints hi
  have lenV := hi.length
  have core : ∀ H : Hp, Only H → SqL K H a (ns.map V.int) → HOk P w H s₁.heap → (∀ b, H b ≠ none → b = a) → (H a ≠ none → K.lookup a = none) →
      codeAny (model P w) callerA (.call (.ref fa) ⟨[.ref a], []⟩) (fun r s' => r = .ok (.ret (.bool true)) ∧ OldK s₁.heap s'.heap ∧ s'.os = s₁.os ∧ AllBare s'.gens) s₁ := by
    intro H hO hS hok hA hK
    have base_of : ∀ {b : Addr} {o : Obj}, s₁.heap.get? b = some o → H b = none → (hidT s₁.heap H).get? b = some o := fun e n => hidT_get e n
    have noA : ∀ {b : Addr} {o : Obj} {es : Array DictEntry} {ep : Nat}, s₁.heap.get? b = some o → o.data = .dict es ep → H b = none := fun {b o es ep} e d => by
      cases q : H b with
      | none => rfl
      | some u =>
        have e' : b = a := hA b (by rw [q]; simp)
        subst e'
        rw [ha] at e; cases e
        have d' : Data.seq vs.toArray _ = Data.dict es ep := d
        cases d'
    have nsK : ∀ {b : Addr} {m : Str → Option Value}, s₁.heap.Ns b m → (hidT s₁.heap H).Ns b m := fun {b m} ⟨o, es, ep, e, d, r⟩ => ⟨o, es, ep, base_of e (noA e d), d, r⟩
    have hKb : K.In (hidT s₁.heap H) := fun b o e => base_of (KX b o e) (by
      cases q : H b with
      | none => rfl
      | some u =>
        have e' : b = a := hA b (by rw [q]; simp)
        subst e'
        rw [hK (by rw [q]; simp)] at e; cases e)
    have hM : Mod K mg (hidT s₁.heap H) := ⟨hKb, nsK hns, ⟨mb, nsK hb, hbb⟩, let ⟨mc, h1, h2⟩ := hlim; ⟨mc, nsK h1, h2⟩⟩
    have e0 : Env0 P w K mg (hidT s₁.heap H) callerA [] s₁ H := ⟨rfl, hM, fun b o e => of_hidT e, Nat.le_of_eq (hidT_size _ _), trivial, fun b hb => absurd (show b ∈ ([] : List Addr) from hb) (by simp), hok, .of_eq hg⟩
    refine codeAny_mono ((F _ hKb (nsK hns)).run callerA [] s₁ H ⟨[.ref a], []⟩ [.ref a] [.ref a] _ _ hr e0 (hbind s₁ (.ref a)) (.cons rfl .nil) (hsp H hO hS)) fun r s' h => ?_
    cases r with
    | error e => exact (hCX H e s' h).elim
    | ok fl =>
      cases fl with
      | next => exact False.elim h
      | brk => exact False.elim h
      | cont => exact False.elim h
      | ret u =>
        obtain ⟨v, H', os, bare, un, hok', r', q⟩ := h
        have q' : v = .bl true := q
        subst q'
        obtain rfl : u = Value.bool true := r'
        refine ⟨rfl, OldK.of_keep fun b o e => ?_, os, bare⟩
        cases q : H b with
        | none => exact un.keep b o e q (by intro z; exact absurd (show b ∈ ([] : List Addr) from z) (by simp)) (by simp)
        | some u =>
          rcases hO b with z | ⟨ob, xs, z⟩
          · rw [q] at z; cases z
          · have z2 := un.frzs b ob _ z
            obtain ⟨e1, _⟩ := hok b _ z
            obtain ⟨e2, _⟩ := hok' b _ z2
            rw [e] at e1; cases e1
            exact e2
  cases hk : K.lookup a with
  | some o =>
    have e := KX a o hk
    rw [ha] at e
    cases e
    refine core (fun _ => none) (fun _ => .inl rfl) (.inr ⟨_, vs.toArray, _, hk, rfl, rfl, rfl, by rw [List.size_toArray, lenV]; exact hl, by simpa using rv⟩) (fun b u z => by have z' : (none : Option HO) = some u := z; cases z') (fun b z => absurd rfl z) fun z => absurd rfl z
  | none =>
    refine core (fun b => if b = a then some (.frz { cls := .type "list", data := .seq vs.toArray } (.lst (ns.map V.int))) else none) (fun b => ?_) (.inl (.inr ⟨{ cls := .type "list", data := .seq vs.toArray }, if_pos rfl⟩)) (fun b u z => ?_) (fun b z => ?_) fun _ => hk
    · by_cases hb : b = a
      · exact .inr ⟨_, _, if_pos hb⟩
      · exact .inl (if_neg hb)
    · by_cases hb : b = a
      · have z' := (if_pos hb).symm.trans z
        cases z'
        subst hb
        exact ⟨ha, by rw [List.length_map]; exact hl, vs, _, rv, ha⟩
      · have z' := (if_neg hb).symm.trans z
        cases z'
    · by_cases hb : b = a
      · exact hb
      · exact absurd (if_neg hb) z
end L2
namespace L2
open PySem PySem.Spec PyProof.Rows
abbrev KOf {K : PySem.W.Frag} {h : Heap} (_ : K.In h) : PySem.W.Frag := K
theorem walk_of {l : PySem.W.OpenLaw} {n k : Nat} {q : Program} {loose : List Str} {XP : (Str → Option Value) → Heap → Prop} {YP : World → Heap → Prop} {d : DefRec} {K : Params → PySem.W.Frag} {CX : World → CXT} {sp : World → Sp} {x : Str}
    (hn : l.most = some n) (hn2 : n ≤ sizeLine) (hdf : d.params.defaults = []) (hr : Room k callerA)
    (hY : ∀ (w : World) (h : Heap), YP w h → (K w.params).In h)
    (F : ∀ (w : World) (mg : Str → Option Value) (fa : Addr) (h : Heap), (K w.params).In h → h.Ns mainGlobals mg → mg d.name = some (.ref fa) →
      ∃ fd : FuncData, (∀ (s : Shared) (u : Value), BindsTo s fd ⟨[u], []⟩ [(x, u)]) ∧
        ∀ base : Heap, (K w.params).In base → base.Ns mainGlobals mg → FnOk l.prog w (K w.params) mg base (CX w) k fa fd [x] (sp w))
    (hsp : ∀ (w : World) (H : Hp) (a : Addr) (ns : List Int), ns.length ≤ n → Only H → SqL (K w.params) H a (ns.map V.int) → sp w [.ref a] H (fun v _ => v = .bl true) fun _ _ _ => False)
    (hCX : ∀ (w : World) (H : Hp) (s : Shared) (e : Value) (s' : Shared), CX w [] H s (fun _ _ _ => False) e s' → False) :
    PySem.W.WalkO q loose XP YP l.row.toRowW d [] (fun f vs => PySem.call f vs) := by
  refine Att.attach_call hn hdf fun w s₀ s₁ mg mb fa o pm cd doc a vs ns G Y ho hd hcd hmg hobj hints hlen hg => ?_
  have KX := hY w _ Y
  obtain ⟨fd, hb, hF⟩ := F w mg fa _ KX G.T.g hmg
  exact law_call KX G.T.g G.T.b G.T.builtins G.T.nolimit hg hobj hints (Nat.le_trans hlen hn2) hr hF hb (fun H hO hS => hsp w H a ns hlen hO hS) fun H e s' => hCX w H s₁ e s'
theorem walk_ofK {l : PySem.W.OpenLaw} {n k : Nat} {q : Program} {loose : List Str} {XP : (Str → Option Value) → Heap → Prop} {YP : World → Heap → Prop} {d : DefRec} {K : Params → PySem.W.Frag} {CX : CXT} {sp : PySem.W.Frag → Sp} {x : Str}
    (hn : l.most = some n) (hn2 : n ≤ sizeLine) (hdf : d.params.defaults = []) (hr : Room k callerA)
    (hY : ∀ (w : World) (h : Heap), YP w h → (K w.params).In h)
    (F : ∀ (w : World) (mg : Str → Option Value) (fa : Addr) (h : Heap), (K w.params).In h → h.Ns mainGlobals mg → mg d.name = some (.ref fa) →
      ∃ fd : FuncData, (∀ (s : Shared) (u : Value), BindsTo s fd ⟨[u], []⟩ [(x, u)]) ∧
        ∀ base : Heap, (K w.params).In base → base.Ns mainGlobals mg → FnOk l.prog w (K w.params) mg base CX k fa fd [x] (sp (K w.params)))
    (hsp : ∀ (K : PySem.W.Frag) (H : Hp) (a : Addr) (ns : List Int), ns.length ≤ n → Only H → SqL K H a (ns.map V.int) → sp K [.ref a] H (fun v _ => v = .bl true) fun _ _ _ => False)
    (hCX : ∀ (H : Hp) (s : Shared) (e : Value) (s' : Shared), CX [] H s (fun _ _ _ => False) e s' → False) :
    PySem.W.WalkO q loose XP YP l.row.toRowW d [] (fun f vs => PySem.call f vs) :=
  walk_of (K := K) (CX := fun _ => CX) (sp := fun w => sp (K w.params)) hn hn2 hdf hr hY F (fun w H a ns h1 h2 h3 => hsp (K w.params) H a ns h1 h2 h3) fun _ H s e s' => hCX H s e s'
end L2
namespace L2
open PySem PySem.Spec PyProof.Rows
def inClass (s : Stmt) (j : Nat) : Stmt := match s with
  | .ClassDef _ _ _ body _ _ _ _ _ _ _ => body.getD j (.Pass ⟨0, 0, 0, 0⟩)
  | _ => .Pass ⟨0, 0, 0, 0⟩
def defArgs (s : Stmt) : Arguments := match s with
  | .FunctionDef _ a _ _ _ _ _ _ _ _ => a
  | _ => { posonlyargs := [], args := [], vararg := none, kwonlyargs := [], kw_defaults := [], kwarg := none, defaults := [] }
def defBody (s : Stmt) : List Stmt := match s with
  | .FunctionDef _ _ b _ _ _ _ _ _ _ => b
  | _ => []
def defScope (s : Stmt) : Scope := match s with
  | .FunctionDef _ _ _ _ _ _ sc _ _ _ => sc
  | _ => { kind := .function, names := [], isGenerator := false, isCoroutine := false }
abbrev CX0 : CXT := fun _ _ _ _ _ _ => False
abbrev E0 : XK := fun _ _ _ => False
theorem pass0 {X : Cx} : Passes CX0 X E0 := fun _ _ _ _ _ _ _ h => h.elim
structure Fun (K : PySem.W.Frag) (x qual : Str) (st : Stmt) (f : Addr) (fd : FuncData) : Prop where
  ex : ∃ (oc : Value) (od : Option Addr) (kV doc pm : Value) (an : Option Addr) (cdv ct : Value) (osl : Array (Option Value)),
    fd = PySem.W.fnOf x qual (defArgs st) (defBody st) (defScope st) .none kV doc pm an cdv ct ∧ K.lookup f = some ⟨oc, od, .func fd, osl⟩ ∧ PySem.W.codeIn K cdv qual = true
  kp : PySem.W.keepIn K (.ref f) = true
section
variable {P : Program} {w : World} {K : PySem.W.Frag} {mg : Str → Option Value} {base : Heap}
theorem Fun.ok {x qual : Str} {st : Stmt} {f : Addr} {fd : FuncData} {N ps : List Str} {k : Nat} {sp : Sp} (F : Fun K x qual st f fd) (S : FnScope N ps (defScope st)) (len : ∀ vs H Q E, sp vs H Q E → vs.length = ps.length)
    (hbody : ∀ (cdv : Value) (A : Around) (outer : List Env) (s : Shared) (H : Hp) (vs : List V) (Q : VK) (E : XK), Room k (A.deeper (envOfC qual (defScope st) s.heap.objs.size f cdv)) → sp vs H Q E →
      ∃ t, PSs (cxOf CX0 P w K mg base N qual (defScope st) f cdv A outer s H E).nox (defBody st) t ∧ t { nx := fun _ H' => Q .non H', rt := Q } (start N vs) H) : FnOk P w K mg base CX0 (k + 1) f fd ps sp := by
  obtain ⟨oc, od, kV, doc, pm, an, cdv, ct, osl, rfl, lk, hcd⟩ := F.ex
  refine fn_of lk hcd S len fun A outer s H vs Q E hr hsp => ?_
  obtain ⟨t, h, q⟩ := hbody cdv A outer s H vs Q E hr hsp
  exact ⟨t, h.nox, q⟩
theorem Fun.binds {x qual : Str} {st : Stmt} {f : Addr} {fd : FuncData} {ps : List Str} (F : Fun K x qual st f fd)
    (h : ∀ (kV doc pm : Value) (an : Option Addr) (cdv ct : Value) (us : List Value), us.length = ps.length → bindArgs (PySem.W.fnOf x qual (defArgs st) (defBody st) (defScope st) .none kV doc pm an cdv ct) ⟨us, []⟩ = pure (ps.zip us)) : Binds K fd ps [] := by
  obtain ⟨oc, od, kV, doc, pm, an, cdv, ct, osl, rfl, lk, hcd⟩ := F.ex
  exact .all (h kV doc pm an cdv ct)
theorem fun_mk {x qual : Str} {st : Stmt} {f : Addr} {oc : Value} {od an : Option Addr} {osl : Array (Option Value)} {kV doc pm cdv ct : Value} (l : K.lookup f = some ⟨oc, od, .func (PySem.W.fnOf x qual (defArgs st) (defBody st) (defScope st) .none kV doc pm an cdv ct), osl⟩)
    (c : PySem.W.codeIn K cdv qual = true) (k : PySem.W.keepIn K (.ref f) = true) : Fun K x qual st f (PySem.W.fnOf x qual (defArgs st) (defBody st) (defScope st) .none kV doc pm an cdv ct) := ⟨⟨oc, od, kV, doc, pm, an, cdv, ct, osl, rfl, l, c⟩, k⟩
end
theorem hu_of {A : Around} {k : Nat} (hr : Room k A) : A.units + 1 < cLine := Nat.lt_of_le_of_lt (Nat.add_le_add_left (by decide : 1 ≤ 64) _) hr.units
section
variable {X : Cx}
end
theorem iteF {A B : Prop} (h : B) : if false = true then A else B := by
  rw [if_neg Bool.false_ne_true]
  exact h
theorem iteT {A B : Prop} (h : A) : if true = true then A else B := by
  rw [if_pos rfl]
  exact h
theorem ite2 {c A B : Prop} [Decidable c] (h1 : c → A) (h2 : ¬ c → B) : if c then A else B := by
  by_cases h : c
  · rw [if_pos h]
    exact h1 h
  · rw [if_neg h]
    exact h2 h
def Same (H H' : Hp) : Prop := ∀ b o, H b = some o → H' b = some o
end L2

namespace L2
open PySem PySem.Spec PyProof.Rows
section
variable {κ : Type} [DecidableEq κ]
def valV (kvs : List (κ × V)) (k : κ) : Option V := (kvs.find? fun kv => decide (kv.1 = k)).map (·.2)
def putK (kvs : List (κ × V)) (k : κ) (v : V) : List (κ × V) :=
  if (kvs.any fun kv => decide (kv.1 = k)) = true then kvs.map (fun kv => if kv.1 = k then (kv.1, v) else kv) else kvs ++ [(k, v)]
def dropK (kvs : List (κ × V)) (k : κ) : List (κ × V) := kvs.filter fun kv => decide (kv.1 ≠ k)
theorem valV_pos {p : κ × V} {r : List (κ × V)} {k : κ} (e : p.1 = k) : valV (p :: r) k = some p.2 := by simp [valV, List.find?_cons, e]
theorem valV_neg {p : κ × V} {r : List (κ × V)} {k : κ} (e : ¬ p.1 = k) : valV (p :: r) k = valV r k := by simp [valV, List.find?_cons, e]
theorem valV_any (k : κ) : ∀ kvs : List (κ × V), (kvs.any fun kv => decide (kv.1 = k)) = (valV kvs k).isSome
  | [] => rfl
  | p :: r => by
    rw [List.any_cons]
    by_cases e : p.1 = k
    · simp only [valV_pos e, decide_eq_true e, Bool.true_or, Option.isSome_some]
    · rw [valV_neg e, decide_eq_false e, Bool.false_or]; exact valV_any k r
theorem valV_map (k j : κ) (y : V) : ∀ kvs : List (κ × V), valV (kvs.map fun kv => if kv.1 = k then (kv.1, y) else kv) j = (valV kvs j).map fun x => if j = k then y else x
  | [] => rfl
  | p :: r => by
    have ih := valV_map k j y r
    rw [List.map_cons]
    by_cases h : p.1 = k
    · rw [if_pos h]
      by_cases e : p.1 = j
      · rw [valV_pos (p := (p.1, y)) e, valV_pos e, Option.map_some, if_pos (e.symm.trans h)]
      · rw [valV_neg (p := (p.1, y)) e, valV_neg e, ih]
    · rw [if_neg h]
      by_cases e : p.1 = j
      · rw [valV_pos (p := p) e, valV_pos e, Option.map_some, if_neg (fun z => h (e.trans z))]
      · rw [valV_neg (p := p) e, valV_neg e, ih]
theorem valV_snoc (k j : κ) (y : V) : ∀ kvs : List (κ × V), valV kvs k = none → valV (kvs ++ [(k, y)]) j = if j = k then some y else valV kvs j
  | [], _ => by
    by_cases e : k = j
    · rw [if_pos e.symm]; exact valV_pos (p := (k, y)) e
    · rw [if_neg (fun z => e z.symm)]; exact valV_neg (p := (k, y)) e
  | p :: r, hn => by
    rw [List.cons_append]
    have hk : ¬ p.1 = k := fun z => by rw [valV_pos z] at hn; cases hn
    rw [valV_neg hk] at hn
    have ih := valV_snoc k j y r hn
    by_cases e : p.1 = j
    · rw [valV_pos e, valV_pos e, if_neg (fun z => hk (e.trans z))]
    · rw [valV_neg e, valV_neg e, ih]
theorem valV_put (kvs : List (κ × V)) (k j : κ) (y : V) : valV (putK kvs k y) j = if j = k then some y else valV kvs j := by
  unfold putK
  by_cases a : (kvs.any fun kv => decide (kv.1 = k)) = true
  · rw [if_pos a, valV_map]
    rw [valV_any] at a
    by_cases e : j = k
    · obtain ⟨x, hx⟩ := Option.isSome_iff_exists.mp a
      rw [if_pos e, e, hx, Option.map_some, if_pos rfl]
    · rw [if_neg e]
      cases valV kvs j with
      | none => rfl
      | some x => rw [Option.map_some, if_neg e]
  · rw [if_neg a]
    refine valV_snoc k j y kvs ?_
    rw [valV_any] at a
    cases q : valV kvs k with
    | none => rfl
    | some x => rw [q] at a; exact (a rfl).elim
theorem length_putK (kvs : List (κ × V)) (k : κ) (v : V) : (putK kvs k v).length ≤ kvs.length + 1 := by
  unfold putK
  split
  · rw [List.length_map]; omega
  · rw [List.length_append, List.length_cons, List.length_nil]; omega
theorem RelO.isSome_eq {o : Option V} {u : Option Value} (r : RelO o u) : o.isSome = u.isSome := by
  cases o with
  | none => cases u with
    | none => rfl
    | some _ => exact (show False from r).elim
  | some _ => cases u with
    | none => exact (show False from r).elim
    | some _ => rfl
theorem KV.val {kvs : List (κ × V)} {vs : List (κ × Value)} (r : KV kvs vs) (k : κ) : RelO (valV kvs k) (valueAt vs k) := by
  unfold KV at r
  induction r with
  | nil => exact True.intro
  | @cons p q ps qs h t ih =>
    obtain ⟨h1, h2⟩ := h
    by_cases e : p.1 = k
    · have e' : q.1 = k := h1.symm.trans e
      have b : valueAt (q :: qs) k = some q.2 := by simp [valueAt, List.find?_cons, e']
      rw [valV_pos e, b]; exact h2
    · have e' : ¬ q.1 = k := fun z => e (h1.trans z)
      have b : valueAt (q :: qs) k = valueAt qs k := by simp [valueAt, List.find?_cons, e']
      rw [valV_neg e, b]; exact ih
theorem KV.any {kvs : List (κ × V)} {vs : List (κ × Value)} (r : KV kvs vs) (k : κ) : (kvs.any fun kv => decide (kv.1 = k)) = vs.any fun kv => decide (kv.1 = k) := by
  unfold KV at r
  induction r with
  | nil => rfl
  | cons h t ih => rw [List.any_cons, List.any_cons, ih, h.1]
theorem KV.repl {kvs : List (κ × V)} {vs : List (κ × Value)} (r : KV kvs vs) (k : κ) {y : V} {u : Value} (ry : RelV y u) :
    KV (kvs.map fun kv => if kv.1 = k then (kv.1, y) else kv) (vs.map fun kv => if kv.1 = k then (kv.1, u) else kv) := by
  unfold KV at r ⊢
  induction r with
  | nil => exact .nil
  | @cons p q ps qs h t ih =>
    rw [List.map_cons, List.map_cons]
    refine .cons ?_ ih
    obtain ⟨h1, h2⟩ := h
    by_cases e : p.1 = k
    · rw [if_pos e, if_pos (h1.symm.trans e)]; exact ⟨h1, ry⟩
    · rw [if_neg e, if_neg (fun z => e (h1.trans z))]; exact ⟨h1, h2⟩
theorem KV.put {kvs : List (κ × V)} {vs : List (κ × Value)} (r : KV kvs vs) (k : κ) {y : V} {u : Value} (ry : RelV y u) : KV (putK kvs k y) (stored vs k u) := by
  unfold putK stored
  rw [r.any k]
  by_cases e : (vs.any fun kv => decide (kv.1 = k)) = true
  · rw [if_pos e, if_pos e]; exact r.repl k ry
  · rw [if_neg e, if_neg e]; exact Paired.snoc r ⟨rfl, ry⟩
theorem KV.length {kvs : List (κ × V)} {vs : List (κ × Value)} (r : KV kvs vs) : kvs.length = vs.length := Paired.length r
end
theorem kV_is {P : Program} {w : World} {k : Key} {u : Value} (r : RelV (kV k) u) : (mixKind P w).is k u = true := by
  cases k with
  | inl i => obtain ⟨t, e⟩ := (show ∃ t, u = Value.int i t from r); subst e; exact mixKind_int P w i t
  | inr x => obtain ⟨t, e⟩ := (show ∃ t, u = Value.str x t from r); subst e; exact mixKind_str P w x t
theorem items_are {P : Program} {w : World} : ∀ {ks : List Key} {us : List Value}, Vals (ks.map kV) us → ItemsAre (mixKind P w) ks us
  | [], _, r => by rw [List.map_nil] at r; cases r; exact .nil
  | k :: ks, _, r => by
    rw [List.map_cons] at r
    cases r with
    | cons h t => exact .cons (kV_is h) (items_are t)
abbrev KT (H : Hp) : List (List Key × V) → List (List Key × Addr × Value) → Prop := Paired fun p q => p.1 = q.1 ∧ H q.2.1 = some (.tup (p.1.map kV)) ∧ RelV p.2 q.2.2
theorem KT.val {H : Hp} {kvs : List (List Key × V)} {xs : List (List Key × Addr × Value)} (r : KT H kvs xs) (k : List Key) : RelO (valV kvs k) ((atKey xs k).map (·.2)) := by
  induction r with
  | nil => exact True.intro
  | @cons p q ps qs h t ih =>
    obtain ⟨h1, _, h2⟩ := h
    by_cases e : p.1 = k
    · have e' : q.1 = k := h1.symm.trans e
      have b : atKey (q :: qs) k = some q.2 := by simp [atKey, List.find?_cons, e']
      rw [valV_pos e, b]; exact h2
    · have e' : ¬ q.1 = k := fun z => e (h1.trans z)
      have b : atKey (q :: qs) k = atKey qs k := by simp [atKey, List.find?_cons, e']
      rw [valV_neg e, b]; exact ih
theorem KT.repl {H : Hp} {kvs : List (List Key × V)} {xs : List (List Key × Addr × Value)} (r : KT H kvs xs) (k : List Key) {y : V} {u : Value} (ry : RelV y u) :
    KT H (kvs.map fun kv => if kv.1 = k then (kv.1, y) else kv) (xs.map (putAt k u)) := by
  induction r with
  | nil => exact .nil
  | @cons p q ps qs h t ih =>
    rw [List.map_cons, List.map_cons]
    refine .cons ?_ ih
    obtain ⟨h1, h2, h3⟩ := h
    unfold putAt
    by_cases e : p.1 = k
    · rw [if_pos e, if_pos (h1.symm.trans e)]; exact ⟨h1, h2, ry⟩
    · rw [if_neg e, if_neg (fun z => e (h1.trans z))]; exact ⟨h1, h2, h3⟩
theorem KT.put {H : Hp} {kvs : List (List Key × V)} {xs : List (List Key × Addr × Value)} (r : KT H kvs xs) (k : List Key) {b : Addr} {y : V} {u : Value} (hb : H b = some (.tup (k.map kV))) (ry : RelV y u) :
    KT H (putK kvs k y) (storedH xs k b u) := by
  have e : (kvs.any fun kv => decide (kv.1 = k)) = (atKey xs k).isSome := by
    rw [valV_any, (r.val k).isSome_eq, Option.isSome_map]
  unfold putK storedH
  rw [e]
  by_cases q : (atKey xs k).isSome = true
  · rw [if_pos q, if_pos q]; exact r.repl k ry
  · rw [if_neg q, if_neg q]; exact Paired.snoc r ⟨rfl, hb, ry⟩
theorem KT.keeps {H H' : Hp} {kvs : List (List Key × V)} {xs : List (List Key × Addr × Value)} (r : KT H kvs xs) (ht : ∀ b ys, H b = some (.tup ys) → H' b = some (.tup ys)) : KT H' kvs xs :=
  Paired.mapP r fun _ _ z => ⟨z.1, ht _ _ z.2.1, z.2.2⟩
section
variable {P : Program} {w : World} {H : Hp} {h : Heap} {a : Addr}
theorem rd_of {u : HO} (ok : HOk P w H h) (e : Rd H a u) : ObjOk P w H h a u := e.ok ok
theorem dk_rd {kvs : List (Key × V)} (ok : HOk P w H h) (e : Rd H a (.dK kvs)) : kvs.length ≤ sizeLine ∧ (a == sysModules) = false ∧ ∃ vs, KV kvs vs ∧ h.DictOf (mixKind P w) a vs :=
  show ObjOk P w H h a (.dK kvs) from rd_of ok e
theorem dk_of {kvs : List (Key × V)} (ok : HOk P w H h) (e : H a = some (.dK kvs)) : kvs.length ≤ sizeLine ∧ (a == sysModules) = false ∧ ∃ vs, KV kvs vs ∧ h.DictOf (mixKind P w) a vs := dk_rd ok (.inl e)
theorem key_of {ks : List Key} (ok : HOk P w H h) (e : H a = some (.tup (ks.map kV))) : (tupleKind (mixKind P w)).is h ks a := by
  obtain ⟨_, its, r, o, h1, h2, n, h3⟩ := (show ObjOk P w H h a (.tup (ks.map kV)) from ok a _ e)
  exact ⟨o, its.toArray, n, h1, h2, h3, by simpa using items_are r⟩
theorem dt_rd {kvs : List (List Key × V)} (ok : HOk P w H h) (e : Rd H a (.dT kvs)) : kvs.length ≤ sizeLine ∧ (a == sysModules) = false ∧
    ∃ xs, KT H kvs xs ∧ h.DictOfH (tupleKind (mixKind P w)) a xs := by
  obtain ⟨z, y, xs, r, o, es, ep, h1, h2, h3, h4, h5⟩ := (show ObjOk P w H h a (.dT kvs) from rd_of ok e)
  refine ⟨z, y, xs, r, o, es, ep, h1, h2, h3, h4, fun x hx => ?_, h5⟩
  have all : ∀ {l : List (List Key × V)} {m : List (List Key × Addr × Value)}, KT H l m → ∀ x ∈ m, (tupleKind (mixKind P w)).is h x.1 x.2.1 := by
    intro l m q
    induction q with
    | nil => intro x hx; exact nomatch hx
    | @cons p q ps qs hq t ih =>
      intro x hx
      rcases List.mem_cons.mp hx with e | hx
      · subst e
        exact key_of ok (by rw [← hq.1]; exact hq.2.1)
      · exact ih x hx
  exact all r x hx
theorem dt_of {kvs : List (List Key × V)} (ok : HOk P w H h) (e : H a = some (.dT kvs)) : kvs.length ≤ sizeLine ∧ (a == sysModules) = false ∧
    ∃ xs, KT H kvs xs ∧ h.DictOfH (tupleKind (mixKind P w)) a xs := dt_rd ok (.inl e)
end
def DGet (H : Hp) (a : Addr) (y : V) (r : Option V) : Prop :=
  (∃ kvs k, Rd H a (.dK kvs) ∧ y = kV k ∧ r = valV kvs k) ∨ ∃ kvs k b, Rd H a (.dT kvs) ∧ y = .ref b ∧ H b = some (.tup (k.map kV)) ∧ r = valV kvs k
def DPut (H : Hp) (a : Addr) (y v : V) (H' : Hp) : Prop :=
  (∃ kvs k, H a = some (.dK kvs) ∧ y = kV k ∧ kvs.length < sizeLine ∧ H' = upd H a (.dK (putK kvs k v))) ∨
  ∃ kvs k b, H a = some (.dT kvs) ∧ y = .ref b ∧ H b = some (.tup (k.map kV)) ∧ kvs.length < sizeLine ∧ H' = upd H a (.dT (putK kvs k v))
theorem DGet.k {H : Hp} {a : Addr} {kvs : List (Key × V)} {k : Key} (e : H a = some (.dK kvs)) : DGet H a (kV k) (valV kvs k) := .inl ⟨kvs, k, .inl e, rfl, rfl⟩
theorem DPut.k {H : Hp} {a : Addr} {kvs : List (Key × V)} {k : Key} {v : V} (e : H a = some (.dK kvs)) (hl : kvs.length < sizeLine) : DPut H a (kV k) v (upd H a (.dK (putK kvs k v))) := .inl ⟨kvs, k, e, rfl, hl, rfl⟩
section
variable {X : Cx} {pins : List (Addr × Obj)} {σ : St} {H : Hp} {s : Shared} {a : Addr} {y v : V} {u r : Value} {o : Option V} {A : Around} {E : Value → Shared → Prop}
theorem Inv.big (I : Inv X pins σ H s) : sysModules < s.heap.objs.size := by
  have h : mainGlobals < s.heap.objs.size := (I.mod.glob.keeps I.bk).lt
  exact Nat.lt_trans (by decide) h
theorem d_getItem {Q : Value → Shared → Prop} (hu : A.units + 1 < cLine) (I : Inv X pins σ H s) (g : DGet H a y (some v)) (ry : RelV y u) (h : ∀ w' s', Inv X pins σ H s' → RelV v w' → Q w' s') :
    wpAny (model X.prog X.w) A (getItem (.ref a) u) Q E s := by
  rcases g with ⟨kvs, k, e, ey, l⟩ | ⟨kvs, k, b, e, ey, eb, l⟩
  · subst ey
    obtain ⟨z, hd, vs, rel, dd⟩ := dk_rd I.hok e
    obtain ⟨w', hw, rw'⟩ := RelO.some_of (v := v) (o := valueAt vs k) (by rw [l]; exact rel.val k)
    exact wpAny_getItem_of (kV_is ry) dd.mapOf hw (h w' _ (I.tok _) rw')
  · subst ey
    cases (show u = Value.ref b from ry)
    obtain ⟨z, hd, xs, rel, dd⟩ := dt_rd I.hok e
    obtain ⟨w', hw, rw'⟩ := RelO.some_of (v := v) (o := (atKey xs k).map (·.2)) (by rw [l]; exact rel.val k)
    obtain ⟨p, hp, hp2⟩ := Option.map_eq_some_iff.mp hw
    refine wpAny_getItem_heap (tupleKind_room_in1 hu) (key_of I.hok eb) dd hp ?_
    rw [hp2]
    exact h w' _ (I.tok _) rw'
theorem d_in {Q : Value → Shared → Prop} (hu : A.units + 1 < cLine) (I : Inv X pins σ H s) (g : DGet H a y o) (ry : RelV y u) (h : ∀ s', Inv X pins σ H s' → Q (.bool o.isSome) s') :
    wpAny (model X.prog X.w) A (compareOp .In u (.ref a)) Q E s := by
  rcases g with ⟨kvs, k, e, ey, l⟩ | ⟨kvs, k, b, e, ey, eb, l⟩
  · subst ey
    obtain ⟨z, hd, vs, rel, dd⟩ := dk_rd I.hok e
    refine wpAny_in_of (kV_is ry) hd dd.mapOf ?_
    rw [← (rel.val k).isSome_eq, ← l]
    exact h _ (I.tok _)
  · subst ey
    cases (show u = Value.ref b from ry)
    obtain ⟨z, hd, xs, rel, dd⟩ := dt_rd I.hok e
    refine wpAny_in_heap (tupleKind_room_in1 hu) (key_of I.hok eb) hd dd ?_
    have q := (rel.val k).isSome_eq
    rw [Option.isSome_map] at q
    rw [← q, ← l]
    exact h _ (I.tok _)
theorem d_write {h' : Heap} {t' : Nat} {ob : HO} (I : Inv X pins σ H s) (mu : Mut (H a)) (hs : Heap.SameBut a s.heap h') (he : ∃ q, h'.get? a = some q) (new : ObjOk X.prog X.w (upd H a ob) h' a ob) :
    Inv X pins σ (upd H a ob) { s with heap := h', toks := t' } :=
  I.write (x := a) (e := a) mu (.inl rfl) (fun b q hb z => (hs.2 b hb).trans z) he new
theorem dk_new {P : Program} {w : World} {H' : Hp} {h' : Heap} {kvs : List (Key × V)} {vs : List (Key × Value)} (z : kvs.length ≤ sizeLine) (hd : (a == sysModules) = false) (rel : KV kvs vs) (dd : h'.DictOf (mixKind P w) a vs) :
    ObjOk P w H' h' a (.dK kvs) := ⟨z, hd, vs, rel, dd⟩
theorem d_setItem {H' : Hp} {Q : Unit → Shared → Prop} (hu : A.units + 1 < cLine) (I : Inv X pins σ H s) (g : DPut H a y v H') (ry : RelV y u) (rv : RelV v r) (h : ∀ s', Inv X pins σ H' s' → Q () s') :
    wpAny (model X.prog X.w) A (setItem (.ref a) u r) Q E s := by
  rcases g with ⟨kvs, k, e, ey, l, eH⟩ | ⟨kvs, k, b, e, ey, eb, l, eH⟩
  · subst ey eH
    obtain ⟨z, hd, vs, rel, dd⟩ := dk_of I.hok e
    have hz : vs.length ≤ sizeLine := by rw [← rel.length]; exact z
    have hl : (putK kvs k v).length ≤ sizeLine := by have := length_putK kvs k v; omega
    refine wpAny_setItem_pairs (hsz := hz) (kV_is ry) dd fun h' dd' hs => h _ ?_
    have he : ∃ q, h'.get? a = some q := let ⟨q, _, _, hq, _⟩ := dd'; ⟨q, hq⟩
    exact d_write I (by rw [e]; exact True.intro) hs he (dk_new hl hd (rel.put k rv) dd')
  · subst ey eH
    cases (show u = Value.ref b from ry)
    obtain ⟨z, hd, xs, rel, dd⟩ := dt_of I.hok e
    have hz : xs.length ≤ sizeLine := by rw [← Paired.length rel]; exact z
    have hl : (putK kvs k v).length ≤ sizeLine := by have := length_putK kvs k v; omega
    refine wpAny_setItem_heap (hsz := hz) (tupleKind_room_in1 hu) (key_of I.hok eb) dd fun h' dd' hs => h _ ?_
    obtain ⟨q, es, ep, hq, h2, h3, h4, _, h5⟩ := dd'
    refine d_write I (by rw [e]; exact True.intro) hs ⟨q, hq⟩ ⟨hl, hd, _, (rel.put k eb rv).keeps fun c ys ec => ?_, q, es, ep, hq, h2, h3, h4, h5⟩
    rw [upd_ne (ne_of ec e (fun z => nomatch z))]
    exact ec
end
section
variable {X : Cx} {pins : List (Addr × Obj)} {σ : St} {H : Hp} {s : Shared} {a : Addr} {kvs : List (Key × V)} {k : Key} {u : Value} {A : Around} {E : Value → Shared → Prop}
end
def NoSl (i : Expr) : Prop := ∀ ov iv, subscripted i false ov iv = operate [ov, iv] (getItem ov iv)
theorem subD_of {prog : Program} {w : World} {A : Around} {E : Value → Shared → Prop} {s : Shared} {env : Env} {value slice : Expr} {pos : Pos} {T id : String} {Q : Value → Shared → Prop}
    (hl : typeLookup (.type T) "__getitem__" = pure (some (.builtin id))) (hs : NoSl slice)
    (h : wpAny (model prog w) A (eval value env) (fun o s₁ => wpAny (model prog w) A (eval slice env) (fun i s₂ => s₂.TypeIs o T ∧ wpAny (model prog w) A (getItem o i) Q E s₂) E s₁) E s) :
    wpAny (model prog w) A (eval (.Subscript value slice pos) env) Q E s := by
  refine Subscript_ (wpAny_mono h (fun o s₁ h₁ => wpAny_mono h₁ (fun i s₂ h₂ => ?_) fun _ _ x => x) fun _ _ x => x)
  obtain ⟨hT, h₂⟩ := h₂
  unfold subscriptTail
  refine wpAny_bind ?_
  rw [getitemInPython_of_ne hT.not_modules]
  refine wpAny_bind (wpAny_specialOf hT hl ?_)
  have fin : wpAny (model prog w) A (subscripted slice false o i) (fun r s₃ => wpAny (model prog w) A (letTemporaryGo value o r >>= fun _ => pure r) Q E s₃) E s₂ := by
    rw [hs o i]
    exact wpAny_operating (wpAny_mono h₂ (fun r s₃ h₃ => wpAny_bind (wpAny_letTemporaryGo (wpAny_pure h₃))) fun _ _ x => x)
  first
    | exact wpAny_pure (wpAny_bind fin)
    | exact wpAny_bind (wpAny_pure (wpAny_bind fin))
    | exact wpAny_bind fin
theorem dict_typeIs {X : Cx} {pins : List (Addr × Obj)} {σ : St} {H : Hp} {s : Shared} {a : Addr} {y : V} {o : Option V} (I : Inv X pins σ H s) (g : DGet H a y o) : s.TypeIs (.ref a) "dict" := by
  rcases g with ⟨kvs, k, e, _, _⟩ | ⟨kvs, k, b, e, _, _, _⟩
  · obtain ⟨_, _, vs, _, dd⟩ := dk_rd I.hok e
    exact dd.typeIs
  · obtain ⟨_, _, xs, _, dd⟩ := dt_rd I.hok e
    exact dd.typeIs
def tDGet (td ty : TE) : TE := fun σ H Q => td σ H fun x H1 => ty σ H1 fun y H2 => ∃ a v, x = .ref a ∧ DGet H2 a y (some v) ∧ Q v H2
def tDIn (ty td : TE) : TE := fun σ H Q => ty σ H fun y H1 => td σ H1 fun x H2 => ∃ a o, x = .ref a ∧ DGet H2 a y o ∧ Q (.bl o.isSome) H2
def tDNotIn (ty td : TE) : TE := fun σ H Q => ty σ H fun y H1 => td σ H1 fun x H2 => ∃ a o, x = .ref a ∧ DGet H2 a y o ∧ Q (.bl (!o.isSome)) H2
def sDPut (td ty tv : TE) : TS := fun D σ H => tv σ H fun v H1 => td σ H1 fun x H2 => ty σ H2 fun y H3 => ∃ a H4, x = .ref a ∧ DPut H3 a y v H4 ∧ D.nx σ H4
def sDAug (td ty tv : TE) (rd : V → V → Hp → VK → Prop) : TS := fun D σ H => td σ H fun x H1 => ty σ H1 fun y H2 => ∃ a v, x = .ref a ∧ DGet H2 a y (some v) ∧
  tv σ H2 fun y2 H3 => rd v y2 H3 fun z H4 => ∃ H5, DPut H4 a y z H5 ∧ D.nx σ H5
def sDDel (td ty : TE) : TS := fun D σ H => td σ H fun x H1 => ty σ H1 fun y H2 => ∃ a kvs k, x = .ref a ∧ H2 a = some (.dK kvs) ∧ y = kV k ∧ (valV kvs k).isSome = true ∧ D.nx σ (upd H2 a (.dK (dropK kvs k)))
section
variable {X : Cx} {o i e value : Expr} {pos pos' tpos : Pos} {td ty tv : TE}
theorem pe_dget (hu : X.A.units + 1 < cLine) (ho : PE X o td) (hi : PE X i ty) (hs : NoSl i) : PE X (.Subscript o i pos) (tDGet td ty) := by
  intro pins s σ H Q I h
  refine subD_of PySem.F.slot_dict_getitem.lookup hs (thn (ho pins s σ H _ I h) fun u s1 ⟨x, H1, I1, rx, q1⟩ => thn (hi pins s1 σ H1 _ I1 q1) fun iv s2 ⟨y, H2, I2, ry, a, v, ex, g, q2⟩ => ?_)
  subst ex
  obtain rfl : u = Value.ref a := rx
  exact ⟨dict_typeIs I2 g, d_getItem hu I2 g ry fun w' s3 I3 rw' => ⟨v, H2, I3, rw', q2⟩⟩
theorem pc_din (hu : X.A.units + 1 < cLine) (hi : PE X i ty) (ho : PE X o td) : PC X .In i o (tDIn ty td) := by
  intro pins s σ H Q I h
  refine thn (hi pins s σ H _ I h) fun iv s1 ⟨y, H1, I1, ry, q1⟩ => thn (ho pins s1 σ H1 _ I1 q1) fun u s2 ⟨x, H2, I2, rx, a, ov, ex, g, q2⟩ => ?_
  subst ex
  obtain rfl : u = Value.ref a := rx
  exact d_in hu I2 g ry fun s3 I3 => ⟨.bl ov.isSome, H2, I3, rfl, q2⟩
theorem ps_dput (hu : X.A.units + 1 < cLine) (ho : PE X o td) (hi : PE X i ty) (hv : PE X value tv) (hs : swapsWith value (some (.Subscript o i pos')) pos.line X.env = pure false) :
    PS X (.Assign [.Subscript o i pos'] value pos) (sDPut td ty tv) := by
  intro pins s σ H D I h
  refine wpAny_Assign_Subscript (thn (hv pins s σ H _ I h) fun r s1 ⟨v, H1, I1, rv, q1⟩ => thn (ho pins s1 σ H1 _ I1 q1) fun u s2 ⟨x, H2, I2, rx, q2⟩ => thn (hi pins s2 σ H2 _ I2 q2) fun iv s3 ⟨y, H3, I3, ry, a, H4, ex, g, q3⟩ => ?_) hs
  subst ex
  obtain rfl : u = Value.ref a := rx
  exact d_setItem hu I3 g ry rv fun s4 I4 => ⟨σ, H4, I4, q3⟩
end
theorem dk_empty {P : Program} {w : World} {H : Hp} (h : Heap) (hb : sysModules < h.objs.size) : ObjOk P w H (h.push { cls := .type "dict", data := .dict #[] }) h.objs.size (.dK []) :=
  ⟨Nat.zero_le _, beq_eq_false_iff_ne.mpr (Ne.symm (Nat.ne_of_lt hb)), [], .nil, Heap.DictOf.new h⟩
def tDNewK : TE := fun _ H Q => ∀ p, H p = none → Q (.ref p) (upd H p (.dK []))
def tDNewT : TE := fun _ H Q => ∀ p, H p = none → Q (.ref p) (upd H p (.dT []))
section
variable {X : Cx} {pos : Pos}
end
def tPairs : List (TE × TE) → St → Hp → (List (V × V) → Hp → Prop) → Prop
  | [], _, H, Q => Q [] H
  | (tk, tv) :: r, σ, H, Q => tk σ H fun x H1 => tv σ H1 fun y H2 => tPairs r σ H2 fun ps H3 => Q ((x, y) :: ps) H3
abbrev VV : List (V × V) → List (Value × Value) → Prop := Paired fun p q => RelV p.1 q.1 ∧ RelV p.2 q.2
def PPs (X : Cx) (pos : Pos) (keys : List (Option Expr)) (values : List Expr) (trs : List (TE × TE)) : Prop :=
  ∀ (pins : List (Addr × Obj)) (s : Shared) (σ : St) (H : Hp) (Q : List (V × V) → Hp → Prop), Inv X pins σ H s → tPairs trs σ H Q →
    wpAny (model X.prog X.w) X.A (evalPairs (pairTrees keys values X.env pos)) (fun vs s' => ∃ ps H', Inv X pins σ H' s' ∧ VV ps vs ∧ Q ps H') X.xe s
theorem pps_nil {X : Cx} {pos : Pos} : PPs X pos [] [] [] := fun pins s σ H Q I h => pairTrees_nil_walk ⟨[], H, I, .nil, h⟩
theorem pps_cons {X : Cx} {pos : Pos} {k v : Expr} {ks : List (Option Expr)} {vs : List Expr} {tk tv : TE} {trs : List (TE × TE)} (hk : PE X k tk) (hv : PE X v tv) (hr : PPs X pos ks vs trs) :
    PPs X pos (some k :: ks) (v :: vs) ((tk, tv) :: trs) := fun pins s σ H Q I h =>
  pairTrees_cons_walk (thn (hk pins s σ H _ I h) fun u s1 ⟨x, H1, I1, rx, q1⟩ => thn (hv pins s1 σ H1 _ I1 q1) fun w2 s2 ⟨y, H2, I2, ry, q2⟩ =>
    thn (hr pins s2 σ H2 _ I2 q2) fun ws s3 ⟨ps, H3, I3, rel, q3⟩ => ⟨(x, y) :: ps, H3, I3, .cons ⟨rx, ry⟩ rel, q3⟩)
def mergeK (kvs more : List (Key × V)) : List (Key × V) := more.foldl (fun acc kv => putK acc kv.1 kv.2) kvs
theorem KV.merge : ∀ {more : List (Key × V)} {rs : List (Key × Value)} {kvs : List (Key × V)} {vs : List (Key × Value)}, KV more rs → KV kvs vs → KV (mergeK kvs more) (merged vs rs) := by
  intro more rs kvs vs r
  unfold KV at r
  induction r generalizing kvs vs with
  | nil => intro q; exact q
  | @cons p q ps qs h t ih =>
    intro r0
    have e : KV (putK kvs p.1 p.2) (stored vs q.1 q.2) := by
      have := r0.put p.1 h.2
      rw [← h.1]; exact this
    exact ih e
theorem length_mergeK : ∀ (more kvs : List (Key × V)), (mergeK kvs more).length ≤ kvs.length + more.length
  | [], kvs => by show kvs.length ≤ kvs.length + 0; omega
  | p :: r, kvs => by
    have h1 := length_mergeK r (putK kvs p.1 p.2)
    have h2 := length_putK kvs p.1 p.2
    show (mergeK (putK kvs p.1 p.2) r).length ≤ _
    rw [List.length_cons]; omega
theorem carries_of {P : Program} {w : World} : ∀ {kvs : List (Key × V)} {ws : List (Value × Value)}, VV (kvs.map fun kv => (kV kv.1, kv.2)) ws → ∃ rs, Carries (mixKind P w) ws rs ∧ KV kvs rs
  | [], _, r => by rw [List.map_nil] at r; cases r; exact ⟨[], True.intro, .nil⟩
  | p :: kvs, _, r => by
    rw [List.map_cons] at r
    cases r with
    | @cons a b as bs h t =>
      obtain ⟨rs, c, q⟩ := carries_of (P := P) (w := w) t
      obtain ⟨b1, b2⟩ := b
      exact ⟨(p.1, b2) :: rs, ⟨kV_is h.1, rfl, c⟩, .cons ⟨rfl, h.2⟩ q⟩
def tDisp (trs : List (TE × TE)) : TE := fun σ H Q => ∀ p, H p = none → tPairs trs σ (upd H p (.dK [])) fun ps H2 => H2 p = some (.dK []) ∧ ∃ kvs : List (Key × V), ps = kvs.map (fun kv => (kV kv.1, kv.2)) ∧ kvs.length ≤ 15 ∧ Q (.ref p) (upd H2 p (.dK (mergeK [] kvs)))
theorem pe_disp {X : Cx} {pos : Pos} {keys : List (Option Expr)} {values : List Expr} {trs : List (TE × TE)} (h : PPs X pos keys values trs) (hall : keys.all (·.isSome) = true) (hl : keys.length = values.length) (h0 : keys ≠ [])
    (h15 : keys.length ≤ 15) : PE X (.Dict keys values pos) (tDisp trs) := by
  intro pins s σ H Q I q
  have hn := I.hok.fresh (Nat.le_refl s.heap.objs.size)
  have I1 := I.laid (a := s.heap.objs.size) (o := .dK []) (h' := s.heap.push { cls := .type "dict", data := .dict #[] }) (t' := s.toks) (fun _ _ q => Heap.get?_push_of_some _ q) (Nat.le_refl _) (dk_empty s.heap I.big)
  refine wpAny_Dict_walk (knd := mixKind X.prog X.w) hall hl h0 h15 (thn (h pins _ σ _ _ I1 (q _ hn)) fun ws s2 ⟨ps, H2, I2, rel, e, kvs, ep, lk, q2⟩ => ?_)
  subst ep
  obtain ⟨rs, c, rk⟩ := carries_of (P := X.prog) (w := X.w) rel
  obtain ⟨z, hd, vs0, r0, dd⟩ := dk_of I2.hok e
  cases r0
  refine ⟨rs, c, dd, fun h' dd' hs => ⟨.ref s.heap.objs.size, _, ?_, rfl, q2⟩⟩
  have hz : (mergeK [] kvs).length ≤ sizeLine := by
    have h1 := length_mergeK kvs []
    rw [List.length_nil] at h1
    rw [sizeLine_eq]; omega
  have he : ∃ q, h'.get? s.heap.objs.size = some q := let ⟨q, _, _, hq, _⟩ := dd'; ⟨q, hq⟩
  exact d_write I2 (by rw [e]; exact True.intro) hs he (dk_new hz hd (rk.merge .nil) dd')
structure M1 (X : Cx) (o : Expr) (m : Str) (apos : Pos) (e : Expr) (cpos : Pos) : Prop where
  base : attributeBase o m X.env (eval o X.env) = eval o X.env
  few : ((backTo cpos (starEach [e] X.env)).all (fun x => !x.1) && (backToKw cpos (keywordEach [] X.env)).all (fun x => x.1.isSome)
    && decide (([e] : List Expr).length + ([] : List Keyword).length + (if ([] : List Keyword).isEmpty then 0 else 1) < 30)) = true
  line : (apos.endLine == cpos.line) = true
  trees : backTo cpos (starEach [e] X.env) = [(false, eval e X.env)]
structure M2 (X : Cx) (o : Expr) (m : Str) (apos : Pos) (e f : Expr) (cpos : Pos) : Prop where
  base : attributeBase o m X.env (eval o X.env) = eval o X.env
  few : ((backTo cpos (starEach [e, f] X.env)).all (fun x => !x.1) && (backToKw cpos (keywordEach [] X.env)).all (fun x => x.1.isSome)
    && decide (([e, f] : List Expr).length + ([] : List Keyword).length + (if ([] : List Keyword).isEmpty then 0 else 1) < 30)) = true
  line : (apos.endLine == cpos.line) = true
  trees : backTo cpos (starEach [e, f] X.env) = [(false, eval e X.env), (false, eval f X.env)]
def IsD (H : Hp) (a : Addr) : Prop := (∃ kvs, Rd H a (.dK kvs)) ∨ ∃ kvs, Rd H a (.dT kvs)
section
variable {X : Cx} {pins : List (Addr × Obj)} {σ : St} {H : Hp} {s : Shared} {a : Addr} {y d : V} {u r : Value} {o : Option V} {A : Around} {E : Value → Shared → Prop}
end
def tDGet1 (td ty : TE) : TE := fun σ H Q => td σ H fun x H1 => ∃ a, x = .ref a ∧ IsD H1 a ∧ ty σ H1 fun y H2 => ∃ o, DGet H2 a y o ∧ Q (o.getD .non) H2
def tDGet2 (td ty tx : TE) : TE := fun σ H Q => td σ H fun x H1 => ∃ a, x = .ref a ∧ IsD H1 a ∧ ty σ H1 fun y H2 => tx σ H2 fun z H3 => ∃ o, DGet H3 a y o ∧ Q (o.getD z) H3
def tDPop1 (td ty : TE) : TE := fun σ H Q => td σ H fun x H1 => ∃ a, x = .ref a ∧ IsD H1 a ∧ ty σ H1 fun y H2 => ∃ kvs k v, H2 a = some (.dK kvs) ∧ y = kV k ∧ valV kvs k = some v ∧ Q v (upd H2 a (.dK (dropK kvs k)))
def tDPop2 (td ty tx : TE) : TE := fun σ H Q => td σ H fun x H1 => ∃ a, x = .ref a ∧ IsD H1 a ∧ ty σ H1 fun y H2 => tx σ H2 fun z H3 => ∃ kvs k, H3 a = some (.dK kvs) ∧ y = kV k ∧
  (∀ v, valV kvs k = some v → Q v (upd H3 a (.dK (dropK kvs k)))) ∧ (valV kvs k = none → Q z H3)
section
variable {X : Cx} {o e f : Expr} {apos cpos : Pos} {td ty tx : TE}
end
section
variable {X : Cx} {pins : List (Addr × Obj)} {σ : St} {H : Hp} {s : Shared} {a : Addr} {kvs : List (Key × V)} {A : Around} {E : Value → Shared → Prop}
end
section
variable {X : Cx} {pins : List (Addr × Obj)} {σ : St} {H : Hp} {s : Shared} {a : Addr} {y : V} {u : Value} {A : Around} {E : Value → Shared → Prop}
end
section
variable {X : Cx}
end
section
variable {κ : Type} [DecidableEq κ]
end
end L2

namespace L2
open PySem PySem.Spec PyProof.Rows
structure DefOk (P : Program) (w : World) (K : PySem.W.Frag) (mg : Str → Option Value) (base : Heap) (CX : CXT) (k : Nat) (x : Str) (ps : List Str) (sp : Sp) : Prop where
  ex : ∃ (f : Addr) (fd : FuncData), FnOk P w K mg base CX k f fd ps sp ∧ Binds K fd ps [] ∧ PySem.W.keepIn K (.ref f) = true ∧ mg x = some (.ref f)
theorem DefOk.mono {P : Program} {w : World} {K : PySem.W.Frag} {mg : Str → Option Value} {base : Heap} {CX : CXT} {j k : Nat} {x : Str} {ps : List Str} {sp : Sp} (D : DefOk P w K mg base CX j x ps sp) (h : j ≤ k) : DefOk P w K mg base CX k x ps sp := by
  obtain ⟨f, fd, F, b⟩ := D.ex
  exact ⟨f, fd, F.mono h, b⟩
section
variable {X : Cx} {CX : CXT} {k : Nat} {ps : List Str} {sp : Sp} {E : XK} {x : Str} {p pos : Pos} {e : Expr} {es : List Expr} {t : TA}
theorem pe_callD (D : DefOk X.prog X.w X.K X.mg X.base CX k x ps sp) (hr : Room k X.A) (hg : Gl X x) (hx : Passes CX X E) (ha : PA X (e :: es) t) (hdb : (x == ("__debug__" : Str)) = false := by decide)
    (he : starEach (e :: es) X.env = (false, eval e X.env) :: starEach es X.env := by rfl) (hpl : (backTo pos (starEach es X.env)).any (·.1) = false := by rfl) :
    PE X (.Call (.Name x p) (e :: es) [] pos) (tCall sp [] E t) := by
  obtain ⟨f, fd, F, b, kp, m⟩ := D.ex
  exact pe_call F hr hg m kp b .nil hx ha hdb he hpl
end
def CDivW (_ j : Int) : Prop := 0 < j ∧ j < 2 ^ 64
theorem op_fdivW {X : Cx} : OpR X (binaryOp .FloorDiv) (rI CDivW fun i j => .int (i / j)) := opI fun i j _ _ _ _ _ hc q => by
  have h1 : (0 : Int) < j := hc.1
  have h2 : j < 2 ^ 64 := hc.2
  have h3 : j.natAbs.log2 < 64 := (Nat.log2_lt (by omega)).mpr (by omega)
  exact floordiv_int (by omega) (by rw [Int.fdiv_eq_ediv_of_nonneg i (by omega)]; exact q) (.inl (PyProof.noPylong_of_log2 (by omega)))
def Ch (W : List Addr) (H H' : Hp) : Prop := ∀ b o, H b = some o → b ∉ W → H' b = some o
theorem Ch.refl (W : List Addr) (H : Hp) : Ch W H H := fun _ _ h _ => h
theorem Ch.trans {W : List Addr} {H H1 H2 : Hp} (a : Ch W H H1) (b : Ch W H1 H2) : Ch W H H2 := fun c o h n => b c o (a c o h n) n
theorem Ch.get {W : List Addr} {H H' : Hp} {b : Addr} {o : HO} (c : Ch W H H') (h : H b = some o) (n : b ∉ W) : H' b = some o := c b o h n
theorem Ch.mono {W W' : List Addr} {H H' : Hp} (c : Ch W H H') (h : ∀ b ∈ W, b ∈ W') : Ch W' H H' := fun b o q n => c b o q fun z => n (h b z)
theorem Ch.wk {W : List Addr} {H H' : Hp} (c : Ch [] H H') : Ch W H H' := c.mono fun b h => nomatch h
theorem Ch.new {W : List Addr} {H : Hp} {p : Addr} (h : H p = none) (o : HO) : Ch W H (upd H p o) := fun b u q _ => by rw [upd_ne (ne_of_none q h)]; exact q
theorem Ch.put {H : Hp} {p : Addr} {o : HO} : Ch [p] H (upd H p o) := fun b u q n => by rw [upd_ne (fun z => n (by simp [z]))]; exact q
def Scr (K : PySem.W.Frag) (H : Hp) (a : Addr) (ns : List Int) : Prop :=
  ns.length ≤ 63 ∧ ((∃ o, H a = some (.frz o (.lst (ns.map V.int)))) ∨
    ∃ (o : Obj) (its : Array Value) (n : Nat), K.lookup a = some o ∧ o.cls = .type "list" ∧ o.dict = none ∧ o.data = .seq its n ∧ its.size ≤ sizeLine ∧ Vals (ns.map V.int) its.toList)
theorem Scr.sq {K : PySem.W.Frag} {H : Hp} {a : Addr} {ns : List Int} (S : Scr K H a ns) : SqL K H a (ns.map V.int) := by
  rcases S.2 with ⟨o, h⟩ | h
  · exact .inl (.inr ⟨o, h⟩)
  · exact .inr h
theorem Scr.ch {K : PySem.W.Frag} {H H' : Hp} {a b : Addr} {ns : List Int} {xs : List V} (S : Scr K H a ns) (hb : H b = some (.lst xs)) (c : Ch [b] H H') : Scr K H' a ns := by
  refine ⟨S.1, ?_⟩
  rcases S.2 with ⟨o, h⟩ | h
  · exact .inl ⟨o, c.get h (by
      intro z
      have e : a = b := by simpa using z
      subst e
      rw [h] at hb
      cases hb)⟩
  · exact .inr h
theorem Scr.same {K : PySem.W.Frag} {H H' : Hp} {a : Addr} {ns : List Int} (S : Scr K H a ns) (c : Ch [] H H') : Scr K H' a ns := by
  refine ⟨S.1, ?_⟩
  rcases S.2 with ⟨o, h⟩ | h
  · exact .inl ⟨o, c.get h (by simp)⟩
  · exact .inr h
theorem Scr.of {K : PySem.W.Frag} {H : Hp} {a : Addr} {ns : List Int} (h : SqL K H a (ns.map V.int)) (hl : ns.length ≤ 63) (hO : Only H) : Scr K H a ns := by
  refine ⟨hl, ?_⟩
  rcases h with (h | ⟨o, h⟩) | h
  · rcases hO a with z | ⟨o, xs, z⟩
    · rw [h] at z; cases z
    · rw [h] at z; cases z
  · exact .inl ⟨o, h⟩
  · exact .inr h
end L2
namespace L2
open PySem PySem.Spec PyProof.Rows
theorem g_new {H : Hp} {p q : Addr} {o u : HO} (hq : H q = none) (h : H p = some o) : upd H q u p = some o := by rw [upd_ne (ne_of_none h hq)]; exact h
theorem g_put {H : Hp} {p q : Addr} {o u : HO} (n : p ≠ q) (h : H p = some o) : upd H q u p = some o := by rw [upd_ne n]; exact h
structure Loop (J : It) (g : TG) (tb : TS) (D : Ends) (σ : St) (H : Hp) : Prop where
  ex : ∃ W : Nat → Nat → St → Hp → Prop, (∃ m, W 0 m σ H) ∧ ∀ i m σ H, W i m σ H →
    (J.stop i H ∧ D.nx σ H) ∨ (J.go i H ∧ ∃ N : St → Hp → Prop, (∀ σ' H', N σ' H' → ∃ m', m' < m ∧ W (i + 1) m' σ' H') ∧ ∀ x H', J.yld i H x H' → g x σ H' fun σ2 H2 => tb { D with nx := N, ct := N, bk := D.nx } σ2 H2)
def tLoop (wi : TI) (g : TG) (tb : TS) : TS := fun D σ H => wi σ H fun J H1 => Loop J g tb D σ H1
theorem ps_loop {X : Cx} {tg iter : Expr} {body : List Stmt} {wi : TI} {g : TG} {tb : TS} {pos : Pos} (hp : PassesOwn (model X.prog X.w) X.A X.env X.xe) (hc : X.calm = true) (hi : PI X tg iter wi) (hg : PG X tg g) (hb : PSs X body tb)
    (hs : ∀ x, foldedSetIterable iter X.env x = pure x := by intro _; rfl) : PS X (.For tg iter body [] pos) (tLoop wi g tb) := by
  have hi' : PI X tg iter (fun σ H R => ∃ R0 : It → Hp → Prop, wi σ H R0 ∧ ∀ J H1, R0 J H1 → R J H1) := by
    intro pins s σ H R I ⟨R0, h, m⟩
    refine thn (hi pins s σ H _ I h) fun v s1 h1 => thn h1 fun itv s2 h2 => ?_
    obtain ⟨it, fp, tn, J, H2, e, I2, T, st2, f2, r⟩ := h2
    exact ⟨it, fp, tn, J, H2, e, I2, T, st2, f2, m _ _ r⟩
  intro pins s σ H D I h
  exact ps_for hp hc hi' hg hb hs pins s σ H D I ⟨_, h, fun J H1 l => l.ex⟩
theorem loop_list {K : PySem.W.Frag} {a : Addr} {xs : List V} {g : TG} {tb : TS} {D : Ends} {σ : St} {H : Hp} (Pv : Nat → St → Hp → Prop) (h0 : Pv 0 σ H) (hl : ∀ i σ H, i ≤ xs.length → Pv i σ H → SqL K H a xs)
    (hs : ∀ i x σ H, xs[i]? = some x → Pv i σ H → g x σ H fun σ2 H2 => tb { D with nx := Pv (i + 1), ct := Pv (i + 1), bk := D.nx } σ2 H2) (hd : ∀ σ H, Pv xs.length σ H → D.nx σ H) : Loop (Itl K a) g tb D σ H := ⟨for_list Pv h0 hl hs hd⟩
theorem loop_range {lo : Int} {n : Nat} {g : TG} {tb : TS} {D : Ends} {σ : St} {H : Hp} (Pv : Nat → St → Hp → Prop) (h0 : Pv 0 σ H)
    (hs : ∀ i σ H, i < n → Pv i σ H → g (.int (lo + i)) σ H fun σ2 H2 => tb { D with nx := Pv (i + 1), ct := Pv (i + 1), bk := D.nx } σ2 H2) (hd : ∀ σ H, Pv n σ H → D.nx σ H) : Loop (Itr lo n) g tb D σ H := ⟨for_range Pv h0 hs hd⟩
structure Cut (t u : TS) (D : Ends) (σ : St) (H : Hp) : Prop where
  ex : ∃ P : St → Hp → Prop, t { D with nx := P } σ H ∧ ∀ σ' H', P σ' H' → u D σ' H'
def tCut (t u : TS) : TS := fun D σ H => Cut t u D σ H
theorem pss_cut {X : Cx} {st : Stmt} {rest : List Stmt} {t u : TS} (h1 : PS X st t) (h2 : PSs X rest u) : PSs X (st :: rest) (tCut t u) := by
  intro pins s σ H D I h
  obtain ⟨P, a, b⟩ := h.ex
  have h1' : PS X st (fun D' σ' H' => ∃ P : St → Hp → Prop, t { D' with nx := P } σ' H' ∧ ∀ σ2 H2, P σ2 H2 → D'.nx σ2 H2) := by
    intro pins s σ H D I ⟨P, a, b⟩
    refine thn (h1 pins s σ H _ I a) fun f s' q => ?_
    cases f with
    | next => obtain ⟨σ7, H7, I7, n7⟩ := q; exact ⟨σ7, H7, I7, b _ _ n7⟩
    | cont => exact q
    | brk => exact q
    | ret v => exact q
  exact pss_cons h1' h2 pins s σ H D I ⟨P, a, b⟩
theorem cut_by {t u : TS} {D : Ends} {σ : St} {H : Hp} (P : St → Hp → Prop) (h1 : t { D with nx := P } σ H) (h2 : ∀ σ' H', P σ' H' → u D σ' H') : Cut t u D σ H := ⟨P, h1, h2⟩
theorem atI_ints {ns : List Int} {i : Int} (h0 : 0 ≤ i) (h1 : i < (ns.length : Int)) : ∃ n : Int, atI (ns.map V.int) i = some (.int n) := by
  have hk : i.toNat < ns.length := by omega
  have ek : i = ((i.toNat : Nat) : Int) := by omega
  have q : atI (ns.map V.int) ((i.toNat : Nat) : Int) = some (.int ns[i.toNat]) := atI_nat (by rw [List.getElem?_map, List.getElem?_eq_getElem hk]; rfl)
  rw [← ek] at q
  exact ⟨_, q⟩
end L2

namespace L2
open PySem PySem.Spec PyProof.Rows
structure Atx {α : Type} (xs : List α) (i : Int) (R : α → Prop) : Prop where
  ex : ∃ v, atI xs i = some v ∧ R v
theorem Atx.of {α : Type} {xs : List α} {i : Int} {v : α} {R : α → Prop} (h : atI xs i = some v) (r : R v) : Atx xs i R := ⟨v, h, r⟩
theorem atI_get0 {α : Type} {xs : List α} {i : Int} (h0 : 0 ≤ i) (h1 : i < (xs.length : Int)) : ∃ h : i.toNat < xs.length, atI xs i = some xs[i.toNat] := by
  have hk : i.toNat < xs.length := by omega
  have ek : i = ((i.toNat : Nat) : Int) := by omega
  have q : atI xs ((i.toNat : Nat) : Int) = some xs[i.toNat] := atI_nat (List.getElem?_eq_getElem hk)
  rw [← ek] at q
  exact ⟨hk, q⟩
theorem Atx.any {α : Type} {xs : List α} {i : Int} {R : α → Prop} (h0 : 0 ≤ i) (h1 : i < (xs.length : Int)) (h : ∀ v, v ∈ xs → atI xs i = some v → R v) : Atx xs i R := by
  obtain ⟨hk, q⟩ := atI_get0 h0 h1
  exact ⟨_, q, h _ (List.getElem_mem hk) q⟩
section
variable {X : Cx}
theorem IxR.imp {r r' : R2} (h : IxR X r) (f : ∀ x y H Q, r' x y H Q → r x y H Q) : IxR X r' := fun value slice pins s σ H x y v u Q I rx ry q hs => h value slice pins s σ H x y v u Q I rx ry (f _ _ _ _ q) hs
def aIxL (K : PySem.W.Frag) : R2 := fun x y H Q => ∃ p xs i, x = .ref p ∧ y = .int i ∧ SqL K H p xs ∧ Atx xs i fun v => Q v H
def aIxT (K : PySem.W.Frag) : R2 := fun x y H Q => ∃ p xs i, x = .ref p ∧ y = .int i ∧ SqT K H p xs ∧ Atx xs i fun v => Q v H
def aIxS : R2 := fun x y H Q => ∃ z i, x = .str z ∧ y = .int i ∧ z.length ≤ sizeLine ∧ Atx z.cps.toList i fun c => Q (.str ⟨#[c]⟩) H
theorem ixa_list : IxR X (aIxL X.K) := ix_list.imp fun x y H Q ⟨p, xs, i, e1, e2, h, a⟩ => let ⟨v, hv, q⟩ := a.ex; ⟨p, xs, i, v, e1, e2, h, hv, q⟩
theorem ixa_tup : IxR X (aIxT X.K) := ix_tup.imp fun x y H Q ⟨p, xs, i, e1, e2, h, a⟩ => let ⟨v, hv, q⟩ := a.ex; ⟨p, xs, i, v, e1, e2, h, hv, q⟩
end
end L2
namespace L2
open PySem
section
variable {es : List Expr} {env : Env}
theorem se_Name {x pos} : starEach (.Name x pos :: es) env = (false, eval (.Name x pos) env) :: starEach es env := rfl
theorem se_Constant {c k pos} : starEach (.Constant c k pos :: es) env = (false, eval (.Constant c k pos) env) :: starEach es env := rfl
theorem se_BinOp {a o b pos} : starEach (.BinOp a o b pos :: es) env = (false, eval (.BinOp a o b pos) env) :: starEach es env := rfl
theorem se_UnaryOp {a o pos} : starEach (.UnaryOp o a pos :: es) env = (false, eval (.UnaryOp o a pos) env) :: starEach es env := rfl
theorem se_Call {a o b pos} : starEach (.Call a o b pos :: es) env = (false, eval (.Call a o b pos) env) :: starEach es env := rfl
theorem se_Tuple {a k pos} : starEach (.Tuple a k pos :: es) env = (false, eval (.Tuple a k pos) env) :: starEach es env := rfl
theorem se_List {a pos} : starEach (.List a pos :: es) env = (false, eval (.List a pos) env) :: starEach es env := rfl
theorem se_Subscript {a b pos} : starEach (.Subscript a b pos :: es) env = (false, eval (.Subscript a b pos) env) :: starEach es env := rfl
theorem se_Attribute {a b pos} : starEach (.Attribute a b pos :: es) env = (false, eval (.Attribute a b pos) env) :: starEach es env := rfl
theorem se_ListComp {a b c pos} : starEach (.ListComp a b c pos :: es) env = (false, eval (.ListComp a b c pos) env) :: starEach es env := rfl
end
end L2
namespace L2
open PySem
theorem Ch.own {W : List Addr} {H H' : Hp} {p : Addr} {o : HO} (n : H p = none) (c : Ch W H H') : Ch W H (upd H' p o) := fun b u h k => by
  rw [upd_ne (ne_of_none h n)]
  exact c b u h k
theorem cut1_not (x : V) (ys : List V) : ¬ (HT.sIx (x :: ys).length 0 (some 1) = 0 ∧ HT.sIx (x :: ys).length (x :: ys).length none = (x :: ys).length) := by
  intro h
  have e : HT.sIx (x :: ys).length 0 (some 1) = 1 := by
    have z := HT.sIx_nat (x :: ys).length 0 1
    rw [List.length_cons] at z ⊢
    refine z.trans ?_
    omega
  rw [e] at h
  exact absurd h.1 (by decide)
end L2
namespace L2
open PySem
theorem Atx.head {α : Type} {x : α} {xs : List α} {R : α → Prop} (r : R x) : Atx (x :: xs) 0 R := ⟨x, atI_nat (j := 0) rfl, r⟩
end L2

namespace L2
open PySem PySem.Spec PyProof.Rows
inductive SK where
  | list | tuple
def SIt (k : SK) (h : Heap) (it l : Addr) (i : Nat) : Prop := match k with
  | .list => h.IsListIter it l i
  | .tuple => h.IsTupleIter it l i
def SIs (k : SK) (h : Heap) (l : Addr) (items : Array Value) : Prop := match k with
  | .list => h.IsList l items
  | .tuple => h.IsTuple l items
def Sq (k : SK) (K : PySem.W.Frag) (H : Hp) (a : Addr) (xs : List V) : Prop := match k with
  | .list => SqL K H a xs
  | .tuple => SqT K H a xs
theorem SIt.at {k : SK} {h h' : Heap} {a l i} (x : SIt k h a l i) (e : ∀ o, h.get? a = some o → h'.get? a = some o) : SIt k h' a l i := by
  cases k with
  | list => exact Heap.IsListIter.at x e
  | tuple => exact Heap.IsTupleIter.at x e
theorem SIt.obj {k : SK} {h : Heap} {a l i} (x : SIt k h a l i) : ∃ o, h.get? a = some o ∧ ∀ v, o.data ≠ .cell v := by
  cases k with
  | list => obtain ⟨o, e, c, d⟩ := (show h.IsListIter a l i from x); exact ⟨o, e, fun v z => by rw [d] at z; cases z⟩
  | tuple => obtain ⟨o, e, c, d⟩ := (show h.IsTupleIter a l i from x); exact ⟨o, e, fun v z => by rw [d] at z; cases z⟩
theorem SIs.at {k : SK} {h h' : Heap} {a items} (x : SIs k h a items) (e : ∀ o, h.get? a = some o → h'.get? a = some o) : SIs k h' a items := by
  cases k with
  | list => exact Heap.IsList.at x e
  | tuple => obtain ⟨o, ho, r⟩ := (show h.IsTuple a items from x); exact ⟨o, e _ ho, r⟩
theorem SIs.lt {k : SK} {h : Heap} {a items} (x : SIs k h a items) : a < h.objs.size := by
  cases k with
  | list => obtain ⟨_, e, _⟩ := (show h.IsList a items from x); exact Heap.lt_size e
  | tuple => obtain ⟨_, e, _⟩ := (show h.IsTuple a items from x); exact Heap.lt_size e
section
variable {prog : Program} {w : World} {A : Around} {E : Value → Shared → Prop} {s : Shared}
theorem nextOf_tuple_item {it l : Addr} {i : Nat} {items} {x : Value} {Q : Value → Shared → Prop} (hit : s.heap.IsTupleIter it l i)
    (hl : s.heap.IsTuple l items) (hx : items[i]? = some x)
    (hQ : ∀ h', h'.IsTupleIter it l (i + 1) → Heap.SameBut it s.heap h' → Q x { s with heap := h' }) :
    wpAny (model prog w) A (Builtin.SmallTypes.nextOf (.ref it)) Q E s := by
  obtain ⟨o, ho, hc, hd⟩ := id hit
  obtain ⟨ol, hol, _, nl, hdl⟩ := hl
  unfold Builtin.SmallTypes.nextOf
  refine wpAny_bind (wpAny_callSpecial?_slot (name := Str.ofString "__next__") hit.typeIs F.slot_tuple_iterator_next
    (wpAny_call_entry F.slot_tuple_iterator_next hit.typeIs F.entry_tuple_iterator_next ?_ (F.args_tuple_iterator_next_1 _)))
  show wpAny _ _ (field (.ref it) 0 >>= _) _ _ s
  refine wpAny_bind (wpAny_field ho hd (x := .ref l) rfl ?_)
  show wpAny _ _ (if (Value.ref l == Value.none) = true then _ else _) _ _ s
  rw [if_neg (show ¬ ((Value.ref l == Value.none) = true) from Bool.false_ne_true)]
  show wpAny _ _ (field (.ref it) 1 >>= _) _ _ s
  refine wpAny_bind (wpAny_field ho hd (x := .int i 0) rfl ?_)
  show wpAny _ _ (seqItems? (.ref l) >>= _) _ _ s
  refine wpAny_bind (wpAny_seqItems hol hdl ?_)
  simp only [Int.toNat_natCast, hx]
  refine wpAny_bind (wpAny_setField ho hd (by simp) (wpAny_pure ⟨x, rfl, wpAny_pure (hQ _ ?_ (Heap.SameBut.update ..))⟩))
  exact ⟨_, Heap.get?_update_self _ ho (Obj.isFreed_of_fields (Obj.data_mapFields hd _)), (Obj.cls_mapFields ..).trans hc, by
    rw [Obj.data_mapFields hd]; simp [rawInt]⟩
theorem nextOf_tuple_end {it l : Addr} {i : Nat} {items} {Q : Value → Shared → Prop} (hh : A.handled = none)
    (hit : s.heap.IsTupleIter it l i) (hl : s.heap.IsTuple l items) (hx : items[i]? = none)
    (hE : ∀ h' e, Heap.ExtBut it s.heap h' → (∃ o, h'.get? e = some o ∧ o.cls = .type "StopIteration") → E (.ref e) { s with heap := h' }) :
    wpAny (model prog w) A (Builtin.SmallTypes.nextOf (.ref it)) Q E s := by
  obtain ⟨o, ho, hc, hd⟩ := id hit
  obtain ⟨ol, hol, _, nl, hdl⟩ := hl
  unfold Builtin.SmallTypes.nextOf
  refine wpAny_bind (wpAny_callSpecial?_slot (name := Str.ofString "__next__") hit.typeIs F.slot_tuple_iterator_next
    (wpAny_call_entry F.slot_tuple_iterator_next hit.typeIs F.entry_tuple_iterator_next ?_ (F.args_tuple_iterator_next_1 _)))
  show wpAny _ _ (field (.ref it) 0 >>= _) _ _ s
  refine wpAny_bind (wpAny_field ho hd (x := .ref l) rfl ?_)
  show wpAny _ _ (if (Value.ref l == Value.none) = true then _ else _) _ _ s
  rw [if_neg (show ¬ ((Value.ref l == Value.none) = true) from Bool.false_ne_true)]
  show wpAny _ _ (field (.ref it) 1 >>= _) _ _ s
  refine wpAny_bind (wpAny_field ho hd (x := .int i 0) rfl ?_)
  show wpAny _ _ (seqItems? (.ref l) >>= _) _ _ s
  refine wpAny_bind (wpAny_seqItems hol hdl ?_)
  simp only [Int.toNat_natCast, hx]
  refine wpAny_bind (wpAny_rule (wpAny_bind (wpAny_setField ho hd (by simp) ?_)))
  show wpAny _ _ (newExc (.type "StopIteration") [] >>= _) _ _ _
  refine wpAny_bind ?_
  simp only [newExc, newTuple]
  refine wpAny_bind (wpAny_newObj_type ?_ (by size_fits))
  refine wpAny_bind (m := firstArgMember _ _) (wpAny_of_eq (a := Value.none) (by first | rfl | (simp only [firstArgMember]; rfl)) ?_)
  refine wpAny_newObj_type ?_ (by size_fits)
  simp only [raiseNew]
  refine wpAny_bind (wpAny_handled ?_)
  first | rw [show A.in1.handled = none from hh] | rw [hh]
  refine wpAny_bind (wpAny_pure (wpAny_throw ?_))
  exact hE _ _ (((Heap.SameBut.update ..).extBut.push _).push _) ⟨_, Heap.get?_push_size _ rfl, rfl⟩
theorem nextOf_item {k : SK} {it l : Addr} {i : Nat} {items} {x : Value} {Q : Value → Shared → Prop} (hit : SIt k s.heap it l i) (hl : SIs k s.heap l items) (hx : items[i]? = some x)
    (hQ : ∀ h', SIt k h' it l (i + 1) → Heap.SameBut it s.heap h' → Q x { s with heap := h' }) : wpAny (model prog w) A (Builtin.SmallTypes.nextOf (.ref it)) Q E s := by
  cases k with
  | list => exact wpAny_nextOf_list_item hit hl hx hQ
  | tuple => exact nextOf_tuple_item hit hl hx hQ
theorem nextOf_end {k : SK} {it l : Addr} {i : Nat} {items} {Q : Value → Shared → Prop} (hh : A.handled = none) (hit : SIt k s.heap it l i) (hl : SIs k s.heap l items) (hx : items[i]? = none)
    (hE : ∀ h' e, Heap.ExtBut it s.heap h' → (∃ o, h'.get? e = some o ∧ o.cls = .type "StopIteration") → E (.ref e) { s with heap := h' }) :
    wpAny (model prog w) A (Builtin.SmallTypes.nextOf (.ref it)) Q E s := by
  cases k with
  | list => exact wpAny_nextOf_list_end hh hit hl hx hE
  | tuple => exact nextOf_tuple_end hh hit hl hx hE
theorem SIt.ext {k : SK} {h h' : Heap} {a b l i} (x : SIt k h a l i) (hs : Heap.ExtBut b h h') (hab : a ≠ b) : SIt k h' a l i := x.at fun o e => hs _ _ hab e
theorem SIs.ext {k : SK} {h h' : Heap} {a b items} (x : SIs k h a items) (hs : Heap.ExtBut b h h') (hab : a ≠ b) : SIs k h' a items := x.at fun o e => hs _ _ hab e
theorem zipS_item {k1 k2 : SK} {z TI TO i1 i2 l1 l2 : Addr} {n1 n2 : Nat} {xs ys : Array Value} {x y a b : Value} {Q : Value → Shared → Prop} (D : ZipApart z TI TO i1 i2 l1 l2)
    (hz : IsZip s.heap z TI TO .none) (hTI : IsPair s.heap TI (.ref i1) (.ref i2)) (hTO : IsPair s.heap TO a b)
    (h1 : SIt k1 s.heap i1 l1 n1) (h2 : SIt k2 s.heap i2 l2 n2) (hl1 : SIs k1 s.heap l1 xs) (hl2 : SIs k2 s.heap l2 ys) (hx : xs[n1]? = some x) (hy : ys[n2]? = some y)
    (hQ : ∀ h', IsZip h' z TI TO (rawInt s.heap.objs.size) → IsPair h' TO x y → SIt k1 h' i1 l1 (n1 + 1) → SIt k2 h' i2 l2 (n2 + 1) → IsPair h' s.heap.objs.size x y → h'.objs.size = s.heap.objs.size + 1 →
      (∀ c o, c ≠ z → c ≠ TO → c ≠ i1 → c ≠ i2 → s.heap.get? c = some o → h'.get? c = some o) → Q (.ref s.heap.objs.size) { s with heap := h' }) :
    wpAny (model prog w) A (Builtin.«zip.__next__» ⟨[.ref z], []⟩) (fun fin s' => ∃ v, fin = .done (.ret v) ∧ Q v s') E s := by
  show wpAny _ _ (field (.ref z) 2 >>= _) _ _ _
  refine wpAny_bind (wpAny_field hz rfl (x := .bool false) rfl ?_)
  show wpAny _ _ (field (.ref z) 3 >>= _) _ _ _
  refine wpAny_bind (wpAny_field hz rfl (x := .ref TI) rfl ?_)
  refine wpAny_bind (wpAny_seqItems hTI rfl ?_)
  show wpAny _ _ (Builtin.SmallTypes.ownedTupleIsFree (.ref z) >>= _) _ _ _
  refine wpAny_bind ?_
  unfold Builtin.SmallTypes.ownedTupleIsFree
  refine wpAny_bind (wpAny_field hz rfl (x := .none) rfl (wpAny_pure ?_))
  simp only [if_true]
  refine wpAny_bind (wpAny_rule ?_)
  refine wpAny_bind (wpAny_field hz rfl (x := .ref TO) rfl ?_)
  refine wpAny_bind (wpAny_setField_rec hz (by simp) fun h₁ hz₁ hs₁ => ?_)
  replace hz₁ : IsZip h₁ z TI TO .ellipsis := hz₁
  refine wpAny_bind ?_
  simp only [List.zipIdx_cons, List.zipIdx_nil, List.forIn_cons, List.forIn_nil]
  refine wpAny_bind (wpAny_bind (wpAny_onRaise ?_))
  show wpAny _ _ (Builtin.SmallTypes.nextOf (.ref i1) >>= _) _ _ _
  refine wpAny_bind (nextOf_item (h1.ext hs₁.extBut D.i1z) (hl1.ext hs₁.extBut D.l1z) hx fun h₂ h1₂ hs₂ => wpAny_pure ?_)
  have hTO₂ : IsPair h₂ TO a b := hs₂.extBut _ _ D.TOi1 (hs₁.extBut _ _ D.TOz hTO)
  refine wpAny_bind (wpAny_seqItems hTO₂ rfl ?_)
  refine wpAny_bind (wpAny_updateSeq_pair hTO₂ fun h₃ hTO₃ hs₃ => ?_)
  replace hTO₃ : IsPair h₃ TO x b := hTO₃
  refine wpAny_bind (wpAny_letGo (wpAny_pure ?_))
  refine wpAny_bind (wpAny_bind (wpAny_onRaise ?_))
  show wpAny _ _ (Builtin.SmallTypes.nextOf (.ref i2) >>= _) _ _ _
  refine wpAny_bind (nextOf_item (((h2.ext hs₁.extBut D.i2z).ext hs₂.extBut D.i12.symm).ext hs₃.extBut D.TOi2.symm)
    (((hl2.ext hs₁.extBut D.l2z).ext hs₂.extBut D.l2i1).ext hs₃.extBut D.l2TO) hy fun h₄ h2₄ hs₄ => wpAny_pure ?_)
  have hTO₄ : IsPair h₄ TO x b := hs₄.extBut _ _ D.TOi2 hTO₃
  refine wpAny_bind (wpAny_seqItems hTO₄ rfl ?_)
  refine wpAny_bind (wpAny_updateSeq_pair hTO₄ fun h₅ hTO₅ hs₅ => ?_)
  replace hTO₅ : IsPair h₅ TO x y := hTO₅
  refine wpAny_bind (wpAny_letGo (wpAny_pure (wpAny_pure ?_)))
  refine wpAny_bind (wpAny_seqItems hTO₅ rfl ?_)
  refine wpAny_bind (wpAny_newTuple ?_)
  have hsz : h₅.objs.size = s.heap.objs.size := by rw [hs₅.1, hs₄.1, hs₃.1, hs₂.1, hs₁.1]
  have hz₅ : IsZip h₅ z TI TO .ellipsis := hs₅.extBut _ _ D.TOz.symm (hs₄.extBut _ _ D.i2z.symm (hs₃.extBut _ _ D.TOz.symm (hs₂.extBut _ _ D.i1z.symm hz₁)))
  have hk₅ : ∀ c o, c ≠ z → c ≠ TO → c ≠ i1 → c ≠ i2 → s.heap.get? c = some o → h₅.get? c = some o := fun c o c1 c2 c3 c4 e =>
    hs₅.extBut _ _ c2 (hs₄.extBut _ _ c4 (hs₃.extBut _ _ c2 (hs₂.extBut _ _ c3 (hs₁.extBut _ _ c1 e))))
  have h1₅ : SIt k1 h₅ i1 l1 (n1 + 1) := ((h1₂.ext hs₃.extBut D.TOi1.symm).ext hs₄.extBut D.i12).ext hs₅.extBut D.TOi1.symm
  have h2₅ : SIt k2 h₅ i2 l2 (n2 + 1) := h2₄.ext hs₅.extBut D.TOi2.symm
  have hzlt : z < h₅.objs.size := Heap.lt_size hz₅
  show wpAny _ _ (Builtin.SmallTypes.ownedTupleHandOut (.ref z) (.ref h₅.objs.size) >>= _) _ _ _
  refine wpAny_bind ?_
  unfold Builtin.SmallTypes.ownedTupleHandOut
  have hz₆ : IsZip (h₅.push { cls := .type "tuple", data := .seq #[x, y] }) z TI TO .ellipsis := Heap.get?_push_of_some _ hz₅
  refine wpAny_bind (wpAny_setField_rec hz₆ (by simp) fun h₇ hz₇ hs₇ => ?_)
  replace hz₇ : IsZip h₇ z TI TO (rawInt h₅.objs.size) := hz₇
  refine wpAny_setField_rec hz₇ (by simp) fun h₈ hz₈ hs₈ => ?_
  replace hz₈ : IsZip h₈ z TI TO (rawInt h₅.objs.size) := hz₈
  have up : ∀ c o, c ≠ z → h₅.get? c = some o → h₈.get? c = some o := fun c o c1 e => hs₈.extBut _ _ c1 (hs₇.extBut _ _ c1 (Heap.get?_push_of_some _ e))
  have hT₈ : IsPair h₈ h₅.objs.size x y := hs₈.extBut _ _ (Nat.ne_of_gt hzlt) (hs₇.extBut _ _ (Nat.ne_of_gt hzlt) (Heap.get?_push_size _ rfl))
  have hz8 : h₈.objs.size = h₅.objs.size + 1 := by rw [hs₈.1, hs₇.1, Heap.size_push]
  rw [hsz] at hz₈ hT₈ hz8
  refine wpAny_pure ⟨_, rfl, ?_⟩
  show Q (.ref h₅.objs.size) _
  rw [hsz]
  exact hQ h₈ hz₈ (up _ _ D.TOz hTO₅) (h1₅.at fun o e => up _ o D.i1z e) (h2₅.at fun o e => up _ o D.i2z e) hT₈ hz8 fun c o c1 c2 c3 c4 e => up c o c1 (hk₅ c o c1 c2 c3 c4 e)
theorem zipS_end {k1 k2 : SK} {z TI TO i1 i2 l1 l2 : Addr} {n1 n2 : Nat} {xs ys : Array Value} {a b : Value} {Q : Fin → Shared → Prop} (hh : A.handled = none) (D : ZipApart z TI TO i1 i2 l1 l2)
    (hz : IsZip s.heap z TI TO .none) (hTI : IsPair s.heap TI (.ref i1) (.ref i2)) (hTO : IsPair s.heap TO a b)
    (h1 : SIt k1 s.heap i1 l1 n1) (h2 : SIt k2 s.heap i2 l2 n2) (hl1 : SIs k1 s.heap l1 xs) (hl2 : SIs k2 s.heap l2 ys) (hend : xs[n1]? = none ∨ ys[n2]? = none)
    (hE : ∀ h' e, (∀ c o, c ≠ z → c ≠ TO → c ≠ i1 → c ≠ i2 → s.heap.get? c = some o → h'.get? c = some o) → (∃ o, h'.get? e = some o ∧ o.cls = .type "StopIteration") → E (.ref e) { s with heap := h' }) :
    wpAny (model prog w) A (Builtin.«zip.__next__» ⟨[.ref z], []⟩) Q E s := by
  show wpAny _ _ (field (.ref z) 2 >>= _) _ _ _
  refine wpAny_bind (wpAny_field hz rfl (x := .bool false) rfl ?_)
  show wpAny _ _ (field (.ref z) 3 >>= _) _ _ _
  refine wpAny_bind (wpAny_field hz rfl (x := .ref TI) rfl ?_)
  refine wpAny_bind (wpAny_seqItems hTI rfl ?_)
  show wpAny _ _ (Builtin.SmallTypes.ownedTupleIsFree (.ref z) >>= _) _ _ _
  refine wpAny_bind ?_
  unfold Builtin.SmallTypes.ownedTupleIsFree
  refine wpAny_bind (wpAny_field hz rfl (x := .none) rfl (wpAny_pure ?_))
  simp only [if_true]
  refine wpAny_bind (wpAny_rule ?_)
  refine wpAny_bind (wpAny_field hz rfl (x := .ref TO) rfl ?_)
  refine wpAny_bind (wpAny_setField_rec hz (by simp) fun h₁ hz₁ hs₁ => ?_)
  replace hz₁ : IsZip h₁ z TI TO .ellipsis := hz₁
  refine wpAny_bind ?_
  simp only [List.zipIdx_cons, List.zipIdx_nil, List.forIn_cons, List.forIn_nil]
  refine wpAny_bind (wpAny_bind (wpAny_onRaise ?_))
  show wpAny _ _ (Builtin.SmallTypes.nextOf (.ref i1) >>= _) _ _ _
  cases hx : xs[n1]? with
  | none =>
    refine wpAny_bind (nextOf_end hh (h1.ext hs₁.extBut D.i1z) (hl1.ext hs₁.extBut D.l1z) hx fun h₂ e hs₂ he => ?_)
    obtain ⟨oe, hoe, hce⟩ := he
    have hz₂ : IsZip h₂ z TI TO .ellipsis := hs₂ _ _ D.i1z.symm hz₁
    have hez : e ≠ z := fun x => by subst x; rw [hz₂] at hoe; cases hoe; simp at hce
    refine wpAny_setField_rec hz₂ (by simp) fun h₃ _ hs₃ => hE h₃ e (fun c o c1 _ c3 _ x => hs₃.extBut _ _ c1 (hs₂ _ _ c3 (hs₁.extBut _ _ c1 x))) ⟨oe, hs₃.extBut _ _ hez hoe, hce⟩
  | some x =>
    have hy : ys[n2]? = none := by rcases hend with h | h; rw [hx] at h; cases h; exact h
    refine wpAny_bind (nextOf_item (h1.ext hs₁.extBut D.i1z) (hl1.ext hs₁.extBut D.l1z) hx fun h₂ h1₂ hs₂ => wpAny_pure ?_)
    have hTO₂ : IsPair h₂ TO a b := hs₂.extBut _ _ D.TOi1 (hs₁.extBut _ _ D.TOz hTO)
    refine wpAny_bind (wpAny_seqItems hTO₂ rfl ?_)
    refine wpAny_bind (wpAny_updateSeq_pair hTO₂ fun h₃ hTO₃ hs₃ => ?_)
    refine wpAny_bind (wpAny_letGo (wpAny_pure ?_))
    refine wpAny_bind (wpAny_bind (wpAny_onRaise ?_))
    show wpAny _ _ (Builtin.SmallTypes.nextOf (.ref i2) >>= _) _ _ _
    refine wpAny_bind (nextOf_end hh (((h2.ext hs₁.extBut D.i2z).ext hs₂.extBut D.i12.symm).ext hs₃.extBut D.TOi2.symm)
      (((hl2.ext hs₁.extBut D.l2z).ext hs₂.extBut D.l2i1).ext hs₃.extBut D.l2TO) hy fun h₄ e hs₄ he => ?_)
    obtain ⟨oe, hoe, hce⟩ := he
    have hz₄ : IsZip h₄ z TI TO .ellipsis := hs₄ _ _ D.i2z.symm (hs₃.extBut _ _ D.TOz.symm (hs₂.extBut _ _ D.i1z.symm hz₁))
    have hez : e ≠ z := fun x => by subst x; rw [hz₄] at hoe; cases hoe; simp at hce
    refine wpAny_setField_rec hz₄ (by simp) fun h₅ _ hs₅ => hE h₅ e (fun c o c1 c2 c3 c4 x => hs₅.extBut _ _ c1 (hs₄ _ _ c4 (hs₃.extBut _ _ c2 (hs₂.extBut _ _ c3 (hs₁.extBut _ _ c1 x))))) ⟨oe, hs₅.extBut _ _ hez hoe, hce⟩
end
end L2
namespace L2
open PySem PySem.Spec PyProof.Rows
section
variable {X : Cx} {pins : List (Addr × Obj)} {σ : List (Option V)} {H H' : Hp} {s : Shared} {h' : Heap}
theorem Inv.turnedL {t' : Nat} {its : List Addr} (I : Inv X pins σ H s) (k : ∀ b o, b ∉ its → s.heap.get? b = some o → h'.get? b = some o) (hf : ∀ b ∈ its, FpOk X pins H b) : Inv X pins σ H { s with heap := h', toks := t' } := by
  have nit : ∀ b u, H b = some u → b ∉ its := fun b u e z => by rw [(hf b z).1] at e; cases e
  refine I.step (g' := s.gens) (d' := s.drawn) (ch := its) (fun b hb => ?_) (fun b o _ _ hc e _ => k b o hc e) (fun b o _ _ hc e _ => ⟨o.slots, k b o hc e⟩) (fun _ _ _ _ n => n)
    (fun b o hc e => ⟨o, k b o hc e⟩) (fun _ _ e => e) (fun _ _ _ e => e) (fun b ps e => ⟨#[], by rw [e]; simp⟩) (fun m hm => ?_) (fun b u e => ?_) I.bare
  · obtain ⟨f0, f1, f2, f3, f4, f5⟩ := hf b hb
    exact ⟨f3, f1, f4, f5⟩
  · obtain ⟨o, es, ep, ho, r⟩ := hm
    exact ⟨o, es, ep, k _ o (fun z => (hf _ z).2.1 rfl) ho, r⟩
  · refine (I.hok b u e).stay (fun c v hc q => k c v ?_ q) (fun _ q => q) fun _ _ q => q
    rcases hc with z | z
    · rw [z]; exact nit b u e
    · exact nit c _ z
theorem Inv.turnedNew {t' : Nat} {its : List Addr} {T : Addr} {o : HO} (I : Inv X pins σ H s) (k : ∀ b ob, b ∉ its → s.heap.get? b = some ob → h'.get? b = some ob) (hf : ∀ b ∈ its, FpOk X pins H b)
    (hT : s.heap.objs.size ≤ T) (new : ObjOk X.prog X.w (upd H T o) h' T o) : Inv X pins σ (upd H T o) { s with heap := h', toks := t' } := by
  have nit : ∀ b u, H b = some u → b ∉ its := fun b u e z => by rw [(hf b z).1] at e; cases e
  have hn : H T = none := I.hok.fresh hT
  have neT : ∀ b ob, s.heap.get? b = some ob → b ≠ T := fun b ob e => Nat.ne_of_lt (Nat.lt_of_lt_of_le (Heap.lt_size e) hT)
  have up : ∀ b u, H b = some u → upd H T o b = some u := fun b u e => by rw [upd_ne (ne_of_none e hn)]; exact e
  refine I.step (g' := s.gens) (d' := s.drawn) (ch := its) (fun b hb => ?_) (fun b ob _ _ hc e _ => k b ob hc e) (fun b ob _ _ hc e _ => ⟨ob.slots, k b ob hc e⟩) (fun b ob _ e n => by rw [upd_ne (neT b ob e)]; exact n)
    (fun b ob hc e => ⟨ob, k b ob hc e⟩) (fun b _ e => up b _ e) (fun b _ _ e => up b _ e) (fun b ps e => ⟨#[], by rw [up b _ e]; simp⟩) (fun m hm => ?_) (fun b u e => ?_) I.bare
  · obtain ⟨f0, f1, f2, f3, f4, f5⟩ := hf b hb
    exact ⟨f3, f1, f4, f5⟩
  · obtain ⟨ob, es, ep, ho, r⟩ := hm
    exact ⟨ob, es, ep, k _ ob (fun z => (hf _ z).2.1 rfl) ho, r⟩
  · by_cases hb : b = T
    · subst hb; rw [upd_same] at e; cases e; exact new
    · rw [upd_ne hb] at e
      refine (I.hok b u e).stay (fun c v hc q => k c v ?_ q) (fun c q => up c _ q) fun c xs q => up c _ q
      rcases hc with z | z
      · rw [z]; exact nit b u e
      · exact nit c _ z
end
theorem Inv.sis {X : Cx} {pins : List (Addr × Obj)} {σ : St} {H : Hp} {s : Shared} {k : SK} {a : Addr} {xs : List V} (I : Inv X pins σ H s) (h : Sq k X.K H a xs) : ∃ its : List Value, Vals xs its ∧ SIs k s.heap a its.toArray := by
  cases k with
  | list => obtain ⟨its, r, p, _⟩ := I.list h; exact ⟨its, r, p.isList⟩
  | tuple => obtain ⟨its, r, p, _⟩ := I.tuple h; exact ⟨its, r, (show s.heap.IsTuple a its.toArray from p)⟩
theorem Inv.sq_inj {X : Cx} {pins : List (Addr × Obj)} {σ : St} {H : Hp} {s : Shared} {k : SK} {a : Addr} {xs ys : List V} (I : Inv X pins σ H s) (h : Sq k X.K H a xs) (h' : Sq k X.K H a ys) : xs = ys := by
  cases k with
  | list => exact I.list_inj h h'
  | tuple => exact I.tuple_inj h h'
def Itz (K : PySem.W.Frag) (k1 k2 : SK) (a b : Addr) : It :=
  ⟨fun i H => ∃ xs ys x y, Sq k1 K H a xs ∧ Sq k2 K H b ys ∧ xs[i]? = some x ∧ ys[i]? = some y,
   fun i H v H' => ∃ T, H T = none ∧ v = .ref T ∧ ∀ xs ys, Sq k1 K H a xs → Sq k2 K H b ys → ∃ x y, xs[i]? = some x ∧ ys[i]? = some y ∧ H' = upd H T (.tup [x, y]),
   fun i H => ∃ xs ys, Sq k1 K H a xs ∧ Sq k2 K H b ys ∧ (xs.length ≤ i ∨ ys.length ≤ i)⟩
theorem turn_zip {P : Program} {w : World} {K : PySem.W.Frag} {elts : List Expr} {kk : Nat} {tpos : Pos} {k1 k2 : SK} {z TI TO i1 i2 a b : Addr} (D : ZipApart z TI TO i1 i2 a b) :
    Turn P w K (.Tuple elts kk tpos) (Itz K k1 k2 a b) [z, TI, TO, i1, i2] z (fun i h => IsZip h z TI TO .none ∧ IsPair h TI (.ref i1) (.ref i2) ∧ (∃ c d, IsPair h TO c d) ∧ SIt k1 h i1 a i ∧ SIt k2 h i2 b i) where
  mem := by simp
  obj := fun i h st b hb => by
    obtain ⟨hz, hTI, ⟨c, d, hTO⟩, h1, h2⟩ := st
    simp only [List.mem_cons, List.not_mem_nil, or_false] at hb
    rcases hb with rfl | rfl | rfl | rfl | rfl
    · exact ⟨_, hz, fun v q => nomatch q⟩
    · exact ⟨_, hTI, fun v q => nomatch q⟩
    · exact ⟨_, hTO, fun v q => nomatch q⟩
    · exact h1.obj
    · exact h2.obj
  keep := fun i h h' st k => by
    obtain ⟨hz, hTI, ⟨c, d, hTO⟩, h1, h2⟩ := st
    exact ⟨k _ (by simp) _ hz, k _ (by simp) _ hTI, ⟨c, d, k _ (by simp) _ hTO⟩, h1.at fun o e => k _ (by simp) o e, h2.at fun o e => k _ (by simp) o e⟩
  item := by
    intro X hP hw hK hc i pins s σ H E I hf st hg
    subst hP hw hK
    obtain ⟨hz, hTI, ⟨c, d, hTO⟩, h1, h2⟩ := st
    obtain ⟨xs, ys, x, y, q1, q2, hx, hy⟩ := hg
    obtain ⟨ix, rx, px⟩ := I.sis q1
    obtain ⟨iy, ry, py⟩ := I.sis q2
    obtain ⟨u, hu, ru⟩ := rx.get hx
    obtain ⟨v, hv, rv⟩ := ry.get hy
    have hT : s.TypeIs (.ref z) "zip" := ⟨_, hz, rfl⟩
    unfold pyNext
    refine wpAny_bind (wpAny_attempt (wpAny_callSpecial?_slot (name := Str.ofString "__next__") hT F.slot_zip_next
      (wpAny_call_entry F.slot_zip_next hT F.entry_zip_next
        (zipS_item D hz hTI hTO h1 h2 px py (x := u) (y := v) (by simpa using hu) (by simpa using hv) fun h' a1 a2 a3 a4 a5 a6 a7 => wpAny_pure ?_) (F.args_zip_next_1 _))))
    refine ⟨_, rfl, wpAny_letOwnedTupleGo_zip (s := { s with heap := h' }) a1 fun h'' b1 b2 => ?_⟩
    have zlt : z < s.heap.objs.size := Heap.lt_size hz
    have k2 : ∀ c o, c ∉ [z, TI, TO, i1, i2] → s.heap.get? c = some o → h''.get? c = some o := fun c o hc e => by
      simp only [List.mem_cons, List.not_mem_nil, or_false, not_or] at hc
      exact b2.extBut _ _ hc.1 (a7 c o hc.1 hc.2.2.1 hc.2.2.2.1 hc.2.2.2.2 e)
    have hT2 : IsPair h'' s.heap.objs.size u v := b2.extBut _ _ (Nat.ne_of_gt zlt) a5
    refine ⟨.ref s.heap.objs.size, upd H s.heap.objs.size (.tup [x, y]), I.turnedNew (t' := s.toks) (o := .tup [x, y]) k2 hf (Nat.le_refl _) ⟨by show 2 ≤ sizeLine; decide, [u, v], .cons ru (.cons rv .nil), ⟨_, hT2, rfl, _, rfl⟩⟩, rfl,
      ⟨_, I.hok.fresh (Nat.le_refl _), rfl, fun xs' ys' e1 e2 => ?_⟩, ⟨b1, ?_, ⟨_, _, b2.extBut _ _ D.TOz a2⟩, a3.at fun o e => b2.extBut _ _ D.i1z e, a4.at fun o e => b2.extBut _ _ D.i2z e⟩, fun b hb => ?_⟩
    · rw [I.sq_inj e1 q1, I.sq_inj e2 q2]
      exact ⟨x, y, hx, hy, rfl⟩
    · exact b2.extBut _ _ D.TIz (a7 _ _ D.TIz D.TITO D.TIi1 D.TIi2 hTI)
    · have blt : b < s.heap.objs.size := by
        simp only [List.mem_cons, List.not_mem_nil, or_false] at hb
        rcases hb with rfl | rfl | rfl | rfl | rfl
        · exact zlt
        · exact Heap.lt_size hTI
        · exact Heap.lt_size hTO
        · obtain ⟨o, e, _⟩ := h1.obj; exact Heap.lt_size e
        · obtain ⟨o, e, _⟩ := h2.obj; exact Heap.lt_size e
      rw [upd_ne (Nat.ne_of_lt blt)]
      exact (hf b hb).1
  done := by
    intro X hP hw hK hc i pins s σ H E I hf st hg
    subst hP hw hK
    obtain ⟨hz, hTI, ⟨c, d, hTO⟩, h1, h2⟩ := st
    obtain ⟨xs, ys, q1, q2, hl⟩ := hg
    obtain ⟨ix, rx, px⟩ := I.sis q1
    obtain ⟨iy, ry, py⟩ := I.sis q2
    have l1 := rx.length
    have l2 := ry.length
    have hend : ix.toArray[i]? = none ∨ iy.toArray[i]? = none := by
      rcases hl with h | h
      · exact .inl (by simp; omega)
      · exact .inr (by simp; omega)
    have hT : s.TypeIs (.ref z) "zip" := ⟨_, hz, rfl⟩
    unfold pyNext
    refine wpAny_bind (wpAny_attempt (wpAny_callSpecial?_slot (name := Str.ofString "__next__") hT F.slot_zip_next
      (wpAny_call_entry F.slot_zip_next hT F.entry_zip_next (zipS_end (I.ok.hd hc) D hz hTI hTO h1 h2 px py hend fun h' e hk he => ?_) (F.args_zip_next_1 _))))
    obtain ⟨o, ho, hc'⟩ := he
    refine wpAny_bind (wpAny_isInstance (T := "StopIteration") (b := true) ⟨o, ho, hc'⟩ isSubtype_stop ?_)
    refine wpAny_pure ⟨rfl, I.turnedL (t' := s.toks) (its := [z, TI, TO, i1, i2]) (fun b o hb e => ?_) hf⟩
    simp only [List.mem_cons, List.not_mem_nil, or_false, not_or] at hb
    exact hk b o hb.1 hb.2.2.1 hb.2.2.2.1 hb.2.2.2.2 e
  self := fun _ _ _ _ _ st h => wpAny_pyIter_zip st.1 h
end L2
namespace L2
open PySem PySem.Spec PyProof.Rows
def itObj (k : SK) (l : Addr) : Obj := match k with
  | .list => { cls := .type "list_iterator", data := .fields #[.ref l, .int 0 0] }
  | .tuple => { cls := .type "tuple_iterator", data := .fields #[.ref l, .int 0 0] }
theorem itObj_it {k : SK} {l it : Addr} {h : Heap} (e : h.get? it = some (itObj k l)) : SIt k h it l 0 := by
  cases k with
  | list => exact ⟨_, e, rfl, rfl⟩
  | tuple => exact ⟨_, e, rfl, rfl⟩
abbrev zS1 (h : Heap) (k1 : SK) (l1 : Addr) : Heap := h.push (itObj k1 l1)
abbrev zS2 (h : Heap) (k1 k2 : SK) (l1 l2 : Addr) : Heap := (zS1 h k1 l1).push (itObj k2 l2)
abbrev zS3 (h : Heap) (k1 k2 : SK) (l1 l2 : Addr) : Heap := (zS2 h k1 k2 l1 l2).push { cls := .type "tuple", data := .seq #[.ref h.objs.size, .ref (zS1 h k1 l1).objs.size] }
abbrev zS4 (h : Heap) (k1 k2 : SK) (l1 l2 : Addr) : Heap := (zS3 h k1 k2 l1 l2).push { cls := .type "tuple", data := .seq #[.none, .none] }
abbrev zS5 (h : Heap) (k1 k2 : SK) (l1 l2 : Addr) : Heap := (zS4 h k1 k2 l1 l2).push { cls := .type "zip", data := .fields #[.none, .bool false, .bool false, .ref (zS2 h k1 k2 l1 l2).objs.size, .ref (zS3 h k1 k2 l1 l2).objs.size] }
set_option maxHeartbeats 4000000 in
theorem meets_zipS_new (k1 k2 : SK) (l1 l2 : Addr) (xs ys : Array Value) :
    Meets (Builtin.«zip.__new__» ⟨[.type "zip", .ref l1, .ref l2], []⟩) (fun _ R s => SIs k1 s.heap l1 xs ∧ SIs k2 s.heap l2 ys ∧
      R (.ok (.ret (.ref (zS4 s.heap k1 k2 l1 l2).objs.size))) { s with heap := zS5 s.heap k1 k2 l1 l2 }) := by
  cases k1 with
  | list =>
    cases k2 with
    | list =>
      exact .of_wp fun prog w A R s h => by
        obtain ⟨hp, g, d, tk, os⟩ := s; obtain ⟨hl1, hl2, h⟩ := h
        have hsub := sub_zip
        have hL1 : Heap.IsList (Shared.heap ⟨hp, g, d, tk, os⟩) l1 xs := hl1
        have hL2 : Heap.IsList (Shared.heap ⟨hp.push { cls := .type "list_iterator", data := .fields #[.ref l1, .int 0 0] }, g, d, tk, os⟩) l2 ys := Heap.IsList.push hl2 _
        wp_walk using wpAny_pyIter_list hL1, wpAny_pyIter_list hL2
        exact ⟨_, rfl, h⟩
    | tuple =>
      exact .of_wp fun prog w A R s h => by
        obtain ⟨hp, g, d, tk, os⟩ := s; obtain ⟨hl1, hl2, h⟩ := h
        have hsub := sub_zip
        have hL1 : Heap.IsList (Shared.heap ⟨hp, g, d, tk, os⟩) l1 xs := hl1
        have hL2 : Heap.IsTuple (Shared.heap ⟨hp.push { cls := .type "list_iterator", data := .fields #[.ref l1, .int 0 0] }, g, d, tk, os⟩) l2 ys := SIs.at (k := .tuple) hl2 fun o e => Heap.get?_push_of_some _ e
        wp_walk using wpAny_pyIter_list hL1, wpAny_pyIter_tuple hL2
        exact ⟨_, rfl, h⟩
  | tuple =>
    cases k2 with
    | list =>
      exact .of_wp fun prog w A R s h => by
        obtain ⟨hp, g, d, tk, os⟩ := s; obtain ⟨hl1, hl2, h⟩ := h
        have hsub := sub_zip
        have hL1 : Heap.IsTuple (Shared.heap ⟨hp, g, d, tk, os⟩) l1 xs := hl1
        have hL2 : Heap.IsList (Shared.heap ⟨hp.push { cls := .type "tuple_iterator", data := .fields #[.ref l1, .int 0 0] }, g, d, tk, os⟩) l2 ys := SIs.at (k := .list) hl2 fun o e => Heap.get?_push_of_some _ e
        wp_walk using wpAny_pyIter_tuple hL1, wpAny_pyIter_list hL2
        exact ⟨_, rfl, h⟩
    | tuple =>
      exact .of_wp fun prog w A R s h => by
        obtain ⟨hp, g, d, tk, os⟩ := s; obtain ⟨hl1, hl2, h⟩ := h
        have hsub := sub_zip
        have hL1 : Heap.IsTuple (Shared.heap ⟨hp, g, d, tk, os⟩) l1 xs := hl1
        have hL2 : Heap.IsTuple (Shared.heap ⟨hp.push { cls := .type "tuple_iterator", data := .fields #[.ref l1, .int 0 0] }, g, d, tk, os⟩) l2 ys := SIs.at (k := .tuple) hl2 fun o e => Heap.get?_push_of_some _ e
        wp_walk using wpAny_pyIter_tuple hL1, wpAny_pyIter_tuple hL2
        exact ⟨_, rfl, h⟩
section
variable {prog : Program} {w : World} {A : Around} {E : Value → Shared → Prop} {s : Shared}
theorem call_zipS {k1 k2 : SK} {l1 l2 : Addr} {xs ys : Array Value} {Q : Value → Shared → Prop} (hl1 : SIs k1 s.heap l1 xs) (hl2 : SIs k2 s.heap l2 ys)
    (h : ∀ h', IsZip h' (s.heap.objs.size + 4) (s.heap.objs.size + 2) (s.heap.objs.size + 3) .none → IsPair h' (s.heap.objs.size + 2) (.ref s.heap.objs.size) (.ref (s.heap.objs.size + 1)) →
      IsPair h' (s.heap.objs.size + 3) .none .none → SIt k1 h' s.heap.objs.size l1 0 → SIt k2 h' (s.heap.objs.size + 1) l2 0 →
      (∀ c o, s.heap.get? c = some o → h'.get? c = some o) → Q (.ref (s.heap.objs.size + 4)) { s with heap := h' }) :
    wpAny (model prog w) A (call (.type "zip") [.ref l1, .ref l2]) Q E s := by
  refine callType_new F.called_zip (by decide) (F.typeCall_zip_2 _ _) (F.newCall_zip_2 _ _) (fun obj => F.args_object_init_3 obj _ _) F.entry_zip_new
    (meets_zipS_new k1 k2 l1 l2 xs ys) ⟨hl1, hl2, ?_⟩
  have z1 : (zS1 s.heap k1 l1).objs.size = s.heap.objs.size + 1 := Heap.size_push ..
  have z2 : (zS2 s.heap k1 k2 l1 l2).objs.size = s.heap.objs.size + 2 := by rw [Heap.size_push, z1]
  have z3 : (zS3 s.heap k1 k2 l1 l2).objs.size = s.heap.objs.size + 3 := by rw [Heap.size_push, z2]
  have z4 : (zS4 s.heap k1 k2 l1 l2).objs.size = s.heap.objs.size + 4 := by rw [Heap.size_push, z3]
  have r1 : (itObj k1 l1).isFreed = false := by cases k1 <;> rfl
  have r2 : (itObj k2 l2).isFreed = false := by cases k2 <;> rfl
  have g5 : (zS5 s.heap k1 k2 l1 l2).get? (zS4 s.heap k1 k2 l1 l2).objs.size = some _ := Heap.get?_push_size _ rfl
  have g4 : (zS5 s.heap k1 k2 l1 l2).get? (zS3 s.heap k1 k2 l1 l2).objs.size = some _ := Heap.get?_push_of_some _ (Heap.get?_push_size _ rfl)
  have g3 : (zS5 s.heap k1 k2 l1 l2).get? (zS2 s.heap k1 k2 l1 l2).objs.size = some _ := Heap.get?_push_of_some _ (Heap.get?_push_of_some _ (Heap.get?_push_size _ rfl))
  have g2 : (zS5 s.heap k1 k2 l1 l2).get? (zS1 s.heap k1 l1).objs.size = some _ := Heap.get?_push_of_some _ (Heap.get?_push_of_some _ (Heap.get?_push_of_some _ (Heap.get?_push_size _ r2)))
  have g1 : (zS5 s.heap k1 k2 l1 l2).get? s.heap.objs.size = some _ := Heap.get?_push_of_some _ (Heap.get?_push_of_some _ (Heap.get?_push_of_some _ (Heap.get?_push_of_some _ (Heap.get?_push_size _ r1))))
  show _ ∧ _
  rw [z2, z3, z4] at g5
  rw [z1, z2] at g3
  rw [z3] at g4
  rw [z1] at g2
  rw [z4]
  exact ⟨⟨_, g5, rfl⟩, h _ g5 g3 g4 (itObj_it g1) (itObj_it g2) fun c o x =>
    Heap.get?_push_of_some _ (Heap.get?_push_of_some _ (Heap.get?_push_of_some _ (Heap.get?_push_of_some _ (Heap.get?_push_of_some _ x))))⟩
end
section
variable {X : Cx} {elts : List Expr} {kk : Nat} {tpos : Pos}
def iZip (K : PySem.W.Frag) (k1 k2 : SK) (ta : TA) : TI := fun σ H R => ta σ H fun vs H1 => ∃ a b, vs = [.ref a, .ref b] ∧ (∃ xs, Sq k1 K H1 a xs) ∧ (∃ ys, Sq k2 K H1 b ys) ∧ R (Itz K k1 k2 a b) H1
theorem pi_zip (k1 k2 : SK) {a b : Expr} {ta : TA} {p pos : Pos} (hg : Gl X "zip") (hm : X.mg "zip" = none) (ha : PA X [a, b] ta) (hs : starEach [a, b] X.env = [(false, eval a X.env), (false, eval b X.env)] := by rfl) (hs2 : starEach [b] X.env = [(false, eval b X.env)] := by rfl) :
    PI X (.Tuple elts kk tpos) (.Call (.Name "zip" p) [a, b] [] pos) (iZip X.K k1 k2 ta) := by
  intro pins s σ H R I h
  refine Call_ (ld_blt I hg hm boot_zip (PyProof.Rows.callWith_type1 (thn (ha pos pins s σ H _ I h) fun us s1 ⟨vs, H1, I1, r1, q1⟩ => ?_) (by rw [hs, hs2]) (by rw [hs2]; rfl)))
  obtain ⟨a', b', e, ⟨xs, qx⟩, ⟨ys, qy⟩, q⟩ := q1
  subst e
  obtain ⟨u, v, rfl, ru, rv⟩ := vals2 r1
  cases ru
  cases rv
  obtain ⟨ix, rx, px⟩ := I1.sis qx
  obtain ⟨iy, ry, py⟩ := I1.sis qy
  refine call_zipS px py fun h' b1 b2 b3 b4 b5 b6 => wpAny_pyIter_zip (s := { s1 with heap := h' }) b1 ?_
  have nn : ∀ b, s1.heap.objs.size ≤ b → FpOk X pins H1 b := fun b hb => I1.fpOk hb (I1.hok.fresh hb)
  refine ⟨_, [s1.heap.objs.size + 4, s1.heap.objs.size + 2, s1.heap.objs.size + 3, s1.heap.objs.size, s1.heap.objs.size + 1], _, _, H1, rfl, I1.kept (t' := s1.toks) b6, turn_zip (k1 := k1) (k2 := k2) (zipApart_new px.lt py.lt), ⟨b1, b2, ⟨_, _, b3⟩, b4, b5⟩, fun b hb => ?_, q⟩
  simp only [List.mem_cons, List.not_mem_nil, or_false] at hb
  rcases hb with rfl | rfl | rfl | rfl | rfl
  · exact nn _ (Nat.le_add_right _ _)
  · exact nn _ (Nat.le_add_right _ _)
  · exact nn _ (Nat.le_add_right _ _)
  · exact nn _ (Nat.le_refl _)
  · exact nn _ (Nat.le_add_right _ _)
end
end L2

namespace L2
open PySem PySem.Spec PyProof.Rows PySem.Builtin PySem.Builtin.Str
section
variable {X : Cx}
def rSlS : V → Option Int → Option Int → Hp → VK → Prop := fun x lo hi H Q => ∃ z, x = .str z ∧ z.length ≤ sizeLine ∧ Q (.str (Txt.slice z lo hi)) H
def rMulS : R2 := fun x y H Q => ∃ c n, x = .str ⟨#[c]⟩ ∧ y = .int n ∧ 1 ≤ n ∧ n ≤ 1000 ∧ ∀ z : Str, z.cps.toList = List.replicate n.toNat c → Q (.str z) H
def rJoin (K : PySem.W.Frag) : V → List V → Hp → VK → Prop := fun x vs H Q => ∃ sep p ys, x = .str sep ∧ vs = [.ref p] ∧ SqL K H p (ys.map V.str) ∧ (ys.map (·.length)).sum + ys.length * sep.length ≤ 16777216 ∧ Q (.str (Str.join sep ys)) H
def rSplit : V → List V → Hp → VK → Prop := fun x vs H Q => ∃ z y, x = .str z ∧ vs = [.str y] ∧ y.length ≠ 0 ∧ z.length + 2 ≤ sizeLine ∧ ∀ p, H p = none → Q (.ref p) (upd H p (.lst ((Txt.split z y).map V.str)))
def rIsT (K : PySem.W.Frag) : List V → Hp → VK → Prop := fun xs H Q => ∃ x T t b, xs = [x, .ty T] ∧ TyOf K H x t ∧ PySem.W.kitOne K t (.type T) = some b ∧ Q (.bl b) H
theorem call_isT : CallR X (.builtin "isinstance") (rIsT X.K) := by
  intro pins s σ H xs us Q I r h
  obtain ⟨x, T, t, b, rfl, ty, e, q⟩ := h
  obtain ⟨u, v, rfl, ru, rv⟩ := vals2 r
  cases rv
  exact isinst_ok I ru ty e fun tk => ⟨.bl b, H, I.tok _, rfl, q⟩
example (K : PySem.W.Frag) : PySem.W.kitOne K (.type "int") (.type "int") = some true := rfl
example (K : PySem.W.Frag) : PySem.W.kitOne K (.type "str") (.type "int") = some false := rfl
example (K : PySem.W.Frag) : PySem.W.kitOne K (.type "tuple") (.type "int") = some false := rfl
example (K : PySem.W.Frag) : PySem.W.kitOne K (.type "bool") (.type "int") = some true := rfl
end
end L2
namespace L2
open PySem PySem.Spec PyProof.Rows
end L2

namespace L2
open PySem PySem.Spec PyProof.Rows
def ent (w : World) (x : Str × Tok × Value) : DictEntry := ⟨hashStr w x.1, .str x.1 x.2.1, x.2.2⟩
structure KD (P : Program) (w : World) (K : PySem.W.Frag) (a : Addr) (kvs : List (Key × V)) : Prop where
  ex : ∃ (o : Obj) (es : Array DictEntry) (ep : Nat) (vs : List (Key × Value)), K.lookup a = some o ∧ o.ExactDict ∧ o.data = .dict es ep ∧ KeysOf (mixKind P w) es ∧ Pairs (mixKind P w) es.toList vs ∧ (vs.map (·.1)).Nodup ∧ KV kvs vs
  ns : (a == sysModules) = false
def DK (P : Program) (w : World) (K : PySem.W.Frag) (H : Hp) (a : Addr) (kvs : List (Key × V)) : Prop := Rd H a (.dK kvs) ∨ KD P w K a kvs
section
variable {X : Cx}
def rIxD (X : Cx) : R2 := fun x y H Q => ∃ a kvs k v, x = .ref a ∧ y = kV k ∧ DK X.prog X.w X.K H a kvs ∧ valV kvs k = some v ∧ Q v H
def rInD (X : Cx) (neg : Bool) : R2 := fun x y H Q => ∃ a kvs k, y = .ref a ∧ x = kV k ∧ DK X.prog X.w X.K H a kvs ∧ Q (.bl (if neg then !(valV kvs k).isSome else (valV kvs k).isSome)) H
end
end L2

namespace L2
open PySem PySem.Spec PyProof.Rows
structure Pr (p : Prop) : Prop where
  h : p
section
variable {X : Cx}
theorem qpe_var {i : Nat} {x : Str} {pos : Pos} (hN : X.N[i]? = some x) (hv : Vis X.env.scope x) (hd : (x == ("__debug__" : Str)) = false := by decide) (hcd : (x == ("__classdict__" : Str)) = false := by decide) : Pr (PE X (.Name x pos) (tVar i)) := ⟨pe_var hN hv hd hcd⟩
end
section
variable {X : Cx}
theorem qpe_int {i j pos} : Pr (PE X (.Constant (.int i) j pos) (tC (.int i))) := ⟨pe_int⟩
end
section
variable {X : Cx}
theorem qpe_bl {b j pos} : Pr (PE X (.Constant (.bool b) j pos) (tC (.bl b))) := ⟨pe_bl⟩
end
section
variable {X : Cx}
theorem qpe_non {j pos} : Pr (PE X (.Constant .none j pos) (tC .non)) := ⟨pe_non⟩
end
section
variable {X : Cx}
theorem qpe_str {x j pos} : Pr (PE X (.Constant (.str x) j pos) (tC (.str x))) := ⟨pe_str⟩
end
section
variable {X : Cx}
theorem qpe_glob {x : Str} {v : V} {u : Value} {pos : Pos} (hg : Gl X x) (hm : X.mg x = some u) (r : RelV v u) (hd : (x == ("__debug__" : Str)) = false := by decide) : Pr (PE X (.Name x pos) (tC v)) := ⟨pe_glob hg hm r hd⟩
end
section
variable {X : Cx}
theorem qpe_bltn {x : Str} {v : V} {u : Value} {pos : Pos} (hg : Gl X x) (hm : X.mg x = none) (hv : bootBuiltins x = some u) (r : RelV v u) (hn : x ≠ "__name__" := by decide) (hd : (x == ("__debug__" : Str)) = false := by decide) : Pr (PE X (.Name x pos) (tC v)) := ⟨pe_bltn hg hm hv r hn hd⟩
end
section
variable {X : Cx} {a b c : Expr} {ta tb tc : TE} {pos : Pos}
theorem qpe_op {op : Operator} {r : R2} (ho : OpR X (binaryOp op) r) (ha : Pr (PE X a ta)) (hb : Pr (PE X b tb)) : Pr (PE X (.BinOp a op b pos) (tOp r ta tb)) := ⟨pe_op ho ha.h hb.h⟩
end
section
variable {X : Cx} {a b c : Expr} {ta tb tc : TE} {pos : Pos}
theorem qpe_un {op : UnaryOp} {r : V → Hp → VK → Prop} (ho : UnR X (unaryOp op) r) (ha : Pr (PE X a ta)) : Pr (PE X (.UnaryOp op a pos) (tUn r ta)) := ⟨pe_un ho ha.h⟩
end
section
variable {X : Cx} {a b c : Expr} {ta tb tc : TE} {pos : Pos}
theorem qpe_cmpR {op : CmpOp} {r : R2} (ho : OpR X (compareOp op) r) (ha : Pr (PE X a ta)) (hb : Pr (PE X b tb)) (hm : behindInMarks op b = false) : Pr (PE X (.Compare a [op] [b] pos) (tOp r ta tb)) := ⟨pe_cmpR ho ha.h hb.h hm⟩
end
section
variable {X : Cx} {a b c : Expr} {ta tb tc : TE} {pos : Pos}
theorem qpe_chain {op op' : CmpOp} {r r' : R2} (ho : OpR X (compareOp op) r) (ho' : OpR X (compareOp op') r') (ha : Pr (PE X a ta)) (hb : Pr (PE X b tb)) (hc : Pr (PE X c tc)) (hm : lastMarks [op, op'] [b, c] = false := by with_unfolding_all rfl) : Pr (PE X (.Compare a [op, op'] [b, c] pos) (tChain r r' ta tb tc)) := ⟨pe_chain ho ho' ha.h hb.h hc.h hm⟩
end
section
variable {X : Cx}
variable {a b : Expr} {ta tb : TE} {pos : Pos}
variable {tA tB' : TT} {rest : List Expr}
theorem qpe_and (ha : Pr (PE X a ta)) (hb : Pr (PE X (.BoolOp .And (b :: rest) pos) tb)) : Pr (PE X (.BoolOp .And (a :: b :: rest) pos) (tAndV ta tb)) := ⟨pe_and ha.h hb.h⟩
end
section
variable {X : Cx}
variable {a b : Expr} {ta tb : TE} {pos : Pos}
variable {tA tB' : TT} {rest : List Expr}
theorem qpe_or (ha : Pr (PE X a ta)) (hb : Pr (PE X (.BoolOp .Or (b :: rest) pos) tb)) : Pr (PE X (.BoolOp .Or (a :: b :: rest) pos) (tOrV ta tb)) := ⟨pe_or ha.h hb.h⟩
end
section
variable {X : Cx}
variable {a b : Expr} {ta tb : TE} {pos : Pos}
variable {tA tB' : TT} {rest : List Expr}
theorem qpe_one {op} {t : TE} (h : Pr (PE X a t)) : Pr (PE X (.BoolOp op [a] pos) t) := ⟨pe_one h.h⟩
end
section
variable {X : Cx}
variable {a b : Expr} {ta tb : TE} {pos : Pos}
variable {tA tB' : TT} {rest : List Expr}
theorem qpe_not (ha : Pr (PE X a ta)) : Pr (PE X (.UnaryOp .Not a pos) (tNotV ta)) := ⟨pe_not ha.h⟩
end
section
variable {X : Cx}
variable {a b : Expr} {ta tb : TE} {pos : Pos}
variable {tA tB' : TT} {rest : List Expr}
end
section
variable {X : Cx} {e : Expr} {es : List Expr} {te : TE} {t : TA} {pos : Pos}
theorem qpe_tup {x1} (h : Pr (PA X es t)) : Pr (PE X (.Tuple es x1 pos) (tTup t)) := ⟨pe_tup h.h⟩
end
section
variable {X : Cx} {e : Expr} {es : List Expr} {te : TE} {t : TA} {pos : Pos}
theorem qpe_lst (h : Pr (PA X es t)) : Pr (PE X (.List es pos) (tLst t)) := ⟨pe_lst h.h⟩
end
section
variable {X : Cx} {e : Expr} {te : TE} {lo hi : Option Expr} {tl th : TO} {pos p2 : Pos}
theorem qpe_slice {r : V → Option Int → Option Int → Hp → VK → Prop} (hr : SlR X r) (he : Pr (PE X e te)) (hl : Pr (PO X lo tl)) (hu : Pr (PO X hi th)) : Pr (PE X (.Subscript e (.Slice lo hi none p2) pos) (tSl r te tl th)) := ⟨pe_slice hr he.h hl.h hu.h⟩
end
section
variable {X : Cx} {a b : Expr} {ta tb : TE} {pos : Pos}
theorem qpe_ix {r : R2} (hr : IxR X r) (ha : Pr (PE X a ta)) (hb : Pr (PE X b tb)) (hs : PlainIx b) : Pr (PE X (.Subscript a b pos) (tOp r ta tb)) := ⟨pe_ix hr ha.h hb.h hs⟩
end
section
variable {X : Cx}
end
section
variable {X : Cx} {o e value : Expr} {f : Str} {pos pos' tpos : Pos} {ta tv : TE}
theorem qpe_fld (he : Pr (PE X e ta)) (hb : attributeBase e f X.env (eval e X.env) = eval e X.env) : Pr (PE X (.Attribute e f pos) (tFld X.K ta f)) := ⟨pe_fld he.h hb⟩
end
section
variable {X : Cx} {CX : CXT} {k : Nat} {ps : List Str} {sp : Sp} {E : XK} {x : Str} {p pos : Pos} {e : Expr} {es : List Expr} {t : TA}
theorem qpe_callD (D : DefOk X.prog X.w X.K X.mg X.base CX k x ps sp) (hr : Room k X.A) (hg : Gl X x) (hx : Passes CX X E) (ha : Pr (PA X (e :: es) t)) (hdb : (x == ("__debug__" : Str)) = false := by decide) (he : starEach (e :: es) X.env = (false, eval e X.env) :: starEach es X.env := by rfl) (hpl : (backTo pos (starEach es X.env)).any (·.1) = false := by rfl) : Pr (PE X (.Call (.Name x p) (e :: es) [] pos) (tCall sp [] E t)) := ⟨pe_callD D hr hg hx ha.h hdb he hpl⟩
end
section
variable {X : Cx} {CX : CXT} {k : Nat} {ps : List Str} {sp : Sp} {E : XK} {x : Str} {p pos : Pos} {e : Expr} {es : List Expr} {t : TA}
end
section
variable {X : Cx} {x : Str} {p pos : Pos} {e : Expr} {es : List Expr} {t : TA} {id T : String} {r : List V → Hp → VK → Prop}
theorem qpe_callB (hc : CallR X (.builtin id) r) (hg : Gl X x) (hm : X.mg x = none) (hv : bootBuiltins x = some (.builtin id)) (ha : Pr (PA X (e :: es) t)) (hn : x ≠ "__name__" := by decide) (hdb : (x == ("__debug__" : Str)) = false := by decide) (he : starEach (e :: es) X.env = (false, eval e X.env) :: starEach es X.env := by rfl) (hpl : (backTo pos (starEach es X.env)).any (·.1) = false := by rfl) : Pr (PE X (.Call (.Name x p) (e :: es) [] pos) (tCB r t)) := ⟨pe_callB hc hg hm hv ha.h hn hdb he hpl⟩
end
section
variable {X : Cx} {x : Str} {p pos : Pos} {e : Expr} {es : List Expr} {t : TA} {id T : String} {r : List V → Hp → VK → Prop}
theorem qpe_callTy (hc : CallR X (.type T) r) (hg : Gl X x) (hm : X.mg x = none) (hv : bootBuiltins x = some (.type T)) (ha : Pr (PA X (e :: es) t)) (hn : x ≠ "__name__" := by decide) (hdb : (x == ("__debug__" : Str)) = false := by decide) (he : starEach (e :: es) X.env = (false, eval e X.env) :: starEach es X.env := by rfl) (hpl : (backTo pos (starEach es X.env)).any (·.1) = false := by rfl) : Pr (PE X (.Call (.Name x p) (e :: es) [] pos) (tCB r t)) := ⟨pe_callTy hc hg hm hv ha.h hn hdb he hpl⟩
end
section
variable {X : Cx} {a b : Expr} {ta tb : TE} {pos : Pos}
variable {o e : Expr} {es : List Expr} {to : TE} {t : TA} {name : Str} {apos cpos : Pos} {T id : String} {r : V → List V → Hp → VK → Prop}
theorem qpe_bm (pa : PlainAttrs T) (slot : Slot T name id) (hty : typeOf (.builtin id) = pure (.type "method_descriptor")) (hm : MtR X id r) (ho : Pr (PE X o to)) (ha : Pr (PA X (e :: es) t)) (hbase : attributeBase o name X.env (eval o X.env) = eval o X.env := by rfl) (hfew : ((backTo cpos (starEach (e :: es) X.env)).all (fun x => !x.1) && (backToKw cpos (keywordEach [] X.env)).all (fun x => x.1.isSome)
      && decide ((e :: es).length + ([] : List Keyword).length + (if ([] : List Keyword).isEmpty then 0 else 1) < 30)) = true := by rfl) (hline : (apos.endLine == cpos.line) = true := by rfl) (hs : starEach (e :: es) X.env = (false, eval e X.env) :: starEach es X.env := by rfl) (hplain : (backTo cpos (starEach es X.env)).any (·.1) = false := by rfl) : Pr (PE X (.Call (.Attribute o name apos) (e :: es) [] cpos) (tBM X.K T r to t)) := ⟨pe_bm pa slot hty hm ho.h ha.h hbase hfew hline hs hplain⟩
end
section
variable {X : Cx} {a b c : Expr} {ta tb tc : TE} {pos : Pos}
theorem qpt_cmpR {op : CmpOp} {r : R2} (ho : OpR X (compareOp op) r) (ha : Pr (PE X a ta)) (hb : Pr (PE X b tb)) (hm : behindInMarks op b = false) : Pr (PT X (.Compare a [op] [b] pos) (tTest (tOp r ta tb))) := ⟨pt_cmpR ho ha.h hb.h hm⟩
end
section
variable {X : Cx} {a b c : Expr} {ta tb tc : TE} {pos : Pos}
end
section
variable {X : Cx}
variable {a b : Expr} {ta tb : TE} {pos : Pos}
variable {tA tB' : TT} {rest : List Expr}
theorem qpt_not (ha : Pr (PT X a tA)) : Pr (PT X (.UnaryOp .Not a pos) (tNot tA)) := ⟨pt_not ha.h⟩
end
section
variable {X : Cx}
variable {a b : Expr} {ta tb : TE} {pos : Pos}
theorem qpt_val {e : Expr} {t : TE} (h : Pr (PE X e t)) (he : ∀ whole, isTrue e X.env whole = (do let v ← whole; standAt e.pos; holding [v] (truthy v)) := by intro _; rfl) : Pr (PT X e (tB t)) := ⟨pt_val h.h he⟩
end
section
theorem qPW_pt {X : Cx} {e : Expr} {t : TT} (h : Pr (PW X e t)) : Pr (PT X e t) := ⟨PW.pt h.h⟩
end
section
variable {X : Cx}
variable {a b : Expr} {ta tb : TE} {pos : Pos}
variable {tA tB' : TT} {rest : List Expr}
theorem qpw_and (ha : Pr (PT X a tA)) (hb : Pr (PW X (.BoolOp .And (b :: rest) pos) tB')) : Pr (PW X (.BoolOp .And (a :: b :: rest) pos) (tAnd tA tB')) := ⟨pw_and ha.h hb.h⟩
end
section
variable {X : Cx}
variable {a b : Expr} {ta tb : TE} {pos : Pos}
variable {tA tB' : TT} {rest : List Expr}
theorem qpw_and1 (ha : Pr (PT X a tA)) : Pr (PW X (.BoolOp .And [a] pos) tA) := ⟨pw_and1 ha.h⟩
end
section
variable {X : Cx}
variable {a b : Expr} {ta tb : TE} {pos : Pos}
variable {tA tB' : TT} {rest : List Expr}
theorem qpw_or (ha : Pr (PT X a tA)) (hb : Pr (PW X (.BoolOp .Or (b :: rest) pos) tB')) : Pr (PW X (.BoolOp .Or (a :: b :: rest) pos) (tOr tA tB')) := ⟨pw_or ha.h hb.h⟩
end
section
variable {X : Cx}
variable {a b : Expr} {ta tb : TE} {pos : Pos}
variable {tA tB' : TT} {rest : List Expr}
theorem qpw_or1 (ha : Pr (PT X a tA)) : Pr (PW X (.BoolOp .Or [a] pos) tA) := ⟨pw_or1 ha.h⟩
end
section
variable {X : Cx} {e : Expr} {es : List Expr} {te : TE} {t : TA} {pos : Pos}
theorem qpa_nil  : Pr (PA X [] tNil) := ⟨pa_nil⟩
end
section
variable {X : Cx} {e : Expr} {es : List Expr} {te : TE} {t : TA} {pos : Pos}
theorem qpa_cons (ha : Pr (PE X e te)) (hr : Pr (PA X es t)) (hs : starEach (e :: es) X.env = (false, eval e X.env) :: starEach es X.env := by rfl) : Pr (PA X (e :: es) (tCons te t)) := ⟨pa_cons ha.h hr.h hs⟩
end
section
variable {X : Cx} {e : Expr} {te : TE} {lo hi : Option Expr} {tl th : TO} {pos p2 : Pos}
theorem qpo_none  : Pr (PO X none tNoPart) := ⟨po_none⟩
end
section
variable {X : Cx} {e : Expr} {te : TE} {lo hi : Option Expr} {tl th : TO} {pos p2 : Pos}
theorem qpo_some (h : Pr (PE X e te)) : Pr (PO X (some e) (tPart te)) := ⟨po_some h.h⟩
end
section
variable {X : Cx} {tg : Expr}
theorem qpi_list {l : Expr} {tl : TE} (hl : Pr (PE X l tl)) : Pr (PI X tg l (iList X.K tl)) := ⟨pi_list hl.h⟩
end
section
variable {X : Cx} {tg : Expr}
theorem qpi_tup {l : Expr} {tl : TE} (hl : Pr (PE X l tl)) : Pr (PI X tg l (iTup X.K tl)) := ⟨pi_tup hl.h⟩
end
section
variable {X : Cx} {tg : Expr}
theorem qpi_range1 {a : Expr} {ta : TA} {p pos : Pos} (hg : Gl X "range") (hm : X.mg "range" = none) (ha : Pr (PA X [a] ta)) (hs : starEach [a] X.env = [(false, eval a X.env)] := by rfl) : Pr (PI X tg (.Call (.Name "range" p) [a] [] pos) (iRng1 ta)) := ⟨pi_range1 hg hm ha.h hs⟩
end
section
variable {X : Cx} {tg : Expr}
end
section
variable {X : Cx} {elts : List Expr} {kk : Nat} {tpos : Pos}
theorem qpi_zip (k1 k2 : SK) {a b : Expr} {ta : TA} {p pos : Pos} (hg : Gl X "zip") (hm : X.mg "zip" = none) (ha : Pr (PA X [a, b] ta)) (hs : starEach [a, b] X.env = [(false, eval a X.env), (false, eval b X.env)] := by rfl) (hs2 : starEach [b] X.env = [(false, eval b X.env)] := by rfl) : Pr (PI X (.Tuple elts kk tpos) (.Call (.Name "zip" p) [a, b] [] pos) (iZip X.K k1 k2 ta)) := ⟨pi_zip k1 k2 hg hm ha.h hs hs2⟩
end
section
variable {X : Cx} {pos : Pos}
theorem qpg_name {i : Nat} {x : Str} (hN : X.N.Nodup) (hi : X.N[i]? = some x) (hx : Loc X.env.scope x) (hf : X.fn x = true ∨ X.env.scope.names.lookup x = some .local := by first | exact .inl rfl | exact .inr rfl | assumption) : Pr (PG X (.Name x pos) (gName i)) := ⟨pg_name hN hi hx hf⟩
end
section
variable {X : Cx} {pos : Pos}
theorem qpgs_nil  : Pr (PGs X [] gNil) := ⟨pgs_nil⟩
end
section
variable {X : Cx} {pos : Pos}
theorem qpgs_cons {e : Expr} {es : List Expr} {t : TG} {u : TGs} (h1 : Pr (PG X e t)) (h2 : Pr (PGs X es u)) (hs : (assignEach (e :: es) X.env).map (·.2) = assign e X.env :: (assignEach es X.env).map (·.2) := by rfl) : Pr (PGs X (e :: es) (gCons t u)) := ⟨pgs_cons h1.h h2.h hs⟩
end
section
variable {X : Cx} {pos : Pos}
theorem qpg_tup {es : List Expr} {k : Nat} {t : TGs} {n : Nat} (hc : X.calm = true) (h : Pr (PGs X es t)) (hn : (assignEach es X.env).length = n := by rfl) (hst : (assignEach es X.env).findIdx? (·.1) = none := by rfl) : Pr (PG X (.Tuple es k pos) (gTup X.K n t)) := ⟨pg_tup hc h.h hn hst⟩
end
section
variable {X : Cx} {pos : Pos}
theorem qpg_sub {o i : Expr} {to ti : TE} {t : TSet} (ho : Pr (PE X o to)) (hi : Pr (PE X i ti)) (hs : PSet X t) (ha : ∀ v, assign (.Subscript o i pos) X.env v = (do
      let ov ← holding [v] (eval o X.env)
      let iv ← holding [v, ov] (eval i X.env)
      standAt pos
      holding [v, ov, iv] (setItem ov iv v)
      release [v, ov, iv] []) := by intro _; rfl) : Pr (PG X (.Subscript o i pos) (gSub to ti t)) := ⟨pg_sub ho.h hi.h hs ha⟩
end
section
variable {X : Cx} {st : Stmt} {rest : List Stmt} {t u : TS} {e : Expr} {te : TE} {pos : Pos}
theorem qps_ret (he : Pr (PE X e te)) : Pr (PS X (.Return (some e) pos) (tRet te)) := ⟨ps_ret he.h⟩
end
section
variable {X : Cx} {st : Stmt} {rest : List Stmt} {t u : TS} {e : Expr} {te : TE} {pos : Pos}
end
section
variable {X : Cx} {pos : Pos}
theorem qps_set {i : Nat} {x : Str} {e : Expr} {te : TE} {pos' : Pos} (hN : X.N.Nodup) (hi : X.N[i]? = some x) (hx : Loc X.env.scope x) (he : Pr (PE X e te)) (hs : swapsWith e (some (.Name x pos')) pos.line X.env = pure false := by rfl) (hf : X.fn x = true ∨ X.env.scope.names.lookup x = some .local := by first | exact .inl rfl | exact .inr rfl | assumption) : Pr (PS X (.Assign [.Name x pos'] e pos) (tAsg te (gName i))) := ⟨ps_set hN hi hx he.h hs hf⟩
end
section
variable {X : Cx} {pos : Pos}
theorem qps_asg {tg e : Expr} {te : TE} {g : TG} (he : Pr (PE X e te)) (hg : Pr (PG X tg g)) (hs : swapsWithSole [tg] e pos.line X.env = pure false := by rfl) (hw : swappedStores [tg] e X.env = pure none := by rfl) (h1 : (assignEach [tg] X.env).map (·.2) = [assign tg X.env] := by rfl) : Pr (PS X (.Assign [tg] e pos) (tAsg te g)) := ⟨ps_asg he.h hg.h hs hw h1⟩
end
section
variable {X : Cx} {pos : Pos}
end
section
variable {X : Cx} {st : Stmt} {rest : List Stmt} {t u : TS} {e : Expr} {te : TE} {pos : Pos}
theorem qps_if {c : Expr} {a b : List Stmt} {tc : TT} (hc : Pr (PT X c tc)) (ha : Pr (PSs X a t)) (hb : Pr (PSs X b u)) : Pr (PS X (.If c a b pos) (tIfS tc t u)) := ⟨ps_if hc.h ha.h hb.h⟩
end
section
theorem qps_loop {X : Cx} {tg iter : Expr} {body : List Stmt} {wi : TI} {g : TG} {tb : TS} {pos : Pos} (hp : PassesOwn (model X.prog X.w) X.A X.env X.xe) (hc : X.calm = true) (hi : Pr (PI X tg iter wi)) (hg : Pr (PG X tg g)) (hb : Pr (PSs X body tb)) (hs : ∀ x, foldedSetIterable iter X.env x = pure x := by intro _; rfl) : Pr (PS X (.For tg iter body [] pos) (tLoop wi g tb)) := ⟨ps_loop hp hc hi.h hg.h hb.h hs⟩
end
section
variable {X : Cx} {pos : Pos}
theorem qps_while {c : Expr} {body : List Stmt} {tc : TT} {tb : TS} (hp : PassesOwn (model X.prog X.w) X.A X.env X.xe) (hc : Pr (PT X c tc)) (hb : Pr (PSs X body tb)) : Pr (PS X (.While c body [] pos) (tWhile tc tb)) := ⟨ps_while hp hc.h hb.h⟩
end
section
variable {X : Cx} {st : Stmt} {rest : List Stmt} {t u : TS} {e : Expr} {te : TE} {pos : Pos}
theorem qps_expr (he : Pr (PE X e te)) (hs : swapsWith e none pos.line X.env = pure false := by rfl) : Pr (PS X (.Expr e pos) (tDrop te)) := ⟨ps_expr he.h hs⟩
end
section
variable {X : Cx} {st : Stmt} {rest : List Stmt} {t u : TS} {e : Expr} {te : TE} {pos : Pos}
end
section
variable {X : Cx} {st : Stmt} {rest : List Stmt} {t u : TS} {e : Expr} {te : TE} {pos : Pos}
end
section
variable {X : Cx} {st : Stmt} {rest : List Stmt} {t u : TS} {e : Expr} {te : TE} {pos : Pos}
theorem qps_continue  : Pr (PS X (.Continue pos) tCont) := ⟨ps_continue⟩
end
section
variable {X : Cx} {st : Stmt} {rest : List Stmt} {t u : TS} {e : Expr} {te : TE} {pos : Pos}
theorem qpss_nil  : Pr (PSs X [] tNext) := ⟨pss_nil⟩
end
section
variable {X : Cx} {st : Stmt} {rest : List Stmt} {t u : TS} {e : Expr} {te : TE} {pos : Pos}
theorem qpss_one (h1 : Pr (PS X st t)) : Pr (PSs X [st] t) := ⟨pss_one h1.h⟩
end
section
variable {X : Cx} {st : Stmt} {rest : List Stmt} {t u : TS} {e : Expr} {te : TE} {pos : Pos}
theorem qpss_cons (h1 : Pr (PS X st t)) (h2 : Pr (PSs X rest u)) : Pr (PSs X (st :: rest) (tSeq t u)) := ⟨pss_cons h1.h h2.h⟩
end
section
theorem qpss_cut {X : Cx} {st : Stmt} {rest : List Stmt} {t u : TS} (h1 : Pr (PS X st t)) (h2 : Pr (PSs X rest u)) : Pr (PSs X (st :: rest) (tCut t u)) := ⟨pss_cut h1.h h2.h⟩
end
section
variable {X : Cx} {st : Stmt} {rest : List Stmt} {t u : TS} {e : Expr} {te : TE} {pos : Pos}
end
section
variable {X : Cx} {o e value : Expr} {f : Str} {pos pos' tpos : Pos} {ta tv : TE}
theorem qps_fld (ha : Pr (PE X o ta)) (hv : Pr (PE X value tv)) (hs : swapsWith value (some (.Attribute o f pos')) pos.line X.env = pure false) : Pr (PS X (.Assign [.Attribute o f pos'] value pos) (sFld X.K ta tv f)) := ⟨ps_fld ha.h hv.h hs⟩
end
end L2

namespace L2
open PySem PySem.Spec PyProof.Rows
def relab (sc outer : Scope) : Scope :=
  { sc with names := sc.names.map fun (n, k) => if (k == .free && outer.kind == .function && outer.names.lookup n == some .cell) then (n, .cell) else (n, k) }
structure CompOk (sc outer : Scope) (own : List Str) (N : List Str) (fr : List Nat) (N' : List Str) : Prop where
  kind : sc.kind = .function
  nocell : ∀ y ∈ sc.names, y.2 ≠ .cell
  loc : ∀ y ∈ sc.names, y.2 = .local → sc.names.lookup y.1 = some .local
  fre : ∀ y ∈ sc.names, y.2 = .free → outer.names.lookup y.1 = some .cell ∨ outer.names.lookup y.1 = some .free
  nd : N'.Nodup
  all : N'.map some = own.map some ++ fr.map fun j => N[j]?
  frk : ∀ j ∈ fr, ∀ x, N[j]? = some x → sc.names.lookup x = some .free ∧ (outer.names.lookup x = some .cell ∨ outer.names.lookup x = some .free)
def cst (n : Nat) (fr : List Nat) (σ : St) : St := List.replicate n none ++ fr.map fun j => (σ[j]?).join
theorem closure_has {env : Env} {sc : Scope} (h : ∀ y ∈ sc.names, y.2 = .free → ∃ c, env.cells.lookup y.1 = some c) :
    ∃ cl, closureFor sc env = pure cl ∧ (∀ x c, cl.lookup x = some c → env.cells.lookup x = some c) ∧ ∀ y ∈ sc.names, y.2 = .free → ∃ c, cl.lookup y.1 = some c := by
  have key : ∀ (l : List (Str × NameKind)) (cs : List (Str × Addr)), (∀ y ∈ l, y.2 = .free → ∃ c, env.cells.lookup y.1 = some c) → (∀ x c, cs.lookup x = some c → env.cells.lookup x = some c) →
      ∃ cl, (forIn l cs fun x r => if (x.2 == NameKind.free) = true then do let a ← cellOf env x.1; pure (ForInStep.yield ((x.1, a) :: r)) else pure (ForInStep.yield r)) = (pure cl : Sem _) ∧ (∀ x c, cl.lookup x = some c → env.cells.lookup x = some c) ∧
        (∀ x, (∃ c, cs.lookup x = some c) → ∃ c, cl.lookup x = some c) ∧ ∀ y ∈ l, y.2 = .free → ∃ c, cl.lookup y.1 = some c := by
    intro l
    induction l with
    | nil => intro cs _ h2; exact ⟨cs, rfl, h2, fun _ z => z, fun y hy => nomatch hy⟩
    | cons y l ih =>
      intro cs h1 h2
      obtain ⟨n, k⟩ := y
      by_cases hk : k = .free
      · subst hk
        obtain ⟨c, hc⟩ := h1 (n, .free) List.mem_cons_self rfl
        obtain ⟨cl, e, a, b, d⟩ := ih ((n, c) :: cs) (fun y hy => h1 y (List.mem_cons_of_mem _ hy)) (fun x c' hx => by
          rw [List.lookup_cons] at hx
          split at hx
          · rename_i q
            have : x = n := by simpa using q
            cases hx; subst this; exact hc
          · exact h2 x c' hx)
        refine ⟨cl, ?_, a, fun x ⟨c', hx⟩ => b x ?_, fun y hy hf => ?_⟩
        · rw [List.forIn_cons]
          have e1 : cellOf env n = pure c := by unfold cellOf; rw [hc]
          simp only [beq_self_eq_true, if_true, e1, pure_bind]
          exact e
        · rw [List.lookup_cons]
          split
          · exact ⟨_, rfl⟩
          · exact ⟨c', hx⟩
        · rcases List.mem_cons.mp hy with rfl | hy
          · exact b n ⟨c, by simp [List.lookup_cons]⟩
          · exact d y hy hf
      · obtain ⟨cl, e, a, b, d⟩ := ih cs (fun y hy => h1 y (List.mem_cons_of_mem _ hy)) h2
        refine ⟨cl, ?_, a, b, fun y hy hf => ?_⟩
        · rw [List.forIn_cons]
          have hb : (k == NameKind.free) = false := by simpa using hk
          simp only [hb, Bool.false_eq_true, if_false, pure_bind]
          exact e
        · rcases List.mem_cons.mp hy with rfl | hy
          · exact absurd hf hk
          · exact d y hy hf
  obtain ⟨cl, e, a, _, d⟩ := key sc.names [] h (fun x c hx => by simp at hx)
  refine ⟨cl, ?_, a, d⟩
  unfold closureFor
  simp only [e, pure_bind]
def cxC (X : Cx) (sc : Scope) (cl : List (Str × Addr)) (N' : List Str) (C : Addr) (s : Shared) (H : Hp) (fp : List Addr) : Cx :=
  { X with N := N', s₀ := s, H₀ := H, env := compEnvC sc cl C X.env, outer := X.stack, stack := X.stack, ex := fp, fn := fun _ => false, pn := [], xe := fun _ _ => False }
theorem relab_lookup {outer : Scope} : ∀ {names : List (Str × NameKind)} {x : Str} {k : NameKind},
    (names.map fun (n, k) => if (k == NameKind.free && outer.kind == .function && outer.names.lookup n == some .cell) then (n, NameKind.cell) else (n, k)).lookup x = some k →
      names.lookup x = some k ∨ (names.lookup x = some .free ∧ k = .cell)
  | [], x, k, h => by simp at h
  | (n, k') :: r, x, k, h => by
    rw [List.map_cons] at h
    by_cases hc : (k' == NameKind.free && outer.kind == .function && outer.names.lookup n == some .cell) = true
    · simp only [hc, if_true] at h
      rw [List.lookup_cons] at h ⊢
      cases hx : x == n with
      | true =>
        rw [hx] at h
        simp only [Option.some.injEq] at h
        have hf : k' = .free := by
          have := (Bool.and_eq_true_iff.mp (Bool.and_eq_true_iff.mp hc).1).1
          simpa using this
        exact .inr ⟨by simp [hf], h.symm⟩
      | false => rw [hx] at h; exact relab_lookup h
    · simp only [hc, Bool.false_eq_true, if_false] at h
      rw [List.lookup_cons] at h ⊢
      cases hx : x == n with
      | true => rw [hx] at h; exact .inl (by simpa using h)
      | false => rw [hx] at h; exact relab_lookup h
theorem relab_free {outer : Scope} : ∀ {names : List (Str × NameKind)} {x : Str}, names.lookup x = some .free →
    (names.map fun (n, k) => if (k == NameKind.free && outer.kind == .function && outer.names.lookup n == some .cell) then (n, NameKind.cell) else (n, k)).lookup x = some .cell ∨
    (names.map fun (n, k) => if (k == NameKind.free && outer.kind == .function && outer.names.lookup n == some .cell) then (n, NameKind.cell) else (n, k)).lookup x = some .free
  | [], x, h => by simp at h
  | (n, k') :: r, x, h => by
    rw [List.lookup_cons] at h
    rw [List.map_cons]
    by_cases hc : (k' == NameKind.free && outer.kind == .function && outer.names.lookup n == some .cell) = true
    · simp only [hc, if_true]
      rw [List.lookup_cons]
      cases hx : x == n with
      | true => exact .inl rfl
      | false => rw [hx] at h; exact relab_free h
    · simp only [hc, Bool.false_eq_true, if_false]
      rw [List.lookup_cons]
      cases hx : x == n with
      | true => rw [hx] at h; exact .inr h
      | false => rw [hx] at h; exact relab_free h
theorem lookup_mem' {α : Type} : ∀ {l : List (Str × α)} {x : Str} {k : α}, l.lookup x = some k → (x, k) ∈ l
  | [], _, _, h => by simp at h
  | (n, k') :: r, x, k, h => by
    rw [List.lookup_cons] at h
    cases hx : x == n with
    | true =>
      rw [hx] at h
      have e : x = n := by simpa using hx
      have e2 : k' = k := by simpa using h
      rw [e, e2]; exact List.mem_cons_self
    | false => rw [hx] at h; exact List.mem_cons_of_mem _ (lookup_mem' h)
section
variable {X : Cx} {pins : List (Addr × Obj)} {σ : St} {H : Hp} {s : Shared} {sc : Scope} {own : List Str} {fr : List Nat} {N' : List Str} {cl : List (Str × Addr)}
theorem block_start (I : Inv X pins σ H s) (cs : CompOk sc X.env.scope own X.N fr N') (h1 : ∀ x c, cl.lookup x = some c → X.env.cells.lookup x = some c) (h2 : ∀ y ∈ sc.names, y.2 = .free → ∃ c, cl.lookup y.1 = some c)
    {fp : List Addr} (hf : ∀ b ∈ fp, FpOk X pins H b ∧ ∃ o, s.heap.get? b = some o) {h' : Heap} {t' : Nat} {C D : Addr} {o : Obj} (hC : s.heap.objs.size ≤ C) (hD : s.heap.objs.size ≤ D) (hDC : D ≠ C)
    (k : ∀ b u, s.heap.get? b = some u → h'.get? b = some u) (hn : h'.Ns C fun _ => none) (hDo : h'.get? D = some o) (hd : ∀ v, o.data ≠ .cell v) :
    Inv (cxC X sc cl N' C s H fp) [(D, o)] (cst own.length fr σ) H { s with heap := h', toks := t' } := by
  have lt : ∀ b u, s.heap.get? b = some u → b < s.heap.objs.size := fun b u e => Heap.lt_size e
  have fpC : ∀ b ∈ fp, b ≠ C := fun b hb z => by
    obtain ⟨_, o, e⟩ := hf b hb
    have := lt b o e
    rw [z] at this
    exact absurd (Nat.lt_of_lt_of_le this hC) (Nat.lt_irrefl _)
  have lenN : N'.length = own.length + fr.length := by
    have := congrArg List.length cs.all
    simpa using this
  refine ⟨⟨I.ok.mod, cs.kind, I.ok.glob, I.ok.blt, hC, fun x y c e1 e2 => I.ok.inj x y c (h1 x c e1) (h1 y c e2), fun x hx => ?_, fun x c z => absurd z Bool.false_ne_true, I.ok.hd, I.ok.frames, .inl rfl, fun b hb => ⟨fpC b hb, fun x c e => (hf b hb).1.2.2.2.2.1 x c (h1 x c e)⟩,
      I.bs, Nat.le_trans I.ok.bsz I.sz, fun b o' e hb => ?_, fun b hb z => ?_, I.stack, I.stkFree⟩,
    rfl, I.bare, Un.kept k, ⟨_, hn, fun i x v e1 e2 e3 => ?_⟩, fun x c e => ?_, I.hok.fresh hC, fun x c e => I.freeC x c (h1 x c e), fun p hp => ?_, I.hok.kept k, ?_⟩
  · have hx' : (relab sc X.env.scope).names.lookup x = some .cell ∨ (relab sc X.env.scope).names.lookup x = some .free := hx
    have hfree : sc.names.lookup x = some .free := by
      rcases hx' with z | z
      · rcases relab_lookup z with q | q
        · exact absurd rfl (cs.nocell _ (lookup_mem' q))
        · exact q.1
      · rcases relab_lookup z with q | q
        · exact q
        · exact q.1
    exact h2 (x, .free) (lookup_mem' hfree) rfl
  · have q := (hf b hb).1.2.2.2.1
    rcases q with q | q
    · exact I.ok.noex b o' e q
    · exact absurd (Nat.lt_of_lt_of_le (Heap.lt_size (I.ok.bs b o' e).1) q) (Nat.lt_irrefl _)
  · have z' : b ∈ frs X.stack := z
    rcases List.mem_cons.mp (I.stkSub b z') with q | q
    · exact (hf b hb).1.2.1 q
    · exact (hf b hb).1.2.2.1 q
  · -- a name of the block at its entry is one of the def's
    have hi : own.length ≤ i := by
      by_cases hi : i < own.length
      · have e2' : (cst own.length fr σ)[i]? = some none := by
          unfold cst
          rw [List.getElem?_append_left (by simpa using hi), List.getElem?_replicate, if_pos hi]
        rw [e2'] at e2; cases e2
      · omega
    have e2' : (fr.map fun j => (σ[j]?).join)[i - own.length]? = some (some v) := by
      unfold cst at e2
      rwa [List.getElem?_append_right (by simpa using hi), List.length_replicate] at e2
    rw [List.getElem?_map] at e2'
    have e1a : (N'.map some)[i]? = some (some x) := by
      have e1 : N'[i]? = some x := e1
      rw [List.getElem?_map, e1]; rfl
    rw [cs.all, List.getElem?_append_right (by simpa using hi), List.length_map, List.getElem?_map] at e1a
    cases ej : fr[i - own.length]? with
    | none => rw [ej] at e2'; cases e2'
    | some j =>
      rw [ej] at e2' e1a
      have hj : j ∈ fr := List.mem_of_getElem? ej
      have nj : X.N[j]? = some x := by simpa using e1a
      have sj : σ[j]? = some (some v) := by
        have : (σ[j]?).join = some v := by simpa using e2'
        cases q : σ[j]? with
        | none => rw [q] at this; cases this
        | some y => rw [q] at this; simp at this; rw [this]
      obtain ⟨kf, ko⟩ := cs.frk j hj x nj
      obtain ⟨m, hm, hl⟩ := I.loc
      obtain ⟨u, r, l⟩ := hl j x v nj sj (.inr ko)
      refine ⟨u, r, .inr ?_⟩
      have lk : X.env.kindOf x = some .cell ∨ X.env.kindOf x = some .free := ko
      rcases l with ⟨z, _⟩ | ⟨_, c, ec, ic⟩
      · rcases lk with q | q <;> rw [z] at q <;> cases q
      · obtain ⟨c', hc'⟩ := h2 (x, .free) (lookup_mem' kf) rfl
        have : c' = c := by
          have := h1 x c' hc'
          rw [ec] at this; exact (Option.some.inj this).symm
        subst this
        refine ⟨relab_free kf, c', hc', ?_⟩
        obtain ⟨oc, hoc, hcd⟩ := ic
        exact ⟨oc, k c' oc hoc, hcd⟩
  · obtain ⟨v, oc, hoc, hcd⟩ := I.cell x c (h1 x c e)
    exact ⟨v, oc, k c oc hoc, hcd⟩
  · have hp' : p ∈ [(D, o)] := hp
    have e : p = (D, o) := by simpa using hp'
    subst e
    refine ⟨hDo, I.hok.fresh hD, hDC, fun z => ?_, hd⟩
    have z' : D ∈ frs X.stack := z
    obtain ⟨_, o2, ho2, _⟩ := I.stack.mem z'
    exact absurd (Nat.lt_of_lt_of_le (Heap.lt_size ho2) hD) (Nat.lt_irrefl _)
  · show (cst own.length fr σ).length = N'.length
    unfold cst
    rw [List.length_append, List.length_replicate, List.length_map, lenN]
theorem block_end (I : Inv X pins σ H s) {fp : List Addr} (hf : ∀ b ∈ fp, FpOk X pins H b ∧ ∃ o, s.heap.get? b = some o) {C D : Addr} {its : List Value} {ys : List V} {n : Nat} {σ' : St} {H' : Hp} {s' : Shared}
    (hD : s.heap.objs.size ≤ D) (J : Inv (cxC X sc cl N' C s H fp) [(D, { cls := .type "list", data := .seq its.toArray n })] σ' H' s') (r : Vals ys its) (hz : ys.length ≤ sizeLine) : Inv X pins σ (upd H' D (.lst ys)) s' := by
  obtain ⟨hDo, hDn, hDC, hDf, hDc⟩ := J.pin (D, { cls := .type "list", data := .seq its.toArray n }) (List.mem_append_right _ List.mem_cons_self)
  have u : Un (frs X.stack) fp H H' s.heap s'.heap := J.base
  have os : s'.os = s.os := J.os
  have lt : ∀ b ob, s.heap.get? b = some ob → b ≠ D := fun b ob e z => by
    have := Heap.lt_size e
    rw [z] at this
    exact absurd (Nat.lt_of_lt_of_le this hD) (Nat.lt_irrefl _)
  refine I.call' (ch := fp) os ⟨u.keep, u.slot, fun b ob e n hx => ?_, u.there, fun b xs e => ?_, fun b ob x e => ?_, fun b ps e => ?_⟩ ?_ J.bare (fun b hb => ?_)
  · rw [upd_ne (lt b ob e)]; exact u.free b ob e n hx
  · have := u.tups b xs e
    rw [upd_ne (ne_of_none this hDn)]; exact this
  · have := u.frzs b ob x e
    rw [upd_ne (ne_of_none this hDn)]; exact this
  · obtain ⟨m, q⟩ := u.tbls b ps e
    exact ⟨m, by rw [upd_ne (ne_of_none q hDn)]; exact q⟩
  · intro b ob e
    by_cases hb : b = D
    · subst hb
      rw [upd_same] at e; cases e
      exact ⟨hz, its, n, r, hDo⟩
    · rw [upd_ne hb] at e
      exact (J.hok b ob e).stay (fun c v _ q => q) (fun c q => by rw [upd_ne (ne_of_none q hDn)]; exact q) fun c xs q => by rw [upd_ne (ne_of_none q hDn)]; exact q
  · obtain ⟨_, f1, _, f3, f4, f5⟩ := (hf b hb).1
    exact ⟨f3, f1, f4, f5⟩
end
def PIf (X : Cx) (ifs : List Expr) (t : TT) : Prop :=
  ∀ (pins : List (Addr × Obj)) (s : Shared) (σ : St) (H : Hp) (Q : Bool → Hp → Prop), Inv X pins σ H s → t σ H Q →
    wpAny (model X.prog X.w) X.A (forIn ifs true fun c r => if r = true then do let ok ← isTrue c X.env (eval c X.env); pure (ForInStep.yield ok) else pure (ForInStep.yield r)) (TP X pins σ Q) X.xe s
def tYes : TT := fun _ H Q => Q true H
theorem pif_nil {X : Cx} : PIf X [] tYes := fun _ _ _ H _ I h => wpAny_tests_nil ⟨H, I, h⟩
theorem pif_one {X : Cx} {c : Expr} {t : TT} (h : PT X c t) : PIf X [c] t := fun pins s σ H Q I q => wpAny_tests_one (h pins s σ H Q I q)
structure Comp (J : It) (g : TG) (tt : TT) (te : TE) (Q : List V → Hp → Prop) (σ : St) (H : Hp) : Prop where
  ex : ∃ W : Nat → Nat → List V → St → Hp → Prop, (∃ m, W 0 m [] σ H) ∧ ∀ i m ys σ H, W i m ys σ H → ys.length < sizeLine ∧
    ((J.stop i H ∧ Q ys H) ∨ (J.go i H ∧ ∃ N : List V → St → Hp → Prop, (∀ ys' σ' H', N ys' σ' H' → ∃ m', m' < m ∧ W (i + 1) m' ys' σ' H') ∧
      ∀ x H', J.yld i H x H' → g x σ H' fun σ2 H2 => tt σ2 H2 fun b H3 => if b = true then te σ2 H3 fun y H4 => N (ys ++ [y]) σ2 H4 else N ys σ2 H3))
section
variable {prog : Program} {w : World} {A : Around} {R : Result → Shared → Prop} {s : Shared}
theorem compLoop_own {elt target iter : Expr} {ifs : List Expr} {scope : Scope} {pos : Pos} {it acc : Value} {env : Env} (I : Nat → Shared → Prop)
    (turn : ∀ n s, I n s → wpAny (model prog w) A (pyNext it) (fun r s₁ => match r with
      | none => R (.ok .next) s₁
      | some v => wpAny (model prog w) A (letOwnedTupleGo target it v) (fun _ s₁ => wpAny (model prog w) A (assign target env v) (fun _ s₂ =>
          wpAny (model prog w) A (forIn ifs true fun c r => if r = true then do let ok ← isTrue c env (eval c env); pure (ForInStep.yield ok) else pure (ForInStep.yield r)) (fun ok s₃ =>
            if ok = true then wpAny (model prog w) A (eval elt env) (fun x s₄ =>
              wpAny (model prog w) A (call (.builtin "list.append") [acc, x]) (fun _ s₅ => ∃ m, m < n ∧ I m s₅) (fun _ _ => False) s₄) (fun _ _ => False) s₃
            else ∃ m, m < n ∧ I m s₃) (fun _ _ => False) s₂) (fun _ _ => False) s₁) (fun _ _ => False) s₁) (fun _ _ => False) s)
    (n : Nat) (h : I n s) : codeAny (model prog w) A (.compLoop (.ListComp elt [⟨target, iter, ifs, 0⟩] scope pos) 0 it acc env) R s := by
  refine codeAny_loop rfl I (fun n s hI => ?_) n h
  show wpAny _ A ((compTurn (.ListComp elt [⟨target, iter, ifs, 0⟩] scope pos) 0 it acc env).onRaise (fun x => do noteFrame x env; theTreesLotGoes x)) _ _ s
  refine wpAny_noted (wpAny_noRaise ?_)
  rw [compTurn_list]
  refine wpAny_bind (wpAny_standAt (wpAny_bind (wpAny_mono (turn n s hI) (fun r s₁ h₁ => ?_) fun _ _ h' => h')))
  cases r with
  | none => exact wpAny_pure h₁
  | some v =>
    refine wpAny_bind (wpAny_mono h₁ (fun _ s₁ h₁ => ?_) fun _ _ h' => h')
    refine wpAny_bind (wpAny_mono h₁ (fun _ s₂ h₂ => wpAny_bind (wpAny_mono h₂ (fun ok s₃ h₃ => ?_) fun _ _ h' => h')) fun _ _ h' => h')
    cases ok with
    | false => exact wpAny_pure ⟨rfl, h₃⟩
    | true =>
      exact wpAny_bind (wpAny_bind (wpAny_mono h₃ (fun x s₄ h₄ => wpAny_bind (wpAny_mono h₄ (fun _ s₅ h₅ => wpAny_pure (wpAny_pure ⟨rfl, h₅⟩)) fun _ _ h' => h')) fun _ _ h' => h'))
end
end L2

namespace L2
open PySem PySem.Spec PyProof.Rows
structure TurnX (G : Cx → Prop) (P : Program) (w : World) (K : PySem.W.Frag) (tg : Expr) (J : It) (fp : List Addr) (it : Addr) (tn : Nat → Heap → Prop) : Prop where
  obj : ∀ i h, tn i h → ∀ b ∈ fp, ∃ o, h.get? b = some o ∧ ∀ v, o.data ≠ .cell v
  keep : ∀ i h h', tn i h → (∀ b ∈ fp, ∀ o, h.get? b = some o → h'.get? b = some o) → tn i h'
  item : ∀ (X : Cx), X.prog = P → X.w = w → X.K = K → G X → ∀ (i : Nat) (pins : List (Addr × Obj)) (s : Shared) (σ : St) (H : Hp) (E : Value → Shared → Prop), Inv X pins σ H s → (∀ b ∈ fp, FpOk X pins H b) → tn i s.heap → J.go i H →
    wpAny (model P w) X.A (pyNext (.ref it)) (fun r s1 => ∃ u, r = some u ∧
      wpAny (model P w) X.A (letOwnedTupleGo tg (.ref it) u) (fun _ s2 => ∃ x H', Inv X pins σ H' s2 ∧ RelV x u ∧ J.yld i H x H' ∧ tn (i + 1) s2.heap ∧ ∀ b ∈ fp, H' b = none) E s1) E s
  done : ∀ (X : Cx), X.prog = P → X.w = w → X.K = K → G X → ∀ (i : Nat) (pins : List (Addr × Obj)) (s : Shared) (σ : St) (H : Hp) (E : Value → Shared → Prop), Inv X pins σ H s → (∀ b ∈ fp, FpOk X pins H b) → tn i s.heap → J.stop i H →
    wpAny (model P w) X.A (pyNext (.ref it)) (fun r s1 => r = none ∧ Inv X pins σ H s1) E s
  self : ∀ (A : Around) (i : Nat) (s : Shared) (Q : Value → Shared → Prop) (E : Value → Shared → Prop), tn i s.heap → Q (.ref it) s → wpAny (model P w) A (pyIter (.ref it)) Q E s
theorem Turn.x {P : Program} {w : World} {K : PySem.W.Frag} {tg : Expr} {J : It} {fp : List Addr} {it : Addr} {tn : Nat → Heap → Prop} (T : Turn P w K tg J fp it tn) : TurnX (fun X => X.calm = true) P w K tg J fp it tn := ⟨T.obj, T.keep, T.item, T.done, T.self⟩
section
variable {X : Cx} {sc : Scope} {own : List Str} {fr : List Nat} {N' : List Str} {tg elt iter : Expr} {ifs : List Expr} {g : TG} {tt : TT} {te : TE} {wi : TI} {pos : Pos}
theorem comp_block {G : Cx → Prop} {pins : List (Addr × Obj)} {σ : St} {H : Hp} {s2 : Shared} {it : Addr} {fp : List Addr} {tn : Nat → Heap → Prop} {J : It} {QQ : List V → Hp → Prop} {cl : List (Str × Addr)} {RR : Value → Addr → Result → Shared → Prop} {E : Value → Shared → Prop}
    (I2 : Inv X pins σ H s2) (hc : ∀ cl C s H fp, G (cxC X sc cl N' C s H fp)) (T : TurnX G X.prog X.w X.K tg J fp it tn) (st : tn 0 s2.heap) (f2 : ∀ b ∈ fp, FpOk X pins H b) (cs : CompOk sc X.env.scope own X.N fr N')
    (h1 : ∀ x c, cl.lookup x = some c → X.env.cells.lookup x = some c) (h2 : ∀ y ∈ sc.names, y.2 = .free → ∃ c, cl.lookup y.1 = some c)
    (hg : ∀ cl C s H fp, PG (cxC X sc cl N' C s H fp) tg g) (hif : ∀ cl C s H fp, PIf (cxC X sc cl N' C s H fp) ifs tt) (he : ∀ cl C s H fp, PE (cxC X sc cl N' C s H fp) elt te)
    (KK : Comp J g tt te QQ (cst own.length fr σ) H)
    (hRR : ∀ D C m H' ys s', s2.heap.objs.size ≤ C → s'.heap.Ns C m → H' D = none → (upd H' D (.lst ys)) C = none → QQ ys H' → Inv X pins σ (upd H' D (.lst ys)) s' → RR (.ref D) C (.ok .next) s') :
    wpAny (model X.prog X.w) X.A (newList []) (fun acc s₃ => wpAny (model X.prog X.w) X.A (newFunctionEnv sc X.env.globals cl [] X.env.qual none .none (some X.env)) (fun cenv s₄ =>
      codeAny (model X.prog X.w) X.A (.compStart (.ListComp elt [⟨tg, iter, ifs, 0⟩] sc pos) 0 (.ref it) acc { cenv with scope := relabel sc X.env }) (RR acc cenv.locals) s₄) E s₃) E s2 := by
  refine wpAny_newObj_type (wpAny_newFunctionEnv cs.nocell (by intro y hy; simp at hy) (fun h₁ hns₁ hsb₁ => ?_) cs.kind)
  dsimp only at hns₁ hsb₁ ⊢
  generalize hH2 : s2.heap.push { cls := .type "list", dict := none, data := .seq ([] : List Value).toArray } = H2 at hns₁ hsb₁ ⊢
  have hC : H2.objs.size = s2.heap.objs.size + 1 := by rw [← hH2, Heap.size_push]
  have hDC : s2.heap.objs.size ≠ H2.objs.size := by rw [hC]; exact Nat.ne_of_lt (Nat.lt_succ_self _)
  have hCle : s2.heap.objs.size ≤ H2.objs.size := by rw [hC]; exact Nat.le_succ _
  have below : ∀ b, b < s2.heap.objs.size → b ≠ H2.objs.size ∧ b ≠ s2.heap.objs.size := fun b hb => ⟨by rw [hC]; exact Nat.ne_of_lt (Nat.lt_succ_of_lt hb), Nat.ne_of_lt hb⟩
  have old : ∀ b o, s2.heap.get? b = some o → h₁.get? b = some o := fun b o e => hsb₁.extBut b o (below b (Heap.lt_size e)).1 (Heap.get?_push_of_some _ (hH2 ▸ Heap.get?_push_of_some _ e))
  have hacc : h₁.get? s2.heap.objs.size = some { cls := .type "list", data := .seq ([] : List Value).toArray 0 } := hsb₁.extBut _ _ hDC (Heap.get?_push_of_some _ (hH2 ▸ Heap.get?_push_size _ rfl))
  have fpo : ∀ b ∈ fp, FpOk X pins H b ∧ ∃ o, s2.heap.get? b = some o := fun b hb => ⟨f2 b hb, let ⟨o, e, _⟩ := T.obj 0 _ st b hb; ⟨o, e⟩⟩
  have st1 : tn 0 h₁ := T.keep _ _ _ st fun b hb o e => old b o e
  have hns : h₁.Ns H2.objs.size fun _ => none := by simpa using hns₁
  obtain ⟨W, ⟨m0, w0⟩, turn⟩ := KK.ex
  have loop : ∀ s₃ : Shared, s₃ = { s2 with heap := h₁, toks := s2.toks + ([] : List (Str × Value)).length } →
      codeAny (model X.prog X.w) X.A (.compLoop (.ListComp elt [⟨tg, iter, ifs, 0⟩] sc pos) 0 (.ref it) (.ref s2.heap.objs.size) (compEnvC sc cl H2.objs.size X.env)) (RR (.ref s2.heap.objs.size) H2.objs.size) s₃ := by
    rintro s₃ rfl
    have J0 : Inv (cxC X sc cl N' H2.objs.size s2 H fp) [(s2.heap.objs.size, { cls := .type "list", data := .seq ([] : List Value).toArray 0 })] (cst own.length fr σ) H { s2 with heap := h₁, toks := s2.toks + ([] : List (Str × Value)).length } :=
      block_start I2 cs h1 h2 fpo hCle (Nat.le_refl _) hDC old hns hacc (fun v z => by cases z)
    have stat : ∀ {pl : List (Addr × Obj)} {H' : Hp}, (∀ p ∈ pl, p.1 = s2.heap.objs.size) → (∀ b ∈ fp, H' b = none) → ∀ b ∈ fp, FpOk (cxC X sc cl N' H2.objs.size s2 H fp) pl H' b := fun {pl H'} hpl hn b hb => by
      obtain ⟨f, ob, e⟩ := fpo b hb
      refine ⟨hn b hb, (below b (Heap.lt_size e)).1, fun z => ?_, .inl hb, fun x c ec => f.2.2.2.2.1 x c (h1 x c ec), fun p hp => ?_⟩
      · have z' : b ∈ frs X.stack := z
        rcases List.mem_cons.mp (I2.stkSub b z') with q | q
        · exact f.2.1 q
        · exact f.2.2.1 q
      · have hp' : p ∈ pl := hp
        rw [hpl p hp']
        exact Ne.symm (below b (Heap.lt_size e)).2
    have one : ∀ (o : Obj), ∀ p ∈ [(s2.heap.objs.size, o)], p.1 = s2.heap.objs.size := fun o p hp => by
      have : p = (s2.heap.objs.size, o) := by simpa using hp
      rw [this]
    refine compLoop_own (env := compEnvC sc cl H2.objs.size X.env) (fun n s' => ∃ i ys its k σ' H', Inv (cxC X sc cl N' H2.objs.size s2 H fp) [(s2.heap.objs.size, { cls := .type "list", data := .seq (its : List Value).toArray k })] σ' H' s' ∧ tn i s'.heap ∧ (∀ b ∈ fp, H' b = none) ∧ Vals ys its ∧ W i n ys σ' H')
      ?_ m0 ⟨0, [], [], 0, _, H, J0, st1, fun b hb => (f2 b hb).1, .nil, w0⟩
    rintro n s3 ⟨i, ys, its, k, σ3, H3, I3, st3, fr3, rv, w3⟩
    obtain ⟨hlen, alt⟩ := turn i n ys σ3 H3 w3
    rcases alt with ⟨stop, qn⟩ | ⟨go, N, hN, step⟩
    · refine wpAny_mono (T.done (cxC X sc cl N' H2.objs.size s2 H fp) rfl rfl rfl (hc _ _ _ _ _) i _ s3 σ3 H3 (fun _ _ => False) I3 (stat (one _) fr3) st3 stop) (fun r s4 ⟨hr, I4⟩ => ?_) fun _ _ z => z
      subst hr
      obtain ⟨m, hm, _⟩ := I4.loc
      have hDn : H3 s2.heap.objs.size = none := (I4.pin (s2.heap.objs.size, { cls := .type "list", data := .seq its.toArray k }) (List.mem_append_right _ List.mem_cons_self)).2.1
      exact hRR _ _ m H3 ys s4 hCle hm hDn (by rw [upd_ne (Ne.symm hDC)]; exact I4.free) qn (block_end I2 fpo (Nat.le_refl _) I4 rv (Nat.le_of_lt hlen))
    · refine wpAny_mono (T.item (cxC X sc cl N' H2.objs.size s2 H fp) rfl rfl rfl (hc _ _ _ _ _) i _ s3 σ3 H3 (fun _ _ => False) I3 (stat (one _) fr3) st3 go) (fun r s4 ⟨u, hr, h4⟩ => ?_) fun _ _ z => z
      subst hr
      refine wpAny_mono h4 (fun _ s5 ⟨x, H5, I5, r5, y5, st5, fr5⟩ => ?_) fun _ _ z => z
      have I5' := I5.pinned (stat (one _) fr5) (T.obj _ _ st5)
      refine wpAny_mono (hg cl H2.objs.size s2 H fp _ s5 σ3 H5 x u _ I5' r5 (step x H5 y5)) (fun _ s6 ⟨σ6, H6, I6, q6⟩ => ?_) fun _ _ z => z
      refine wpAny_mono (hif cl H2.objs.size s2 H fp _ s6 σ6 H6 _ I6 q6) (fun b s7 ⟨H7, I7, q7⟩ => ?_) fun _ _ z => z
      have fps : ∀ {σ8 : St} {H8 : Hp} {s8 : Shared}, Inv (cxC X sc cl N' H2.objs.size s2 H fp) ([(s2.heap.objs.size, { cls := .type "list", data := .seq its.toArray k })] ++ pinsAt fp s5.heap) σ8 H8 s8 →
          tn (i + 1) s8.heap ∧ ∀ b ∈ fp, H8 b = none := fun {σ8 H8 s8} I8 => by
        refine ⟨T.keep _ _ _ st5 fun b hb o e => (I8.pin (b, o) (List.mem_append_right _ (List.mem_append_right _ (mem_pinsAt hb e)))).1, fun b hb => ?_⟩
        obtain ⟨o, e, d⟩ := T.obj _ _ st5 b hb
        exact (I8.pin (b, o) (List.mem_append_right _ (List.mem_append_right _ (mem_pinsAt hb e)))).2.1
      cases b with
      | false =>
        obtain ⟨m', hm, w7⟩ := hN ys σ6 H7 q7
        exact ⟨m', hm, i + 1, ys, its, k, σ6, H7, I7.unpinned, (fps I7).1, (fps I7).2, rv, w7⟩
      | true =>
        have q7' : te σ6 H7 fun y H4 => N (ys ++ [y]) σ6 H4 := q7
        refine wpAny_mono (he cl H2.objs.size s2 H fp _ s7 σ6 H7 _ I7 q7') (fun uy s8 ⟨y, H8, I8, r8, n8⟩ => ?_) fun _ _ z => z
        obtain ⟨m', hm, w8⟩ := hN _ _ _ n8
        obtain ⟨hDo, hDn, hDL, hDf, _⟩ := I8.pin (s2.heap.objs.size, { cls := .type "list", data := .seq its.toArray k }) (List.mem_append_right _ (List.mem_append_left _ List.mem_cons_self))
        have hys : its.toArray.size ≤ sizeLine := by rw [List.size_toArray, ← rv.length]; exact Nat.le_of_lt hlen
        refine wpAny_list_append_plain (hsz := hys) (⟨k, hDo⟩ : s8.heap.PlainList s2.heap.objs.size its.toArray) fun h9 ⟨k', hl9⟩ hs9 => ?_
        have hDp : ∀ p ∈ (cxC X sc cl N' H2.objs.size s2 H fp).pn ++ pinsAt fp s5.heap, p.1 ≠ s2.heap.objs.size := fun p hp => by
          have hp' : p ∈ pinsAt fp s5.heap := by
            have hp2 : p ∈ ([] : List (Addr × Obj)) ++ pinsAt fp s5.heap := hp
            simpa using hp2
          obtain ⟨hb, _⟩ := of_pinsAt hp'
          obtain ⟨_, ob, e⟩ := fpo p.1 hb
          exact (below p.1 (Heap.lt_size e)).2
        have I8' : Inv (cxC X sc cl N' H2.objs.size s2 H fp) (pinsAt fp s5.heap) σ6 H8 s8 := I8.pins_of fun p hp => I8.pin p (List.mem_append_right _ (List.mem_append_right _ hp))
        have I9 : Inv (cxC X sc cl N' H2.objs.size s2 H fp) (pinsAt fp s5.heap) σ6 H8 { s8 with heap := h9 } := I8'.turned (t' := s8.toks) (it := s2.heap.objs.size) (fun b o hb e => (hs9.2 b hb).trans e) hDn hDL (.inr (Nat.le_refl _))
          (fun x c e z => by
            obtain ⟨v, q⟩ := I2.cell x c (h1 x c e)
            have := q.lt
            rw [z] at this
            exact absurd this (Nat.lt_irrefl _)) hDp
        have key := fps I8
        refine ⟨m', hm, i + 1, ys ++ [y], its ++ [uy], k', σ6, H8, I9.pins_of fun p hp => ?_, T.keep _ _ _ key.1 fun b hb o e => ?_, key.2, rv.append (.cons r8 .nil), w8⟩
        · have e : p = (s2.heap.objs.size, { cls := .type "list", data := .seq (its ++ [uy]).toArray k' }) := by simpa using hp
          subst e
          refine ⟨?_, hDn, hDL, hDf, fun v z => by cases z⟩
          have : (its ++ [uy]).toArray = its.toArray.push uy := by simp
          rw [this]; exact hl9
        · obtain ⟨_, ob, e2⟩ := fpo b hb
          exact (hs9.2 b (below b (Heap.lt_size e2)).2).trans e
  exact codeAny_compStart_list (loop _ rfl) (wpAny_mono (T.self X.A 0 _ (fun it' s' => it' = .ref it ∧ s' = { s2 with heap := h₁, toks := s2.toks + ([] : List (Str × Value)).length }) _ st1 ⟨rfl, rfl⟩) (fun it' s' ⟨e1, e2⟩ => by subst e1 e2; exact loop _ rfl) fun _ _ z => z)
def tComp (n : Nat) (fr : List Nat) (wi : TI) (g : TG) (tt : TT) (te : TE) : TE := fun σ H Q => wi σ H fun J H1 => Comp J g tt te (fun ys H2 => ∀ D, H2 D = none → Q (.ref D) (upd H2 D (.lst ys))) (cst n fr σ) H1
theorem pe_comp (hc : X.calm = true) (cs : CompOk sc X.env.scope own X.N fr N') (hi : PI X tg iter wi) (hg : ∀ cl C s H fp, PG (cxC X sc cl N' C s H fp) tg g) (hif : ∀ cl C s H fp, PIf (cxC X sc cl N' C s H fp) ifs tt)
    (he : ∀ cl C s H fp, PE (cxC X sc cl N' C s H fp) elt te) (hs : ∀ x, foldedSetIterable iter X.env x = pure x := by intro _; rfl) : PE X (.ListComp elt [⟨tg, iter, ifs, 0⟩] sc pos) (tComp own.length fr wi g tt te) := by
  intro pins s σ H Q I h
  obtain ⟨cl, ecl, h1, h2⟩ := closure_has (env := X.env) (sc := sc) fun y hy hf => I.ok.has y.1 (cs.fre y hy hf)
  rw [eval_ListComp]
  refine wpAny_comprehension_free (use := none) rfl hs ecl cs.kind cs.loc (thn (hi pins s σ H _ I h) fun v s1 q1 => thn q1 fun itv s2 q2 => ?_)
  obtain ⟨it, fp, tn, J, H2, rfl, I2, T, st, f2, KK⟩ := q2
  refine comp_block (RR := fun acc C => compPost (model X.prog X.w) X.A X.xe none (EP X pins σ Q) acc C) I2 (fun _ _ _ _ _ => hc) T.x st f2 cs h1 h2 hg hif he KK fun D C m H' ys s' hC hn hD hCn hq I' => ?_
  refine ⟨m, hn, fun h' hs' => ⟨.ref D, upd H' D (.lst ys), ?_, rfl, hq D hD⟩⟩
  obtain ⟨f0, f1, f2, f3, f4, f5⟩ := I2.fpOk hC hCn
  exact I'.turned (t' := s'.toks) (it := C) (fun b o hb e => (hs'.2 b hb).trans e) f0 (Ne.symm (Ne.symm f1)) f3 f4 f5
def tSetC (i n : Nat) (fr : List Nat) (wi : TI) (g : TG) (tt : TT) (te : TE) : TS := fun D σ H => wi σ H fun J H1 => Comp J g tt te (fun ys H2 => ∀ p, H2 p = none → D.nx (σ.set i (some (.ref p))) (upd H2 p (.lst ys))) (cst n fr σ) H1
theorem ps_setC {i : Nat} {y : Str} {py spos : Pos} (hN : X.N.Nodup) (hy : X.N[i]? = some y) (hx : Loc X.env.scope y) (hc : X.calm = true) (cs : CompOk sc X.env.scope own X.N fr N') (hi : PI X tg iter wi)
    (hg : ∀ cl C s H fp, PG (cxC X sc cl N' C s H fp) tg g) (hif : ∀ cl C s H fp, PIf (cxC X sc cl N' C s H fp) ifs tt) (he : ∀ cl C s H fp, PE (cxC X sc cl N' C s H fp) elt te)
    (hsw : swapsWith (.ListComp elt [⟨tg, iter, ifs, 0⟩] sc pos) (some (.Name y py)) spos.line X.env = pure true) (hfn : X.fn y = true ∨ X.env.scope.names.lookup y = some .local := by first | exact .inl rfl | exact .inr rfl | assumption) (hs : ∀ x, foldedSetIterable iter X.env x = pure x := by intro _; rfl) :
    PS X (.Assign [.Name y py] (.ListComp elt [⟨tg, iter, ifs, 0⟩] sc pos) spos) (tSetC i own.length fr wi g tt te) := by
  intro pins s σ H D I h
  obtain ⟨cl, ecl, h1, h2⟩ := closure_has (env := X.env) (sc := sc) fun y hy hf => I.ok.has y.1 (cs.fre y hy hf)
  rw [exec_Assign_Name_used _ _ _ _ hsw]
  refine wpAny_bind (wpAny_standAt (wpAny_bind ?_))
  show wpAny _ X.A (do let _ ← comprehension (.ListComp elt [⟨tg, iter, ifs, 0⟩] sc pos) sc X.env _ (newList []) false (eval iter X.env) (some (assign (.Name y py) X.env))) _ _ s
  refine wpAny_bind (wpAny_mono (wpAny_comprehension_free (use := some (assign (.Name y py) X.env)) (Q := fun _ s' => ∃ σ' H', Inv X pins σ' H' s' ∧ D.nx σ' H') rfl hs ecl cs.kind cs.loc (thn (hi pins s σ H _ I h) fun v s1 q1 => thn q1 fun itv s2 q2 => ?_))
    (fun _ s' hq => wpAny_pure (wpAny_pure hq)) fun _ _ e => e)
  obtain ⟨it, fp, tn, J, H2, rfl, I2, T, st, f2, KK⟩ := q2
  refine comp_block (RR := fun acc C => compPost (model X.prog X.w) X.A X.xe (some (assign (.Name y py) X.env)) (fun _ s' => ∃ σ' H', Inv X pins σ' H' s' ∧ D.nx σ' H') acc C) I2 (fun _ _ _ _ _ => hc) T.x st f2 cs h1 h2 hg hif he KK fun p C m H' ys s' hC hn hD hCn hq I' => ?_
  obtain ⟨f0, f1, f2, f3, f4, f5⟩ := I2.fpOk hC hCn
  show wpAny _ X.A (assign (.Name y py) X.env (.ref p)) _ _ _
  refine wpAny_assign_Name (store_ok2 (v := .ref p) I' hN hy hx rfl (fun s'' I'' ⟨a, hsa, ha⟩ => ?_) hfn)
  have hCa : C ≠ a := by
    rcases ha with z | z
    · rw [z]; exact f1
    · exact Ne.symm (f4 y a z)
  refine ⟨m, hn.sameBut hsa hCa, fun h' hs' => ⟨_, _, ?_, hq p hD⟩⟩
  exact I''.turned (t' := s''.toks) (it := C) (fun b o hb e => (hs'.2 b hb).trans e) f0 f1 f3 f4 f5
end
theorem comp_by {J : It} {g : TG} {tt : TT} {te : TE} {Q : List V → Hp → Prop} {σ : St} {H : Hp} (n : Nat) (Pv : Nat → List V → St → Hp → Prop) (h0 : Pv 0 [] σ H) (hl : ∀ i ys σ H, i ≤ n → Pv i ys σ H → ys.length < sizeLine)
    (go : ∀ i ys σ H, i < n → Pv i ys σ H → J.go i H) (stop : ∀ ys σ H, Pv n ys σ H → J.stop n H)
    (turn : ∀ i ys σ H, i < n → Pv i ys σ H → ∀ x H', J.yld i H x H' → g x σ H' fun σ2 H2 => tt σ2 H2 fun b H3 => if b = true then te σ2 H3 fun y H4 => Pv (i + 1) (ys ++ [y]) σ2 H4 else Pv (i + 1) ys σ2 H3)
    (after : ∀ ys σ H, Pv n ys σ H → Q ys H) : Comp J g tt te Q σ H := by
  refine ⟨fun i m ys σ H => i ≤ n ∧ m = n - i ∧ Pv i ys σ H, ⟨n, Nat.zero_le _, rfl, h0⟩, fun i m ys σ H ⟨hi, hm, p⟩ => ⟨hl i ys σ H hi p, ?_⟩⟩
  rcases Nat.lt_or_ge i n with h | h
  · exact .inr ⟨go i ys σ H h p, Pv (i + 1), fun ys' σ' H' q => ⟨n - (i + 1), by omega, h, rfl, q⟩, turn i ys σ H h p⟩
  · have e : i = n := Nat.le_antisymm hi h
    subst e
    exact .inl ⟨stop ys σ H p, after ys σ H p⟩
theorem comp_range {lo : Int} {n : Nat} {g : TG} {tt : TT} {te : TE} {Q : List V → Hp → Prop} {σ : St} {H : Hp} (Pv : Nat → List V → St → Hp → Prop) (hn : n < sizeLine) (h0 : Pv 0 [] σ H) (hl : ∀ i ys σ H, i ≤ n → Pv i ys σ H → ys.length ≤ i)
    (turn : ∀ i ys σ H, i < n → Pv i ys σ H → g (.int (lo + i)) σ H fun σ2 H2 => tt σ2 H2 fun b H3 => if b = true then te σ2 H3 fun y H4 => Pv (i + 1) (ys ++ [y]) σ2 H4 else Pv (i + 1) ys σ2 H3)
    (after : ∀ ys σ H, Pv n ys σ H → Q ys H) : Comp (Itr lo n) g tt te Q σ H :=
  comp_by n Pv h0 (fun i ys σ H hi p => Nat.lt_of_le_of_lt (Nat.le_trans (hl i ys σ H hi p) hi) hn) (fun i _ _ _ hi _ => hi) (fun _ _ _ _ => Nat.le_refl _) (fun i ys σ H hi p x H' y => by obtain ⟨rfl, rfl⟩ := y; exact turn i ys σ _ hi p) after
theorem comp_list {K : PySem.W.Frag} {a : Addr} (xs : List V) {g : TG} {tt : TT} {te : TE} {Q : List V → Hp → Prop} {σ : St} {H : Hp} (Pv : Nat → List V → St → Hp → Prop) (hn : xs.length < sizeLine) (h0 : Pv 0 [] σ H) (hl : ∀ i ys σ H, i ≤ xs.length → Pv i ys σ H → ys.length ≤ i ∧ SqL K H a xs)
    (turn : ∀ i ys σ H x, xs[i]? = some x → Pv i ys σ H → g x σ H fun σ2 H2 => tt σ2 H2 fun b H3 => if b = true then te σ2 H3 fun y H4 => Pv (i + 1) (ys ++ [y]) σ2 H4 else Pv (i + 1) ys σ2 H3)
    (after : ∀ ys σ H, Pv xs.length ys σ H → Q ys H) : Comp (Itl K a) g tt te Q σ H :=
  comp_by xs.length Pv h0 (fun i ys σ H hi p => Nat.lt_of_le_of_lt (Nat.le_trans (hl i ys σ H hi p).1 hi) hn) (fun i ys σ H hi p => ⟨xs, xs[i], (hl i ys σ H (Nat.le_of_lt hi) p).2, List.getElem?_eq_getElem hi⟩)
    (fun ys σ H p => ⟨xs, (hl _ ys σ H (Nat.le_refl _) p).2, Nat.le_refl _⟩) (fun i ys σ H hi p x H' y => by obtain ⟨rfl, y⟩ := y; exact turn i ys σ _ x (y xs (hl i ys σ _ (Nat.le_of_lt hi) p).2) p) after
theorem comp_tup {K : PySem.W.Frag} {a : Addr} (xs : List V) {g : TG} {tt : TT} {te : TE} {Q : List V → Hp → Prop} {σ : St} {H : Hp} (Pv : Nat → List V → St → Hp → Prop) (hn : xs.length < sizeLine) (h0 : Pv 0 [] σ H) (hl : ∀ i ys σ H, i ≤ xs.length → Pv i ys σ H → ys.length ≤ i ∧ SqT K H a xs)
    (turn : ∀ i ys σ H x, xs[i]? = some x → Pv i ys σ H → g x σ H fun σ2 H2 => tt σ2 H2 fun b H3 => if b = true then te σ2 H3 fun y H4 => Pv (i + 1) (ys ++ [y]) σ2 H4 else Pv (i + 1) ys σ2 H3)
    (after : ∀ ys σ H, Pv xs.length ys σ H → Q ys H) : Comp (Itt K a) g tt te Q σ H :=
  comp_by xs.length Pv h0 (fun i ys σ H hi p => Nat.lt_of_le_of_lt (Nat.le_trans (hl i ys σ H hi p).1 hi) hn) (fun i ys σ H hi p => ⟨xs, xs[i], (hl i ys σ H (Nat.le_of_lt hi) p).2, List.getElem?_eq_getElem hi⟩)
    (fun ys σ H p => ⟨xs, (hl _ ys σ H (Nat.le_refl _) p).2, Nat.le_refl _⟩) (fun i ys σ H hi p x H' y => by obtain ⟨rfl, y⟩ := y; exact turn i ys σ _ x (y xs (hl i ys σ _ (Nat.le_of_lt hi) p).2) p) after
end L2

namespace L2
open PySem PySem.Spec PyProof.Rows
open AutoSeq1 (wpAny_loadPart') in
set_option maxHeartbeats 4000000 in
theorem meets_enumS_new (k : SK) (l : Addr) (xs : Array Value) :
    Meets (Builtin.«enumerate.__new__» ⟨[.type "enumerate", .ref l], []⟩) (fun _ R s => SIs k s.heap l xs ∧
      R (.ok (.ret (.ref (s.heap.push (itObj k l)).objs.size))) { s with heap := (s.heap.push (itObj k l)).push { cls := .type "enumerate", data := .fields #[.none, .bool false, .ref s.heap.objs.size, rawInt 0, .none, .none] } }) := by
  cases k with
  | list =>
    exact .of_wp fun prog w A R s h => by
      obtain ⟨hp, g, d, tk, os⟩ := s; obtain ⟨hL, h⟩ := h
      have hsub := sub_enumerate
      have hL : Heap.IsList (Shared.heap ⟨hp, g, d, tk, os⟩) l xs := hL
      obtain ⟨ol, hl, hlc, nl, hld⟩ := id hL
      wp_walk using wpAny_loadPart' hl
      refine wpAny_stack_any fun st => wpAny_pure ?_
      split
      · rename_i c _ _ _ _ _
        cases (c == Value.type "enumerate")
        · wp_walk using wpAny_loadPart' hl, wpAny_pyIter_list hL
          exact ⟨_, rfl, h⟩
        · wp_walk using wpAny_loadPart' hl, wpAny_pyIter_list hL
          exact ⟨_, rfl, h⟩
      · wp_walk using wpAny_loadPart' hl, wpAny_pyIter_list hL
        exact ⟨_, rfl, h⟩
  | tuple =>
    exact .of_wp fun prog w A R s h => by
      obtain ⟨hp, g, d, tk, os⟩ := s; obtain ⟨hL, h⟩ := h
      have hsub := sub_enumerate
      have hL : Heap.IsTuple (Shared.heap ⟨hp, g, d, tk, os⟩) l xs := hL
      obtain ⟨ol, hl, hlc, nl, hld⟩ := id hL
      wp_walk using wpAny_loadPart' hl
      refine wpAny_stack_any fun st => wpAny_pure ?_
      split
      · rename_i c _ _ _ _ _
        cases (c == Value.type "enumerate")
        · wp_walk using wpAny_loadPart' hl, wpAny_pyIter_tuple hL
          exact ⟨_, rfl, h⟩
        · wp_walk using wpAny_loadPart' hl, wpAny_pyIter_tuple hL
          exact ⟨_, rfl, h⟩
      · wp_walk using wpAny_loadPart' hl, wpAny_pyIter_tuple hL
        exact ⟨_, rfl, h⟩
section
variable {prog : Program} {w : World} {A : Around} {E : Value → Shared → Prop} {s : Shared}
theorem call_enumS {k : SK} {l : Addr} {xs : Array Value} {Q : Value → Shared → Prop} (hL : SIs k s.heap l xs)
    (h : ∀ h', IsEnum h' (s.heap.objs.size + 1) s.heap.objs.size 0 .none → SIt k h' s.heap.objs.size l 0 → (∀ b o, s.heap.get? b = some o → h'.get? b = some o) → Q (.ref (s.heap.objs.size + 1)) { s with heap := h' }) :
    wpAny (model prog w) A (call (.type "enumerate") [.ref l]) Q E s := by
  refine callType_new F.called_enumerate (by decide) (F.typeCall_enumerate_1 _) (F.newCall_enumerate_1 _) (fun obj => F.args_object_init_2 obj _) F.entry_enumerate_new (meets_enumS_new k l xs) ⟨hL, ?_⟩
  have hz : (s.heap.push (itObj k l)).objs.size = s.heap.objs.size + 1 := Heap.size_push ..
  have r1 : (itObj k l).isFreed = false := by cases k <;> rfl
  have he := Heap.get?_push_size (s.heap.push (itObj k l)) (o := { cls := .type "enumerate", data := .fields #[.none, .bool false, .ref s.heap.objs.size, rawInt 0, .none, .none] }) rfl
  rw [hz] at he
  show _ ∧ _
  rw [hz]
  exact ⟨⟨_, he, rfl⟩, h _ he (itObj_it (Heap.get?_push_of_some _ (Heap.get?_push_size _ r1))) fun b o x => Heap.get?_push_of_some _ (Heap.get?_push_of_some _ x)⟩
theorem enumS_item {k : SK} {e it l : Addr} {i : Nat} {items : Array Value} {x old : Value} {Q : Value → Shared → Prop}
    (he : IsEnum s.heap e it i old) (hit : SIt k s.heap it l i) (hl : SIs k s.heap l items) (hx : items[i]? = some x) (hne : e ≠ it)
    (hQ : ∀ h', IsEnumOut h' e it ((i : Int) + 1) x s.heap.objs.size → SIt k h' it l (i + 1) →
      h'.get? s.heap.objs.size = some { cls := .type "tuple", data := .seq #[.int i s.toks, x] } → h'.objs.size = s.heap.objs.size + 1 →
      (∀ b o, b ≠ e → b ≠ it → s.heap.get? b = some o → h'.get? b = some o) → Q (.ref s.heap.objs.size) { s with heap := h', toks := s.toks + 1 }) :
    wpAny (model prog w) A (Builtin.«enumerate.__next__» ⟨[.ref e], []⟩) (fun fin s' => ∃ v, fin = .done (.ret v) ∧ Q v s') E s := by
  obtain ⟨hp, g, d, tk, os⟩ := s
  show wpAny _ _ (field (.ref e) 2 >>= _) _ _ _
  refine wpAny_bind (wpAny_field he rfl (x := .ref it) rfl ?_)
  refine wpAny_bind (nextOf_item hit hl hx fun h₁ hit₁ hs₁ => ?_)
  replace hs₁ : Heap.SameBut it hp h₁ := hs₁
  have he₁ : IsEnum h₁ e it i old := (hs₁.2 e hne).trans he
  show wpAny _ _ (field (.ref e) 3 >>= _) _ _ ⟨h₁, g, d, tk, os⟩
  refine wpAny_bind (wpAny_field he₁ rfl (x := rawInt i) rfl ?_)
  show wpAny _ _ (field (.ref e) 4 >>= _) _ _ ⟨h₁, g, d, tk, os⟩
  refine wpAny_bind (wpAny_field he₁ rfl (x := .none) rfl ?_)
  show wpAny _ _ (mkInt i >>= _) _ _ ⟨h₁, g, d, tk, os⟩
  refine wpAny_bind (wpAny_mkInt ?_)
  show wpAny _ _ (setField (.ref e) 3 (rawInt ((i : Int) + 1)) >>= _) _ _ ⟨h₁, g, d, tk + 1, os⟩
  refine wpAny_bind (wpAny_setField_rec he₁ (by simp) fun h₂ he₂ hs₂ => ?_)
  replace hs₂ : Heap.SameBut e h₁ h₂ := hs₂
  replace he₂ : IsEnum h₂ e it ((i : Int) + 1) old := he₂
  show wpAny _ _ (setField (.ref e) 4 .none >>= _) _ _ ⟨h₂, g, d, tk + 1, os⟩
  refine wpAny_bind (wpAny_setField_rec he₂ (by simp) fun h₃ he₃ hs₃ => ?_)
  replace hs₃ : Heap.SameBut e h₂ h₃ := hs₃
  replace he₃ : IsEnum h₃ e it ((i : Int) + 1) old := he₃
  show wpAny _ _ (newTuple [.int i tk, x] >>= _) _ _ ⟨h₃, g, d, tk + 1, os⟩
  refine wpAny_bind (wpAny_newTuple ?_)
  have he₄ : IsEnum (h₃.push { cls := .type "tuple", data := .seq #[.int i tk, x] }) e it ((i : Int) + 1) old := Heap.get?_push_of_some _ he₃
  generalize hh₄ : h₃.push { cls := .type "tuple", data := .seq #[.int i tk, x] } = h₄ at he₄
  have hsz : h₃.objs.size = hp.objs.size := by rw [hs₃.1, hs₂.1, hs₁.1]
  have hel : e < hp.objs.size := Heap.lt_size he
  have ht₄ : h₄.get? hp.objs.size = some { cls := .type "tuple", data := .seq #[.int i tk, x] } := by rw [← hh₄, ← hsz]; exact Heap.get?_push_size _ rfl
  have hz₄ : h₄.objs.size = hp.objs.size + 1 := by rw [← hh₄, Heap.size_push, hsz]
  have hk₄ : ∀ b o, b ≠ e → b ≠ it → hp.get? b = some o → h₄.get? b = some o := fun b o hbe hbi hb => by
    rw [← hh₄]; exact Heap.get?_push_of_some _ (hs₃.extBut b o hbe (hs₂.extBut b o hbe (hs₁.extBut b o hbi hb)))
  have hit₄ : SIt k h₄ it l (i + 1) := by
    rw [← hh₄]; exact ((hit₁.ext hs₂.extBut (Ne.symm hne)).ext hs₃.extBut (Ne.symm hne)).at fun o ho => Heap.get?_push_of_some _ ho
  show wpAny _ _ (Builtin.SmallTypes.ownedTupleIsFree (.ref e) >>= _) _ _ ⟨h₄, g, d, tk + 1, os⟩
  rw [hsz]
  clear hh₄ he₃ hs₃ he₂ hs₂ he₁ hs₁ hit₁ hsz h₃ h₂ h₁
  refine wpAny_bind ?_
  · unfold Builtin.SmallTypes.ownedTupleIsFree
    refine wpAny_bind (wpAny_field he₄ rfl (x := .none) rfl (wpAny_pure ?_))
    simp only [if_true]
    refine wpAny_bind (wpAny_rule ?_)
    refine wpAny_bind (wpAny_field he₄ rfl (x := old) rfl ?_)
    refine wpAny_bind (wpAny_setField_rec he₄ (by simp) fun h₅ he₅ hs₅ => ?_)
    replace hs₅ : Heap.SameBut e h₄ h₅ := hs₅
    replace he₅ : IsEnum h₅ e it ((i : Int) + 1) x := he₅
    show wpAny _ _ (Builtin.SmallTypes.ownedTupleHandOut (.ref e) (.ref hp.objs.size) >>= _) _ _ ⟨h₅, g, d, tk + 1, os⟩
    refine wpAny_bind ?_
    · unfold Builtin.SmallTypes.ownedTupleHandOut
      refine wpAny_bind (wpAny_setField_rec he₅ (by simp) fun h₆ he₆ hs₆ => ?_)
      replace hs₆ : Heap.SameBut e h₅ h₆ := hs₆
      replace he₆ : IsEnumOut h₆ e it ((i : Int) + 1) x hp.objs.size := he₆
      refine wpAny_setField_rec he₆ (by simp) fun h₇ he₇ hs₇ => ?_
      replace hs₇ : Heap.SameBut e h₆ h₇ := hs₇
      replace he₇ : IsEnumOut h₇ e it ((i : Int) + 1) x hp.objs.size := he₇
      refine wpAny_bind (wpAny_letGo (wpAny_pure ⟨_, rfl, hQ h₇ he₇ ?_ ?_ ?_ ?_⟩))
      · exact ((hit₄.ext hs₅.extBut (Ne.symm hne)).ext hs₆.extBut (Ne.symm hne)).ext hs₇.extBut (Ne.symm hne)
      · exact hs₇.extBut _ _ (Nat.ne_of_gt hel) (hs₆.extBut _ _ (Nat.ne_of_gt hel) (hs₅.extBut _ _ (Nat.ne_of_gt hel) ht₄))
      · rw [hs₇.1, hs₆.1, hs₅.1, hz₄]
      · exact fun b o hbe hbi hb => hs₇.extBut b o hbe (hs₆.extBut b o hbe (hs₅.extBut b o hbe (hk₄ b o hbe hbi hb)))
theorem pyNext_enumS_item {k : SK} {e it l : Addr} {i : Nat} {items : Array Value} {x old : Value} {Q : Option Value → Shared → Prop}
    (he : IsEnum s.heap e it i old) (hit : SIt k s.heap it l i) (hl : SIs k s.heap l items) (hx : items[i]? = some x) (hne : e ≠ it)
    (hQ : ∀ h', IsEnumOut h' e it ((i : Int) + 1) x s.heap.objs.size → SIt k h' it l (i + 1) →
      h'.get? s.heap.objs.size = some { cls := .type "tuple", data := .seq #[.int i s.toks, x] } → h'.objs.size = s.heap.objs.size + 1 →
      (∀ b o, b ≠ e → b ≠ it → s.heap.get? b = some o → h'.get? b = some o) → Q (some (.ref s.heap.objs.size)) { s with heap := h', toks := s.toks + 1 }) :
    wpAny (model prog w) A (pyNext (.ref e)) Q E s := by
  have hT : s.TypeIs (.ref e) "enumerate" := ⟨_, he, rfl⟩
  unfold pyNext
  exact wpAny_bind (wpAny_attempt (wpAny_callSpecial?_slot (name := Str.ofString "__next__") hT F.slot_enumerate_next
    (wpAny_call_entry F.slot_enumerate_next hT F.entry_enumerate_next
      (enumS_item he hit hl hx hne fun h' a b c d k => wpAny_pure (hQ h' a b c d k)) (F.args_enumerate_next_1 _))))
theorem pyNext_enumS_end {k : SK} {e it l : Addr} {i : Nat} {items : Array Value} {old : Value} {Q : Option Value → Shared → Prop} (hh : A.handled = none)
    (he : IsEnum s.heap e it i old) (hit : SIt k s.heap it l i) (hl : SIs k s.heap l items) (hx : items[i]? = none)
    (hQ : ∀ h', Heap.ExtBut it s.heap h' → Q none { s with heap := h' }) : wpAny (model prog w) A (pyNext (.ref e)) Q E s := by
  have hT : s.TypeIs (.ref e) "enumerate" := ⟨_, he, rfl⟩
  unfold pyNext
  refine wpAny_bind (wpAny_attempt (wpAny_callSpecial?_slot (name := Str.ofString "__next__") hT F.slot_enumerate_next
    (wpAny_call_entry F.slot_enumerate_next hT F.entry_enumerate_next ?_ (F.args_enumerate_next_1 _))))
  show wpAny _ _ (field (.ref e) 2 >>= _) _ _ _
  refine wpAny_bind (wpAny_field he rfl (x := .ref it) rfl ?_)
  refine wpAny_bind (nextOf_end hh hit hl hx fun h' x he' hx' => ?_)
  obtain ⟨o, ho, hc⟩ := hx'
  refine wpAny_bind (wpAny_isInstance (T := "StopIteration") (b := true) ⟨o, ho, hc⟩ isSubtype_stop ?_)
  exact wpAny_pure (hQ _ he')
end
def Itn (K : PySem.W.Frag) (k : SK) (a : Addr) : It :=
  ⟨fun i H => ∃ xs x, Sq k K H a xs ∧ xs[i]? = some x,
   fun i H v H' => ∃ T, H T = none ∧ v = .ref T ∧ ∀ xs, Sq k K H a xs → ∃ x, xs[i]? = some x ∧ H' = upd H T (.tup [.int i, x]),
   fun i H => ∃ xs, Sq k K H a xs ∧ xs.length ≤ i⟩
theorem turn_enum {P : Program} {w : World} {K : PySem.W.Frag} {elts : List Expr} {kk : Nat} {tpos : Pos} {k : SK} {e it a : Addr} (hne : e ≠ it) :
    Turn P w K (.Tuple elts kk tpos) (Itn K k a) [e, it] e (fun i h => (∃ old, IsEnum h e it i old) ∧ SIt k h it a i) where
  mem := by simp
  obj := fun i h st b hb => by
    obtain ⟨⟨old, he⟩, h1⟩ := st
    simp only [List.mem_cons, List.not_mem_nil, or_false] at hb
    rcases hb with rfl | rfl
    · exact ⟨_, he, fun v q => nomatch q⟩
    · exact h1.obj
  keep := fun i h h' st k => by
    obtain ⟨⟨old, he⟩, h1⟩ := st
    exact ⟨⟨old, k _ (by simp) _ he⟩, h1.at fun o e => k _ (by simp) o e⟩
  item := by
    intro X hP hw hK hc i pins s σ H E I hf st hg
    subst hP hw hK
    obtain ⟨⟨old, he⟩, h1⟩ := st
    obtain ⟨xs, x, q1, hx⟩ := hg
    obtain ⟨ix, rx, px⟩ := I.sis q1
    obtain ⟨u, hu, ru⟩ := rx.get hx
    refine pyNext_enumS_item he h1 px (x := u) (by simpa using hu) hne fun h' a1 a2 a3 a4 a5 => ?_
    refine ⟨_, rfl, wpAny_letOwnedTupleGo_enum (s := { s with heap := h', toks := s.toks + 1 }) a1 fun h'' b1 b2 => ?_⟩
    have elt : e < s.heap.objs.size := Heap.lt_size he
    have ilt : it < s.heap.objs.size := by obtain ⟨o, ho, _⟩ := h1.obj; exact Heap.lt_size ho
    have k2 : ∀ c o, c ∉ [e, it] → s.heap.get? c = some o → h''.get? c = some o := fun c o hc ec => by
      simp only [List.mem_cons, List.not_mem_nil, or_false, not_or] at hc
      exact b2.extBut _ _ hc.1 (a5 c o hc.1 hc.2 ec)
    have hT2 : h''.get? s.heap.objs.size = some { cls := .type "tuple", data := .seq #[.int i s.toks, u] } := b2.extBut _ _ (Nat.ne_of_gt elt) a3
    refine ⟨.ref s.heap.objs.size, upd H s.heap.objs.size (.tup [.int i, x]), I.turnedNew (t' := s.toks + 1) (o := .tup [.int i, x]) k2 hf (Nat.le_refl _)
      ⟨by show 2 ≤ sizeLine; decide, [.int i s.toks, u], .cons ⟨_, rfl⟩ (.cons ru .nil), ⟨_, hT2, rfl, _, rfl⟩⟩, rfl,
      ⟨_, I.hok.fresh (Nat.le_refl _), rfl, fun xs' e1 => ?_⟩, ⟨⟨u, by simpa using b1⟩, a2.at fun o eo => b2.extBut _ _ (Ne.symm hne) eo⟩, fun b hb => ?_⟩
    · rw [I.sq_inj e1 q1]
      exact ⟨x, hx, rfl⟩
    · have blt : b < s.heap.objs.size := by
        simp only [List.mem_cons, List.not_mem_nil, or_false] at hb
        rcases hb with rfl | rfl
        · exact elt
        · exact ilt
      rw [upd_ne (Nat.ne_of_lt blt)]
      exact (hf b hb).1
  done := by
    intro X hP hw hK hc i pins s σ H E I hf st hg
    subst hP hw hK
    obtain ⟨⟨old, he⟩, h1⟩ := st
    obtain ⟨xs, q1, hl⟩ := hg
    obtain ⟨ix, rx, px⟩ := I.sis q1
    have l1 := rx.length
    refine pyNext_enumS_end (I.ok.hd hc) he h1 px (by simp; omega) fun h' hk => ⟨rfl, I.turnedL (t' := s.toks) (its := [e, it]) (fun b o hb eb => ?_) hf⟩
    simp only [List.mem_cons, List.not_mem_nil, or_false, not_or] at hb
    exact hk b o hb.2 eb
  self := fun _ _ _ _ _ st h => by
    obtain ⟨⟨old, he⟩, _⟩ := st
    exact wpAny_pyIter_enum he h
section
variable {X : Cx} {elts : List Expr} {kk : Nat} {tpos : Pos}
def iEnum (K : PySem.W.Frag) (k : SK) (ta : TA) : TI := fun σ H R => ta σ H fun vs H1 => ∃ a, vs = [.ref a] ∧ (∃ xs, Sq k K H1 a xs) ∧ R (Itn K k a) H1
theorem pi_enum (k : SK) {a : Expr} {ta : TA} {p pos : Pos} (hg : Gl X "enumerate") (hm : X.mg "enumerate" = none) (ha : PA X [a] ta) (hs : starEach [a] X.env = [(false, eval a X.env)] := by rfl) :
    PI X (.Tuple elts kk tpos) (.Call (.Name "enumerate" p) [a] [] pos) (iEnum X.K k ta) := by
  intro pins s σ H R I h
  refine Call_ (ld_blt I hg hm PyProof.Rows.Boot.«enumerate» (PyProof.Rows.callWith_type1 (thn (ha pos pins s σ H _ I h) fun us s1 ⟨vs, H1, I1, r1, q1⟩ => ?_) hs rfl))
  obtain ⟨a', e, ⟨xs, qx⟩, q⟩ := q1
  subst e
  cases r1 with
  | cons r rr =>
    cases rr
    cases r
    obtain ⟨ix, rx, px⟩ := I1.sis qx
    refine call_enumS px fun h' b1 b2 b3 => wpAny_pyIter_enum (s := { s1 with heap := h' }) b1 ?_
    have nn : ∀ b, s1.heap.objs.size ≤ b → FpOk X pins H1 b := fun b hb => I1.fpOk hb (I1.hok.fresh hb)
    refine ⟨_, [s1.heap.objs.size + 1, s1.heap.objs.size], _, _, H1, rfl, I1.kept (t' := s1.toks) b3, turn_enum (k := k) (Nat.ne_of_gt (Nat.lt_succ_self _)), ⟨⟨_, b1⟩, b2⟩, fun b hb => ?_, q⟩
    simp only [List.mem_cons, List.not_mem_nil, or_false] at hb
    rcases hb with rfl | rfl
    · exact nn _ (Nat.le_succ _)
    · exact nn _ (Nat.le_refl _)
end
theorem comp_enum {K : PySem.W.Frag} {k : SK} {a : Addr} (xs : List V) {g : TG} {tt : TT} {te : TE} {Q : List V → Hp → Prop} {σ : St} {H : Hp} (Pv : Nat → List V → St → Hp → Prop) (hn : xs.length < sizeLine) (h0 : Pv 0 [] σ H) (hl : ∀ i ys σ H, i ≤ xs.length → Pv i ys σ H → ys.length ≤ i ∧ Sq k K H a xs)
    (turn : ∀ i ys σ H x T, xs[i]? = some x → Pv i ys σ H → H T = none → g (.ref T) σ (upd H T (.tup [.int i, x])) fun σ2 H2 => tt σ2 H2 fun b H3 => if b = true then te σ2 H3 fun y H4 => Pv (i + 1) (ys ++ [y]) σ2 H4 else Pv (i + 1) ys σ2 H3)
    (after : ∀ ys σ H, Pv xs.length ys σ H → Q ys H) : Comp (Itn K k a) g tt te Q σ H :=
  comp_by xs.length Pv h0 (fun i ys σ H hi p => Nat.lt_of_le_of_lt (Nat.le_trans (hl i ys σ H hi p).1 hi) hn) (fun i ys σ H hi p => ⟨xs, xs[i], (hl i ys σ H (Nat.le_of_lt hi) p).2, List.getElem?_eq_getElem hi⟩)
    (fun ys σ H p => ⟨xs, (hl _ ys σ H (Nat.le_refl _) p).2, Nat.le_refl _⟩) (fun i ys σ H hi p x H' y => by
      obtain ⟨T, hT, rfl, y⟩ := y
      obtain ⟨u, e1, rfl⟩ := y xs (hl i ys σ _ (Nat.le_of_lt hi) p).2
      exact turn i ys σ _ u T e1 p hT) after
theorem comp_zip {K : PySem.W.Frag} {k1 k2 : SK} {a b : Addr} (xs zs : List V) {g : TG} {tt : TT} {te : TE} {Q : List V → Hp → Prop} {σ : St} {H : Hp} (Pv : Nat → List V → St → Hp → Prop) (hn : xs.length < sizeLine) (hz : xs.length = zs.length) (h0 : Pv 0 [] σ H) (hl : ∀ i ys σ H, i ≤ xs.length → Pv i ys σ H → ys.length ≤ i ∧ Sq k1 K H a xs ∧ Sq k2 K H b zs)
    (turn : ∀ i ys σ H x z T, xs[i]? = some x → zs[i]? = some z → Pv i ys σ H → H T = none → g (.ref T) σ (upd H T (.tup [x, z])) fun σ2 H2 => tt σ2 H2 fun b H3 => if b = true then te σ2 H3 fun y H4 => Pv (i + 1) (ys ++ [y]) σ2 H4 else Pv (i + 1) ys σ2 H3)
    (after : ∀ ys σ H, Pv xs.length ys σ H → Q ys H) : Comp (Itz K k1 k2 a b) g tt te Q σ H :=
  comp_by xs.length Pv h0 (fun i ys σ H hi p => Nat.lt_of_le_of_lt (Nat.le_trans (hl i ys σ H hi p).1 hi) hn)
    (fun i ys σ H hi p => ⟨xs, zs, xs[i], zs[i]'(hz ▸ hi), (hl i ys σ H (Nat.le_of_lt hi) p).2.1, (hl i ys σ H (Nat.le_of_lt hi) p).2.2, List.getElem?_eq_getElem hi, List.getElem?_eq_getElem (hz ▸ hi)⟩)
    (fun ys σ H p => ⟨xs, zs, (hl _ ys σ H (Nat.le_refl _) p).2.1, (hl _ ys σ H (Nat.le_refl _) p).2.2, .inl (Nat.le_refl _)⟩) (fun i ys σ H hi p x H' y => by
      obtain ⟨T, hT, rfl, y⟩ := y
      obtain ⟨u, v, e1, e2, rfl⟩ := y xs zs (hl i ys σ _ (Nat.le_of_lt hi) p).2.1 (hl i ys σ _ (Nat.le_of_lt hi) p).2.2
      exact turn i ys σ _ u v T e1 e2 p hT) after
end L2

namespace L2
open PySem PySem.Spec PyProof.Rows
theorem list_getattr_none : typeLookup (.type "list") "__getattr__" = pure none := by rw [typeLookup_type, builtinLookup_eq_fast]; kernel_rfl
theorem list_keys_none : typeLookup (.type "list") "keys" = pure none := by rw [typeLookup_type, builtinLookup_eq_fast]; kernel_rfl
set_option maxHeartbeats 4000000 in
theorem meets_miss_list (a : Addr) (its : Array Value) (n : Nat) (name : Str) (u : Tok) (hmiss : typeLookup (.type "list") name = pure none) (hns : [Str.ofString "__module__", Str.ofString "__name__", Str.ofString "__qualname__", Str.ofString "__doc__", Str.ofString "__annotations__"].contains name = false) (hsz : name.length + 100 ≤ sizeLine := by size_fits) :
    Meets (Builtin.«object.__getattribute__» ⟨[.ref a, .str name u], []⟩) (fun A R s => s.heap.get? a = some { cls := .type "list", data := .seq its n } ∧ raisesAttr (.ref a) name A R s) :=
  Meets.of_wp fun prog w A R s hs => by
    obtain ⟨hp, g, d, tk, os⟩ := s
    obtain ⟨ha, hs⟩ := hs
    have hT : (⟨hp, g, d, tk, os⟩ : Shared).TypeIs (.ref a) "list" := ⟨_, ha, rfl⟩
    unfold Builtin.«object.__getattribute__»
    repeat (any_goals (first | assumption | wp_step))
    rw [if_neg (by rw [hns]; exact Bool.false_ne_true)]
    repeat (any_goals (first | assumption | wp_step))
    exact wpAny_raiseAttrError hs.1 hs.2 (attrMsg_fits (by decide +kernel) hsz)
section
variable {prog : Program} {w : World} {A : Around} {E : Value → Shared → Prop} {s : Shared}
set_option maxHeartbeats 4000000 in
theorem attr_miss_list {a : Addr} {its : Array Value} {n : Nat} {name : Str} {Q : Option Value → Shared → Prop} (hmiss : typeLookup (.type "list") name = pure none) (hns : [Str.ofString "__module__", Str.ofString "__name__", Str.ofString "__qualname__", Str.ofString "__doc__", Str.ofString "__annotations__"].contains name = false) (hA : A.handled = none) (ha : s.heap.get? a = some { cls := .type "list", data := .seq its n })
    (h : ∀ h' tk, (∀ b o, s.heap.get? b = some o → h'.get? b = some o) → Q none { s with heap := h', toks := tk }) (hsz : name.length + 100 ≤ sizeLine := by size_fits) :
    wpAny (model prog w) A (getAttr? (.ref a) name) Q E s := by
  obtain ⟨hp, g, d, tk, os⟩ := s
  have hT : ∀ t', (⟨hp, g, d, t', os⟩ : Shared).TypeIs (.ref a) "list" := fun _ => ⟨_, ha, rfl⟩
  have f1 := sub_AttributeError
  have f3 := F.slot_list_getattribute.lookup
  have f4 := F.slot_list_getattribute.bind (.ref a)
  have f5 := list_getattr_none
  unfold getAttr? getAttrBy? getAttrBy
  repeat (any_goals (first | assumption | exact hT _ | ((with_reducible show wpAny _ _ (call (Value.builtin "list.__getattribute__") _ _) _ _ _); refine call_meets F.slot_list_getattribute (hT _) F.entry_list_ga (F.args_list_getattribute_2 _ _) (meets_miss_list a its n name _ hmiss hns hsz) ⟨ha, hA, fun h' tk' e hx => ?_⟩) | wp_step))
  obtain ⟨t', u', he⟩ := hx.there
  show wpAny _ _ (getattributeRaised _ _ _ _ _ _ _) _ _ _
  unfold getattributeRaised
  repeat (any_goals (first | assumption | wp_step))
  exact h _ _ fun b o hb => hx.keeps b o hb
end
theorem entry_dul : entryFor table "dict.update.loop" = some Builtin.«dict.update.loop» := entryFor_of_tree (by kernel_rfl)
theorem plain_dul : plainId "dict.update.loop" = true := by decide +kernel
section
variable {prog : Program} {w : World} {K : Type} [DecidableEq K] {knd : KeyKind prog w K} {A : Around} {R : Result → Shared → Prop}
theorem dict_loop {d I l : Addr} {items : Array Value} {ps : List (K × Value)} (hh : A.handled = none) (hdI : d ≠ I) (hld : l ≠ d) (hlI : l ≠ I) (hn : items.size = ps.length) (hsz : ps.length ≤ sizeLine) :
    ∀ (k i : Nat) (s : Shared) (acc : List (K × Value)), ps.length - i = k → i ≤ ps.length → acc.length ≤ i → s.heap.IsListIter I l i → s.heap.IsList l items → s.heap.DictOf knd d acc →
    (∀ (j : Nat) (kv : K × Value), ps[j]? = some kv → ∃ (t : Addr) (key : Value), items[j]? = some (Value.ref t) ∧ s.heap.IsTuple t #[key, kv.2] ∧ knd.is kv.1 key = true ∧ t ≠ d ∧ t ≠ I) →
    (∀ h' tk, h'.DictOf knd d (merged acc (ps.drop i)) → (∀ b o, b ≠ d → b ≠ I → s.heap.get? b = some o → h'.get? b = some o) → R (.ok (.ret .none)) { s with heap := h', toks := tk }) →
    codeAny (model prog w) A (.builtin "dict.update.loop" ⟨[.ref d, .ref I, rawInt i, .none], []⟩) R s := by
  intro k
  induction k with
  | zero =>
    intro i s acc hk hi hacc hit hl hd hp hR
    refine codeAny_builtin entry_dul ?_
    rw [Around.under_plainId plain_dul _]
    show wpAny _ A.in1 (pyNext (.ref I) >>= _) _ _ s
    refine wpAny_bind (wpAny_pyNext_list_end (A := A.in1) hh hit hl (by simp; omega) fun h₁ he₁ => ?_)
    show wpAny _ _ (Builtin.Dict.addKeywords d [] >>= _) _ _ _
    refine wpAny_bind (wpAny_pure (wpAny_pure ?_))
    have := hR h₁ s.toks (by rw [List.drop_of_length_le (by omega)]; exact hd.extBut he₁ hdI) (fun b o hb hbI e => he₁ b o hbI e)
    exact this
  | succ k ih =>
    intro i s acc hk hi hacc hit hl hd hp hR
    have hlt : i < ps.length := by omega
    obtain ⟨t, key, hx, ht, hkey, htd, htI⟩ := hp i ps[i] (List.getElem?_eq_getElem hlt)
    refine codeAny_builtin entry_dul ?_
    rw [Around.under_plainId plain_dul _]
    show wpAny _ A.in1 (pyNext (.ref I) >>= _) _ _ s
    refine wpAny_bind (wpAny_pyNext_list_item hit hl hx fun h₁ hit₁ hs₁ => ?_)
    have ht₁ : h₁.IsTuple t #[key, ps[i].2] := let ⟨o, ho, r⟩ := ht; ⟨o, (hs₁.2 t htI).trans ho, r⟩
    have hd₁ : h₁.DictOf knd d acc := hd.sameBut hs₁ hdI
    refine wpAny_bind (wpAny_holding ?_)
    obtain ⟨ot, hot, hotc, nt, hotd⟩ := id ht₁
    refine wpAny_bind (wpAny_tryCatch ?_)
    unfold Builtin.Dict.pairItems
    refine wpAny_bind (wpAny_typeOf (T := "tuple") (⟨ot, hot, hotc⟩ : Shared.TypeIs _ (.ref t) "tuple") ?_)
    rw [if_pos (by decide)]
    refine wpAny_bind (wpAny_seqItems hot hotd (wpAny_pure ?_))
    show wpAny _ _ (holding [key, ps[i].2] (dictSet d key ps[i].2)) _ _ _
    refine wpAny_holding (wpAny_dictSet_pairs (hsz := by omega) hkey hd₁ fun h₂ hd₂ hs₂ => wpAny_pure ?_)
    refine ⟨plainId_quiet plain_dul _, ?_⟩
    have up : ∀ b o, b ≠ d → b ≠ I → s.heap.get? b = some o → h₂.get? b = some o := fun b o hb hbI e => (hs₂.2 b hb).trans ((hs₁.2 b hbI).trans e)
    have e1 : (i : Int) + 1 = ((i + 1 : Nat) : Int) := by omega
    have := ih (i + 1) { s with heap := h₂, toks := s.toks + 1 } (stored acc ps[i].1 ps[i].2) (by omega) hlt (Nat.le_trans (stored_length_le ..) (by omega)) (hit₁.extBut hs₂.extBut (Ne.symm hdI))
      (let ⟨o, ho, r⟩ := hl; ⟨o, up l o hld hlI ho, r⟩) hd₂ (fun j kv hj => by
        obtain ⟨t', key', a1, ⟨o, ho, r⟩, a3, a4, a5⟩ := hp j kv hj
        exact ⟨t', key', a1, ⟨o, up t' o a4 a5 ho, r⟩, a3, a4, a5⟩) (fun h' tk hm hk' => by
        have := hR h' tk (by
          rw [List.drop_eq_getElem_cons hlt]
          exact hm) fun b o hb hbI e => hk' b o hb hbI (up b o hb hbI e)
        exact this)
    rw [← e1] at this
    exact this
end
section
variable {prog : Program} {w : World} {K : Type} [DecidableEq K] {knd : KeyKind prog w K} {A : Around} {E : Value → Shared → Prop} {s : Shared}
theorem call_dict_pairs {l : Addr} {items : List Value} {n : Nat} {ps : List (K × Value)} {Q : Value → Shared → Prop} (hh : A.handled = none) (hl : s.heap.get? l = some { cls := .type "list", data := .seq items.toArray n })
    (hn : items.length = ps.length) (hsz : ps.length ≤ sizeLine) (hp : ∀ (j : Nat) (kv : K × Value), ps[j]? = some kv → ∃ (t : Addr) (key : Value), items[j]? = some (Value.ref t) ∧ s.heap.IsTuple t #[key, kv.2] ∧ knd.is kv.1 key = true)
    (h : ∀ h' tk, h'.DictOf knd s.heap.objs.size (merged [] ps) → (∀ b o, s.heap.get? b = some o → h'.get? b = some o) → Q (.ref s.heap.objs.size) { s with heap := h', toks := tk }) :
    wpAny (model prog w) A (call (.type "dict") [.ref l]) Q E s := by
  refine callType_codes (Q₁ := fun obj s₁ => obj = .ref s.heap.objs.size ∧ s₁ = { s with heap := s.heap.push { cls := .type "dict", data := .dict #[] } }) F.kt_called_dict (F.kt_typeCall_dict_1 _) F.entry_dict_init (kt_code_dict_new _ ⟨rfl, rfl⟩) ?_
  rintro obj s₁ ⟨rfl, rfl⟩
  have hnew : (s.heap.push { cls := .type "dict", data := .dict #[] }).DictOf knd s.heap.objs.size [] := Heap.DictOf.new s.heap
  have hl' : (s.heap.push { cls := .type "dict", data := .dict #[] }).get? l = some { cls := .type "list", data := .seq items.toArray n } := Heap.get?_push_of_some _ hl
  refine ⟨hnew.typeIs, F.args_dict_init_2 _ _, ?_⟩
  unfold Builtin.«dict.__init__»
  refine wpAny_bind ?_
  unfold Builtin.Dict.selfAndRest
  refine wpAny_bind (wpAny_notOrdered_dict hnew.typeIs ?_)
  show wpAny _ _ (pure (s.heap.objs.size, [Value.ref l])) _ _ _
  refine wpAny_pure ?_
  show wpAny _ _ (Builtin.Dict.updateFrom "dict.__init__" s.heap.objs.size (.ref l) [] .none) _ _ _
  unfold Builtin.Dict.updateFrom
  refine wpAny_bind (wpAny_typeOf (T := "list") (⟨_, hl', rfl⟩ : Shared.TypeIs _ (.ref l) "list") ?_)
  rw [if_pos (by decide)]
  refine wpAny_bind (attr_miss_list (name := "keys") list_keys_none (by decide +kernel) ?_ hl' fun h₁ tk₁ k₁ => ?_)
  · first | exact hh | (show A.in1.handled = none; exact hh)
  rw [if_pos (show (none : Option Value).isNone = true from rfl)]
  refine wpAny_bind (wpAny_rule ?_)
  have hl₁ : h₁.IsList l items.toArray := ⟨_, k₁ _ _ hl', rfl, n, rfl⟩
  refine wpAny_bind (wpAny_pyIter_list (s := { s with heap := h₁, toks := tk₁ }) hl₁ ?_)
  have szd : s.heap.objs.size < h₁.objs.size := by
    obtain ⟨o, _, _, ho, _⟩ := hnew
    exact Heap.lt_size (k₁ _ _ ho)
  have lsz : l < s.heap.objs.size := Heap.lt_size hl
  have old : ∀ b o, s.heap.get? b = some o → (h₁.push { cls := .type "list_iterator", data := .fields #[.ref l, .int 0 0] }).get? b = some o := fun b o e => Heap.get?_push_of_some _ (k₁ b o (Heap.get?_push_of_some _ e))
  refine wpAny_pure ⟨plainId_quiet plain_dul _, ?_⟩
  refine dict_loop (knd := knd) (d := s.heap.objs.size) (I := h₁.objs.size) (l := l) (items := items.toArray) (ps := ps) (A := A.in1) hh (Nat.ne_of_lt szd) (Nat.ne_of_lt lsz) (Nat.ne_of_lt (Nat.lt_trans lsz szd)) (by simpa using hn) hsz ps.length 0 _ [] rfl (Nat.zero_le _) (Nat.le_refl _)
    ⟨_, Heap.get?_push_size _ rfl, rfl, rfl⟩ ⟨_, Heap.get?_push_of_some _ (k₁ _ _ hl'), rfl, n, rfl⟩ (let ⟨o, es, ep, ho, r⟩ := hnew; ⟨o, es, ep, Heap.get?_push_of_some _ (k₁ _ _ ho), r⟩) (fun j kv hj => ?_) (fun h' tk hm hk => ?_)
  · obtain ⟨t, key, a1, ⟨o, ho, r⟩, a3⟩ := hp j kv hj
    have tlt := Heap.lt_size ho
    exact ⟨t, key, by simpa using a1, ⟨o, old t o ho, r⟩, a3, Nat.ne_of_lt tlt, Nat.ne_of_lt (Nat.lt_trans tlt szd)⟩
  · exact ⟨rfl, h h' tk hm fun b o e => hk b o (Nat.ne_of_lt (Heap.lt_size e)) (Nat.ne_of_lt (Nat.lt_trans (Heap.lt_size e) szd)) (old b o e)⟩
end
end L2

namespace L2
open PySem PySem.Spec PyProof.Rows
abbrev IsZipK (h : Heap) (z TI TO : Addr) (T : Addr) (f1 : Bool) : Prop :=
  h.get? z = some { cls := .type "zip", dict := none, data := .fields #[rawInt T, .bool f1, .bool false, .ref TI, .ref TO], slots := #[] }
section
variable {prog : Program} {w : World} {A : Around} {E : Value → Shared → Prop} {s : Shared}
end
def PairsAt (h : Heap) (us : List Value) (xs ys : List Value) : Prop := us.length ≤ xs.length ∧ us.length ≤ ys.length ∧ ∀ (j : Nat) (u : Value), us[j]? = some u → ∃ (t : Addr) (x y : Value), u = .ref t ∧ xs[j]? = some x ∧ ys[j]? = some y ∧ IsPair h t x y
section
variable {prog : Program} {w : World} {A : Around} {R : Result → Shared → Prop}
end
section
variable {prog : Program} {w : World} {A : Around} {E : Value → Shared → Prop} {s : Shared}
end
end L2

namespace L2
open PySem PySem.Spec PyProof.Rows
section
variable {X : Cx} {pins : List (Addr × Obj)} {σ : List (Option V)} {H H' : Hp} {s : Shared} {h' : Heap}
end
theorem ObjOk.has {P : Program} {w : World} {H : Hp} {h : Heap} {a : Addr} : ∀ {o : HO}, ObjOk P w H h a o → ∃ ob, h.get? a = some ob
  | .lst _, ⟨_, _, _, _, e⟩ => ⟨_, e⟩
  | .tup _, ⟨_, _, _, o, e, _⟩ => ⟨o, e⟩
  | .dK _, ⟨_, _, _, _, o, _, _, e, _⟩ => ⟨o, e⟩
  | .dT _, ⟨_, _, _, _, o, _, _, e, _⟩ => ⟨o, e⟩
  | .set _ _, ⟨o, _, _, _, e, _⟩ => ⟨o, e⟩
  | .ins _ _ _, ⟨_, _, _, e, _⟩ => ⟨_, e⟩
  | .own _, x => x
  | .xd _, ⟨_, ⟨o, _, _, e, _⟩, _⟩ => ⟨o, e⟩
  | .rng _ _, ⟨_, _, _, e⟩ => ⟨_, e⟩
  | .frz _ _, ⟨e, _⟩ => ⟨_, e⟩
  | .tbl _, e => ⟨_, e⟩
  | .met _ _, e => ⟨_, e⟩
  | .ext _, ⟨_, e, _⟩ => e
theorem HOk.has {P : Program} {w : World} {H : Hp} {h : Heap} {a : Addr} {o : HO} (x : HOk P w H h) (e : H a = some o) : ∃ ob, h.get? a = some ob := (x a o e).has
section
variable {X : Cx}
def tLZ (K : PySem.W.Frag) (k1 k2 : SK) (ta : TA) : TE := fun σ H Q => ta σ H fun vs H1 => ∃ a b xs ys, vs = [.ref a, .ref b] ∧ Sq k1 K H1 a xs ∧ Sq k2 K H1 b ys ∧ xs.length = ys.length ∧ xs.length ≤ sizeLine ∧
  ∀ (p : Addr) (ts : List Addr) (H' : Hp), Ch [] H1 H' → H1 p = none → H' p = some (.lst (ts.map V.ref)) → ts.length = xs.length →
    (∀ (i : Nat) (t : Addr) (x y : V), ts[i]? = some t → xs[i]? = some x → ys[i]? = some y → H' t = some (.tup [x, y])) → Q (.ref p) H'
def adr : Value → Addr
  | .ref a => a
  | _ => 0
theorem key_of_kV {P : Program} {w : World} {k : Key} {u : Value} (r : RelV (kV k) u) : (mixKind P w).is k u = true := kV_is r
theorem call_dictP (hc : X.calm = true) : CallR X (.type "dict") (fun xs H Q => ∃ (p : Addr) (ts : List Addr) (kvs : List (Key × V)), xs = [.ref p] ∧ H p = some (.lst (ts.map V.ref)) ∧ ts.length = kvs.length ∧
    (∀ (i : Nat) (t : Addr) (kv : Key × V), ts[i]? = some t → kvs[i]? = some kv → H t = some (.tup [kV kv.1, kv.2])) ∧ (kvs.map (·.1)).Nodup ∧ kvs.length ≤ sizeLine ∧ ∀ d, H d = none → Q (.ref d) (upd H d (.dK kvs))) := by
  intro pins s σ H xs us Q I r h
  obtain ⟨p, ts, kvs, rfl, hp, hlen, hts, hnd, hz, q⟩ := h
  obtain ⟨u, rfl, ru⟩ := vals1 r
  cases ru
  obtain ⟨z, its, n, rv, e⟩ := I.hok p _ hp
  have each : ∀ (i : Nat) (kv : Key × V), kvs[i]? = some kv → ∃ (t : Addr) (ku vu : Value), its[i]? = some (.ref t) ∧ s.heap.IsTuple t #[ku, vu] ∧ RelV (kV kv.1) ku ∧ RelV kv.2 vu := by
    intro i kv ei
    have hi : i < ts.length := by rw [hlen]; exact (List.getElem?_eq_some_iff.mp ei).1
    have et : ts[i]? = some ts[i] := List.getElem?_eq_getElem hi
    obtain ⟨u, eu, ru⟩ := rv.get (i := i) (x := .ref ts[i]) (by rw [List.getElem?_map, et]; rfl)
    cases ru
    obtain ⟨_, us, r2, o, ho, hoc, no, hod⟩ := I.hok _ _ (hts i ts[i] kv et ei)
    obtain ⟨ku, vu, rfl, rk, rvv⟩ := vals2 r2
    exact ⟨ts[i], ku, vu, eu, ⟨o, ho, hoc, no, hod⟩, rk, rvv⟩
  have mk : ∀ (l : List (Key × V)) (m : Nat), (∀ (i : Nat) (kv : Key × V), l[i]? = some kv → kvs[m + i]? = some kv) → ∃ ps : List (Key × Value), KV l ps ∧
      ∀ (i : Nat) (kv : Key × Value), ps[i]? = some kv → ∃ (t : Addr) (key : Value), its[m + i]? = some (.ref t) ∧ s.heap.IsTuple t #[key, kv.2] ∧ (mixKind X.prog X.w).is kv.1 key = true := by
    intro l
    induction l with
    | nil => intro m _; exact ⟨[], .nil, fun i kv e => by simp at e⟩
    | cons kv l ih =>
      intro m hm
      obtain ⟨t, ku, vu, e1, e2, e3, e4⟩ := each m kv (by simpa using hm 0 kv rfl)
      obtain ⟨ps, h1, h2⟩ := ih (m + 1) fun i kv' e => by
        have := hm (i + 1) kv' (by simpa using e)
        rw [show m + 1 + i = m + (i + 1) by omega]; exact this
      refine ⟨(kv.1, vu) :: ps, .cons ⟨rfl, e4⟩ h1, fun i kv' e => ?_⟩
      cases i with
      | zero =>
        simp at e
        subst e
        exact ⟨t, ku, by simpa using e1, e2, key_of_kV e3⟩
      | succ i =>
        obtain ⟨t', key, f1, f2, f3⟩ := h2 i kv' (by simpa using e)
        exact ⟨t', key, by rw [show m + (i + 1) = m + 1 + i by omega]; exact f1, f2, f3⟩
  obtain ⟨ps, kv, hps⟩ := mk kvs 0 fun i kv e => by simpa using e
  have lps : kvs.length = ps.length := Paired.length kv
  have keys : ps.map (·.1) = kvs.map (·.1) := by
    clear hps mk each hts hnd hz q lps hlen
    unfold KV at kv
    induction kv with
    | nil => rfl
    | cons a _ ih => rw [List.map_cons, List.map_cons, ih, a.1]
  refine call_dict_pairs (knd := mixKind X.prog X.w) (ps := ps) (I.ok.hd hc) e (by rw [← rv.length]; simp; omega) (by omega) (fun j kv' ej => by
    have := hps j kv' ej
    simpa using this) fun h' tk hd hk => ?_
  rw [merged_nil_of_nodup ps (by rw [keys]; exact hnd)] at hd
  have hf : H s.heap.objs.size = none := I.hok.fresh (Nat.le_refl _)
  refine ⟨.ref s.heap.objs.size, upd H s.heap.objs.size (.dK kvs), I.laid (t' := tk) hk (Nat.le_refl _) ?_, rfl, q _ hf⟩
  exact ⟨hz, beq_eq_false_iff_ne.mpr (Ne.symm (Nat.ne_of_lt I.big)), ps, kv, hd⟩
theorem bools_truth {prog : Program} {w : World} {A : Around} {bs : List Bool} : TruthOf prog w A (fun i v => (bs.map fun b => Value.bool b).toArray[i]? = some v) (fun i => bs.getD i false) := by
  intro i v s Q E hP hQ
  have hP' : (bs.map fun b => Value.bool b)[i]? = some v := by simpa using hP
  rw [List.getElem?_map] at hP'
  cases e : bs[i]? with
  | none => rw [e] at hP'; cases hP'
  | some b =>
    rw [e] at hP'
    cases hP'
    have : bs.getD i false = b := by rw [List.getD_eq_getElem?_getD, e]; rfl
    have hQ : Q (bs.getD i false) s := hQ
    rw [this] at hQ
    exact wpAny_pure hQ
theorem range_all (bs : List Bool) : ((List.range bs.length).all fun i => bs.getD i false) = bs.all id := by
  rw [Bool.eq_iff_iff, List.all_eq_true, List.all_eq_true]
  constructor
  · intro h b hb
    obtain ⟨i, hi, rfl⟩ := List.mem_iff_getElem.mp hb
    have := h i (List.mem_range.mpr hi)
    rw [List.getD_eq_getElem?_getD, List.getElem?_eq_getElem hi] at this
    exact this
  · intro h i hi
    have hi := List.mem_range.mp hi
    rw [List.getD_eq_getElem?_getD, List.getElem?_eq_getElem hi]
    exact h _ (List.getElem_mem hi)
theorem vals_bools : ∀ {bs : List Bool} {its : List Value}, Vals (bs.map V.bl) its → its = bs.map fun b => Value.bool b
  | [], _, .nil => rfl
  | b :: bs, _, .cons r t => by rw [List.map_cons, vals_bools t]; cases r; rfl
theorem call_all (hc : X.calm = true) : CallR X (.builtin "all") (fun xs H Q => ∃ (p : Addr) (bs : List Bool), xs = [.ref p] ∧ H p = some (.lst (bs.map V.bl)) ∧ Q (.bl (bs.all id)) H) := by
  intro pins s σ H xs us Q I r h
  obtain ⟨p, bs, rfl, hp, q⟩ := h
  obtain ⟨u, rfl, ru⟩ := vals1 r
  cases ru
  obtain ⟨z, its, n, rv, e⟩ := I.hok p _ hp
  have ei := vals_bools rv
  subst ei
  have hl : s.heap.IsList p (bs.map fun b => Value.bool b).toArray := ⟨_, e, rfl, n, rfl⟩
  refine call_all_walk (wpAny_pyIter_list hl ?_)
  have hne : p ≠ s.heap.objs.size := Nat.ne_of_lt (Heap.lt_size e)
  refine ⟨s.heap.objs.size, _, _, _, _, _, _, rfl, Walks.list (by first | exact I.ok.hd hc | (show X.A.in1.handled = none; exact I.ok.hd hc)) s.heap.objs.size p hne (bs.map fun b => Value.bool b).toArray,
    ⟨⟨_, Heap.get?_push_size _ rfl, rfl, rfl⟩, ⟨_, Heap.get?_push_of_some _ e, rfl, n, rfl⟩⟩, bools_truth, fun h' tk hk => ?_⟩
  have sz : (bs.map fun b => Value.bool b).toArray.size = bs.length := by simp
  rw [sz, range_all]
  exact ⟨.bl (bs.all id), H, I.kept (t' := tk) fun b o eb => hk b o (by simp; exact Nat.ne_of_lt (Heap.lt_size eb)) (Heap.get?_push_of_some _ eb), rfl, q⟩
end
end L2

namespace L2
open PySem PySem.Spec PyProof.Rows
section
variable {X : Cx} {pins : List (Addr × Obj)} {σ : St} {H : Hp} {s : Shared} {A : Around} {E : Value → Shared → Prop} {Q : Value → Shared → Prop} {b : Bool}
theorem isinsts_ok {x : V} {u t : Value} {tp : Addr} {its : List Value} {o : Obj} {n : Nat} (I : Inv X pins σ H s) (rx : RelV x u) (ty : TyOf X.K H x t) (ho : s.heap.get? tp = some o) (hoc : o.cls = .type "tuple") (hod : o.data = .seq its.toArray n)
    (e : PySem.W.kitAny X.K t its = some b) (h : ∀ tk, Q (.bool b) { s with toks := tk }) :
    wpAny (model X.prog X.w) A (call (.builtin "isinstance") [u, .ref tp]) Q E s := by
  obtain ⟨c0, d0, t0, l0⟩ := o
  replace hoc : c0 = .type "tuple" := hoc
  replace hod : t0 = .seq its.toArray n := hod
  subst hoc hod
  cases ty with
  | non => cases (show u = Value.none from rx); exact PySem.W.kia_tup PySem.W.kitx_none I.kIn True.intro ho e (fun z => nomatch z) h
  | bl y => cases (show u = Value.bool y from rx); exact PySem.W.kia_tup PySem.W.kitx_bool I.kIn True.intro ho e (fun z => nomatch z) h
  | int i => obtain ⟨t, q⟩ := (show ∃ t, u = Value.int i t from rx); cases q; exact PySem.W.kia_tup PySem.W.kitx_int I.kIn True.intro ho e (fun z => nomatch z) h
  | str y => obtain ⟨t, q⟩ := (show ∃ t, u = Value.str y t from rx); cases q; exact PySem.W.kia_tup PySem.W.kitx_str I.kIn True.intro ho e (fun z => nomatch z) h
  | flt y => obtain ⟨t, q⟩ := (show ∃ t, u = Value.float y t from rx); cases q; exact PySem.W.kia_tup PySem.W.kitx_float I.kIn True.intro ho e (fun z => nomatch z) h
  | @lst a xs ea =>
    cases (show u = Value.ref a from rx)
    obtain ⟨_, _, n, _, h1⟩ := (show ObjOk X.prog X.w H s.heap a (.lst xs) from I.hok a _ ea)
    exact PySem.W.kia_tup PySem.W.kitx_list I.kIn ⟨_, h1, rfl⟩ ho e (fun z => nomatch z) h
  | @frz a ob xs ea =>
    cases (show u = Value.ref a from rx)
    obtain ⟨_, _, _, n, _, h1⟩ := (show ObjOk X.prog X.w H s.heap a (.frz ob (.lst xs)) from I.hok a _ ea)
    exact PySem.W.kia_tup PySem.W.kitx_list I.kIn ⟨_, h1, rfl⟩ ho e (fun z => nomatch z) h
  | @tup a xs ea =>
    cases (show u = Value.ref a from rx)
    obtain ⟨_, _, _, p⟩ := (show ObjOk X.prog X.w H s.heap a (.tup xs) from I.hok a _ ea)
    obtain ⟨o, h1, h2, _⟩ := p
    exact PySem.W.kia_tup PySem.W.kitx_tuple I.kIn ⟨o, h1, h2⟩ ho e (fun z => nomatch z) h
  | @dK a kvs ea =>
    cases (show u = Value.ref a from rx)
    obtain ⟨_, _, vs, _, p⟩ := (show ObjOk X.prog X.w H s.heap a (.dK kvs) from I.hok a _ ea)
    obtain ⟨o, es, ep, h1, h2, _⟩ := p
    exact PySem.W.kia_tup PySem.W.kitx_dict I.kIn ⟨o, h1, h2.1⟩ ho e (fun z => nomatch z) h
  | @dT a kvs ea =>
    cases (show u = Value.ref a from rx)
    obtain ⟨_, _, xs, _, o, es, ep, h1, h2, _⟩ := (show ObjOk X.prog X.w H s.heap a (.dT kvs) from I.hok a _ ea)
    exact PySem.W.kia_tup PySem.W.kitx_dict I.kIn ⟨o, h1, h2.1⟩ ho e (fun z => nomatch z) h
  | @ins a C dx fs ea cl ha hn htk hm =>
    cases (show u = Value.ref a from rx)
    obtain ⟨mA, O, _⟩ := ins_get I.hok ea
    obtain ⟨od, J, _⟩ := O.look
    exact PySem.W.kia_tup (PySem.W.kitx_own (cl.get _) cl.hd ha hn htk hm) I.kIn J ho e (fun z => nomatch z) h
end
def rIsTs (K : PySem.W.Frag) : List V → Hp → VK → Prop := fun xs H Q => ∃ (x : V) (p : Addr) (Ts : List String) (t : Value) (b : Bool), xs = [x, .ref p] ∧ H p = some (.tup (Ts.map V.ty)) ∧ TyOf K H x t ∧ PySem.W.kitAny K t (Ts.map Value.type) = some b ∧ Q (.bl b) H
theorem vals_tys : ∀ {Ts : List String} {us : List Value}, Vals (Ts.map V.ty) us → us = Ts.map Value.type
  | [], _, .nil => rfl
  | T :: Ts, _, .cons r t => by rw [List.map_cons, vals_tys t]; cases r; rfl
theorem call_isTs {X : Cx} : CallR X (.builtin "isinstance") (rIsTs X.K) := by
  intro pins s σ H xs us Q I r h
  obtain ⟨x, p, Ts, t, b, rfl, hp, ty, e, q⟩ := h
  obtain ⟨u, v, rfl, ru, rv⟩ := vals2 r
  cases rv
  obtain ⟨_, its, rt, o, ho, hoc, n, hod⟩ := I.hok p _ hp
  have := vals_tys rt
  subst this
  exact isinsts_ok I ru ty ho hoc hod e fun tk => ⟨.bl b, H, I.tok _, rfl, q⟩
example (K : PySem.W.Frag) : PySem.W.kitAny K (.type "list") [.type "list", .type "tuple"] = some true := rfl
example (K : PySem.W.Frag) : PySem.W.kitAny K (.type "tuple") [.type "list", .type "tuple"] = some true := rfl
example (K : PySem.W.Frag) : PySem.W.kitAny K (.type "int") [.type "list", .type "tuple"] = some false := rfl
end L2

namespace L2
open PySem PySem.Spec PyProof.Rows
structure MethOk (P : Program) (w : World) (K : PySem.W.Frag) (mg : Str → Option Value) (base : Heap) (CX : CXT) (k : Nat) (C : Addr) (m : Str) (ps : List Str) (sp : Sp) : Prop where
  cl : Cls K C
  ex : ∃ (f : Addr) (fd : FuncData), FnOk P w K mg base CX k f fd ps sp ∧ Binds K fd ps [] ∧ Meth K C m f
structure MakeOk (P : Program) (w : World) (K : PySem.W.Frag) (mg : Str → Option Value) (base : Heap) (CX : CXT) (k : Nat) (C : Addr) (x : Str) (ps : List Str) (sp : Sp) : Prop where
  ex : ∃ (f : Addr) (fd : FuncData), FnOk P w K mg base CX k f fd ps sp ∧ Binds K fd ps [] ∧ Mk K C f ∧ mg x = some (.ref C)
theorem MakeOk.mono {P : Program} {w : World} {K : PySem.W.Frag} {mg : Str → Option Value} {base : Heap} {CX : CXT} {j k : Nat} {C : Addr} {x : Str} {ps : List Str} {sp : Sp} (D : MakeOk P w K mg base CX j C x ps sp) (h : j ≤ k) : MakeOk P w K mg base CX k C x ps sp := by
  obtain ⟨f, fd, F, b⟩ := D.ex
  exact ⟨f, fd, F.mono h, b⟩
section
variable {X : Cx} {CX : CXT} {k : Nat} {C : Addr} {ps : List Str} {sp : Sp} {E : XK} {x m : Str} {p pos apos : Pos} {e o : Expr} {es : List Expr} {ta : TE} {t : TA}
theorem qpe_makeD (D : MakeOk X.prog X.w X.K X.mg X.base CX k C x ps sp) (hr : Room (k + 1) X.A) (hg : Gl X x) (hx : Passes CX X E)
    (ha : Pr (PA X (e :: es) t)) (hdb : (x == ("__debug__" : Str)) = false := by decide) (he : starEach (e :: es) X.env = (false, eval e X.env) :: starEach es X.env := by rfl) (hpl : (backTo pos (starEach es X.env)).any (·.1) = false := by rfl) :
    Pr (PE X (.Call (.Name x p) (e :: es) [] pos) (tMake C sp [] E t)) := by
  obtain ⟨f, fd, F, b, M, hm⟩ := D.ex
  exact ⟨pe_make M F hr hg hm b .nil hx ha.h hdb he hpl⟩
end
section
variable {X : Cx} {sc : Scope} {own : List Str} {fr : List Nat} {N' : List Str} {tg elt iter : Expr} {ifs : List Expr} {g : TG} {tt : TT} {te : TE} {wi : TI} {pos : Pos}
theorem qpif_nil : Pr (PIf X [] tYes) := ⟨pif_nil⟩
theorem qpif_one {c : Expr} {t : TT} (h : Pr (PT X c t)) : Pr (PIf X [c] t) := ⟨pif_one h.h⟩
theorem qpe_comp (hc : X.calm = true) (cs : CompOk sc X.env.scope own X.N fr N') (hi : Pr (PI X tg iter wi)) (hg : ∀ cl C s H fp, Pr (PG (cxC X sc cl N' C s H fp) tg g)) (hif : ∀ cl C s H fp, Pr (PIf (cxC X sc cl N' C s H fp) ifs tt))
    (he : ∀ cl C s H fp, Pr (PE (cxC X sc cl N' C s H fp) elt te)) (hs : ∀ x, foldedSetIterable iter X.env x = pure x := by intro _; rfl) : Pr (PE X (.ListComp elt [⟨tg, iter, ifs, 0⟩] sc pos) (tComp own.length fr wi g tt te)) :=
  ⟨pe_comp hc cs hi.h (fun a b c d e => (hg a b c d e).h) (fun a b c d e => (hif a b c d e).h) (fun a b c d e => (he a b c d e).h) hs⟩
theorem qps_setC {i : Nat} {y : Str} {py spos : Pos} (hN : X.N.Nodup) (hy : X.N[i]? = some y) (hx : Loc X.env.scope y) (hc : X.calm = true) (cs : CompOk sc X.env.scope own X.N fr N') (hi : Pr (PI X tg iter wi))
    (hg : ∀ cl C s H fp, Pr (PG (cxC X sc cl N' C s H fp) tg g)) (hif : ∀ cl C s H fp, Pr (PIf (cxC X sc cl N' C s H fp) ifs tt)) (he : ∀ cl C s H fp, Pr (PE (cxC X sc cl N' C s H fp) elt te))
    (hsw : swapsWith (.ListComp elt [⟨tg, iter, ifs, 0⟩] sc pos) (some (.Name y py)) spos.line X.env = pure true) (hfn : X.fn y = true ∨ X.env.scope.names.lookup y = some .local := by first | exact .inl rfl | exact .inr rfl | assumption) (hs : ∀ x, foldedSetIterable iter X.env x = pure x := by intro _; rfl) :
    Pr (PS X (.Assign [.Name y py] (.ListComp elt [⟨tg, iter, ifs, 0⟩] sc pos) spos) (tSetC i own.length fr wi g tt te)) :=
  ⟨ps_setC hN hy hx hc cs hi.h (fun a b c d e => (hg a b c d e).h) (fun a b c d e => (hif a b c d e).h) (fun a b c d e => (he a b c d e).h) hsw hfn hs⟩
theorem qpi_enum (k : SK) {elts : List Expr} {kk : Nat} {tpos : Pos} {a : Expr} {ta : TA} {p pos : Pos} (hg : Gl X "enumerate") (hm : X.mg "enumerate" = none) (ha : Pr (PA X [a] ta)) (hs : starEach [a] X.env = [(false, eval a X.env)] := by rfl) :
    Pr (PI X (.Tuple elts kk tpos) (.Call (.Name "enumerate" p) [a] [] pos) (iEnum X.K k ta)) := ⟨pi_enum k hg hm ha.h hs⟩
theorem qpps_nil : Pr (PPs X pos [] [] []) := ⟨pps_nil⟩
theorem qpps_cons {k v : Expr} {ks : List (Option Expr)} {vs : List Expr} {tk tv : TE} {trs : List (TE × TE)} (hk : Pr (PE X k tk)) (hv : Pr (PE X v tv)) (hr : Pr (PPs X pos ks vs trs)) : Pr (PPs X pos (some k :: ks) (v :: vs) ((tk, tv) :: trs)) := ⟨pps_cons hk.h hv.h hr.h⟩
theorem qpe_disp {keys : List (Option Expr)} {values : List Expr} {trs : List (TE × TE)} (h : Pr (PPs X pos keys values trs)) (hall : keys.all (·.isSome) = true) (hl : keys.length = values.length) (h0 : keys ≠ [])
    (h15 : keys.length ≤ 15) : Pr (PE X (.Dict keys values pos) (tDisp trs)) := ⟨pe_disp h.h hall hl h0 h15⟩
theorem compOk {sc outer : Scope} {own N : List Str} {fr : List Nat} {N' : List Str} (h1 : sc.kind = .function) (h2 : ∀ y ∈ sc.names, y.2 ≠ .cell) (h3 : ∀ y ∈ sc.names, y.2 = .local → sc.names.lookup y.1 = some .local)
    (h4 : ∀ y ∈ sc.names, y.2 = .free → outer.names.lookup y.1 = some .cell ∨ outer.names.lookup y.1 = some .free) (h5 : N'.Nodup) (h6 : N'.map some = own.map some ++ fr.map fun j => N[j]?)
    (h7 : ∀ x ∈ fr.filterMap (fun j => N[j]?), sc.names.lookup x = some .free ∧ (outer.names.lookup x = some .cell ∨ outer.names.lookup x = some .free)) : CompOk sc outer own N fr N' :=
  ⟨h1, h2, h3, h4, h5, h6, fun j hj x hx => h7 x (List.mem_filterMap.mpr ⟨j, hj, hx⟩)⟩
end
def rIsT2 (K : PySem.W.Frag) : List V → Hp → VK → Prop := fun xs H Q => ∃ (x : V) (p : Addr) (T1 T2 : String) (t : Value) (b : Bool), xs = [x, .ref p] ∧ H p = some (.tup [.ty T1, .ty T2]) ∧ TyOf K H x t ∧ PySem.W.kitAny K t [.type T1, .type T2] = some b ∧ Q (.bl b) H
theorem call_isT2 {X : Cx} : CallR X (.builtin "isinstance") (rIsT2 X.K) := fun pins s σ H xs us Q I r h => by
  obtain ⟨x, p, T1, T2, t, b, e, hp, ty, k, q⟩ := h
  exact call_isTs pins s σ H xs us Q I r ⟨x, p, [T1, T2], t, b, e, hp, ty, k, q⟩
theorem iteNn {c : Prop} [Decidable c] {A B : Prop} (hc : c) (h : B) : if (!decide c) = true then A else B := by rw [if_neg (by simp [hc])]; exact h
def Tu (H H' : Hp) : Prop := ∀ b xs, H b = some (.tup xs) → H' b = some (.tup xs)
theorem Tu.refl (H : Hp) : Tu H H := fun _ _ h => h
theorem Tu.trans {H H1 H2 : Hp} (a : Tu H H1) (b : Tu H1 H2) : Tu H H2 := fun c xs h => b c xs (a c xs h)
theorem Tu.same {H H' : Hp} (c : Ch [] H H') : Tu H H' := fun b xs h => c b _ h (by simp)
theorem Tu.ch {H H' : Hp} {b : Addr} {o : HO} (c : Ch [b] H H') (hb : H b = some o) (ho : ∀ xs, o ≠ .tup xs) : Tu H H' := fun d xs h => c d _ h (by
  intro z
  have e : d = b := by simpa using z
  subst e
  rw [hb] at h
  exact ho xs (Option.some.inj h))
theorem Tu.lst {H H' : Hp} {b : Addr} {ys : List V} (c : Ch [b] H H') (hb : H b = some (.lst ys)) : Tu H H' := Tu.ch c hb (fun xs z => by cases z)
theorem Tu.new {H : Hp} {p : Addr} (o : HO) (h : H p = none) : Tu H (upd H p o) := Tu.same (Ch.new h o)
end L2

namespace L2
open PySem PySem.Spec PyProof.Rows
section
variable {X : Cx} {a b o e value : Expr} {es : List Expr} {f : Str} {ta tb te : TE} {pos : Pos} {tg l : Expr}
theorem ixaK_list (K : PySem.W.Frag) (hK : X.K = K) : IxR X (aIxL K) := hK ▸ ixa_list
theorem ixaK_tup (K : PySem.W.Frag) (hK : X.K = K) : IxR X (aIxT K) := hK ▸ ixa_tup
theorem slK_tup (K : PySem.W.Frag) (hK : X.K = K) : SlR X (rSlT K) := hK ▸ sl_tup
theorem callK_len_seq (K : PySem.W.Frag) (hK : X.K = K) : CallR X (.builtin "len") (fun xs H Q => ∃ p ys, xs = [.ref p] ∧ (SqL K H p ys ∨ SqT K H p ys) ∧ Q (.int ys.length) H) := hK ▸ call_len_seq
theorem opK_in_seq (K : PySem.W.Frag) (hK : X.K = K) : OpR X (compareOp .In) (rIn K false) := hK ▸ op_in_seq
theorem qpi_listK (K : PySem.W.Frag) (hK : X.K = K) {tl : TE} (hl : Pr (PE X l tl)) : Pr (PI X tg l (iList K tl)) := hK ▸ ⟨pi_list hl.h⟩
theorem qpi_tupK (K : PySem.W.Frag) (hK : X.K = K) {tl : TE} (hl : Pr (PE X l tl)) : Pr (PI X tg l (iTup K tl)) := hK ▸ ⟨pi_tup hl.h⟩
theorem qpg_tupK (K : PySem.W.Frag) (n : Nat) (hK : X.K = K) {k : Nat} {t : TGs} (hc : X.calm = true) (h : Pr (PGs X es t)) (hn : (assignEach es X.env).length = n := by rfl) (hst : (assignEach es X.env).findIdx? (·.1) = none := by rfl) :
    Pr (PG X (.Tuple es k pos) (gTup K n t)) := hK ▸ ⟨pg_tup hc h.h hn hst⟩
end
end L2

namespace L2
open PySem PySem.Spec PyProof.Rows
theorem dict_mapF (f : Array Value → Array Value) (o : Obj) : (o.mapFields f).dict = o.dict := by
  obtain ⟨_, _, d, _⟩ := o
  cases d <;> rfl
structure Fl (h : Heap) (e C T : Addr) (fl : Value) : Prop where
  ob : ∃ oe vs, h.get? e = some oe ∧ (oe.cls = .ref C ∧ oe.dict = none) ∧ oe.data = .fields vs ∧ vs[1]? = some (.ref T) ∧ vs[2]? = some .none
  tb : ∃ oT ts, h.get? T = some oT ∧ oT.data = .fields ts ∧ ts[3]? = some fl
  ne : T ≠ e
def KB (ex fs : List Addr) (h h' : Heap) : Prop := ∀ b o, h.get? b = some o → b ∉ ex → (b ∉ fs → h'.get? b = some o) ∧ ∃ sl, h'.get? b = some { o with slots := sl }
theorem KB.trans {ex ex' fs : List Addr} {h h1 h2 : Heap} (a : KB ex fs h h1) (b : KB ex' fs h1 h2) : KB (ex ++ ex') fs h h2 := fun c o e n => by
  simp only [List.mem_append, not_or] at n
  obtain ⟨k1, sl, k2⟩ := a c o e n.1
  refine ⟨fun hf => (b c o (k1 hf) n.2).1 hf, ?_⟩
  obtain ⟨_, sl', k3⟩ := b c _ k2 n.2
  exact ⟨sl', k3⟩
section
variable {M : Model} {A : Around} {E : Value → Shared → Prop} {s : Shared} {base : Heap} {env : Env} {outer : List Env} {L e C T : Addr} {Q : Unit → Shared → Prop}
theorem st_entry {oe : Obj} {vs : Array Value} {head : Value} {hn : Bool} (hfr : A.frames = some (env :: outer)) (hl : s.heap.FunFrames base (env :: outer)) (hf : env.frame = some L)
    (ge : s.heap.get? e = some oe) (gc : oe.cls = .ref C ∧ oe.dict = none) (gd : oe.data = .fields vs) (g1 : 1 < vs.size) (g2 : vs[2]? = some .none)
    (k : ∀ h' T, KB [e] (frs (env :: outer)) s.heap h' → Fl h' e C T (rawInt L) → s.heap.get? T = none → Q () { s with heap := h' }) :
    wpAny M A (do
      let fo ← frameOf env
      let pl ← entryPlaceOf L hn
      let en ← EntryCells.newEntry head fo .none (rawInt L) .none pl
      setField (.ref e) 1 en) Q E s := by
  have nf : e ∉ frs (env :: outer) := fun z => by
    obtain ⟨_, o, ho, no⟩ := hl.mem z
    rw [ge] at ho
    cases ho
    exact no vs gd
  refine wpAny_bind (wpAny_frameOf_fun hfr hl hf fun ha so => ?_)
  refine wpAny_bind (wpAny_entryPlaceOf fun pl ip => ?_)
  unfold EntryCells.newEntry newFields
  refine wpAny_bind (wpAny_newObj_type ?_ (ip.sizeOk5 _ _ _ _ _))
  have ea : ha.get? e = some oe := by rw [so.2.1 e nf]; exact ge
  have neT : ha.objs.size ≠ e := Nat.ne_of_gt (Heap.lt_size ea)
  refine wpAny_setField (Heap.get?_push_of_some _ ea) gd g1 (k _ ha.objs.size (fun b o hb hbe => ?_) ⟨⟨_, _, Heap.get?_update_self _ (Heap.get?_push_of_some _ ea) (Obj.isFreed_of_fields (Obj.data_mapFields gd _)), ?_, Obj.data_mapFields gd _, ?_, ?_⟩, ?_, neT⟩ ?_)
  · have n1 : e ≠ b := fun z => hbe (by simp [z])
    obtain ⟨sl, q⟩ := so.2.2 b o hb
    refine ⟨fun nb => ?_, sl, ?_⟩
    · rw [Heap.get?_update_other _ _ n1]
      refine Heap.get?_push_of_some _ ?_
      rw [so.2.1 b nb]
      exact hb
    · rw [Heap.get?_update_other _ _ n1]
      exact Heap.get?_push_of_some _ q
  · rw [Obj.cls_mapFields, dict_mapF]; exact gc
  · simp [g1]
  · rw [Array.getElem?_setIfInBounds_ne (by decide)]; exact g2
  · have q := (Heap.get?_update_other (ha.push { cls := .type "traceback", dict := none, data := .fields ([head, .ref L, .none, rawInt L, .none] ++ (if pl.isEmpty then List.replicate 6 Value.none else pl)).toArray }) (Obj.mapFields (·.setIfInBounds 1 (Value.ref ha.objs.size))) (Ne.symm neT)).trans (Heap.get?_push_size ha rfl)
    refine ⟨_, _, q, rfl, ?_⟩
    rcases ip with rfl | ⟨_, _, _, _, _, _, _, rfl⟩ <;> simp
  · exact Heap.get?_none_of_le (by rw [so.1]; exact Nat.le_refl _)
theorem st_land {fl : Value} (f : Fl s.heap e C T fl) (k : ∀ h', KB [T] [] s.heap h' → Fl h' e C T .none → Q () { s with heap := h' }) : wpAny M A (setFlight (.ref e) none) Q E s := by
  obtain ⟨⟨oe, vs, a1, a2, a3, a4, a5⟩, ⟨oT, ts, b1, b2, b3⟩, nT⟩ := f
  have sz : 3 < ts.size := (Array.getElem?_eq_some_iff.mp b3).1
  unfold setFlight
  refine wpAny_bind (wpAny_field a1 a3 a4 ?_)
  rw [if_pos (by simp : (Value.ref T != Value.none) = true)]
  refine wpAny_setField b1 b2 sz (k _ (fun b o hb nb => ?_) ⟨⟨oe, vs, ?_, a2, a3, a4, a5⟩, ⟨_, _, Heap.get?_update_self _ b1 (Obj.isFreed_of_fields (Obj.data_mapFields b2 _)), Obj.data_mapFields b2 _, ?_⟩, nT⟩)
  · have n1 : T ≠ b := fun z => nb (by simp [z])
    rw [Heap.get?_update_other _ _ n1]
    exact ⟨fun _ => hb, o.slots, hb⟩
  · rw [Heap.get?_update_other _ _ nT]
    exact a1
  · simp [sz]
theorem st_note1 {oe : Obj} {vs : Array Value} (hfr : A.frames = some (env :: outer)) (hl : s.heap.FunFrames base (env :: outer)) (hf : env.frame = some L)
    (ge : s.heap.get? e = some oe) (gc : oe.cls = .ref C ∧ oe.dict = none) (gd : oe.data = .fields vs) (g1 : vs[1]? = some .none) (g2 : vs[2]? = some .none)
    (k : ∀ h' T, KB [e] (frs (env :: outer)) s.heap h' → Fl h' e C T (rawInt L) → s.heap.get? T = none → Q () { s with heap := h' }) : wpAny M A (noteFrame (.ref e) env) Q E s := by
  unfold noteFrame
  simp only [hf]
  refine wpAny_bind (wpAny_field ge gd g1 ?_)
  rw [if_neg (by decide)]
  exact st_entry hfr hl hf ge gc gd (Array.getElem?_eq_some_iff.mp g1).1 g2 k
theorem st_note {T0 : Addr} (hfr : A.frames = some (env :: outer)) (hl : s.heap.FunFrames base (env :: outer)) (hf : env.frame = some L) (f : Fl s.heap e C T0 .none)
    (k : ∀ h' T, KB [T0, e] (frs (env :: outer)) s.heap h' → Fl h' e C T (rawInt L) → s.heap.get? T = none → Q () { s with heap := h' }) : wpAny M A (noteFrame (.ref e) env) Q E s := by
  obtain ⟨⟨oe, vs, a1, a2, a3, a4, a5⟩, ⟨oT, ts, b1, b2, b3⟩, nT⟩ := f
  unfold noteFrame
  simp only [hf]
  refine wpAny_bind (wpAny_field a1 a3 a4 ?_)
  rw [if_pos (by simp : (Value.ref T0 != Value.none) = true)]
  refine wpAny_bind (wpAny_field b1 b2 b3 ?_)
  rw [if_neg (by simp [rawInt] : ¬ ((Value.none == rawInt L) = true))]
  refine wpAny_bind (wpAny_setField b1 b2 (Array.getElem?_eq_some_iff.mp b3).1 ?_)
  have nfT : ∀ b o, s.heap.get? b = some o → (∀ ws, o.data ≠ .fields ws) → T0 ≠ b := fun b o hb hn z => by
    rw [← z, b1] at hb
    cases hb
    exact hn ts b2
  have same : ∀ b, T0 ≠ b → (s.heap.update T0 (Obj.mapFields (·.setIfInBounds 3 Value.none))).get? b = s.heap.get? b := fun b n => Heap.get?_update_other _ _ n
  have kb : KB [T0] (frs (env :: outer)) s.heap (s.heap.update T0 (Obj.mapFields (·.setIfInBounds 3 Value.none))) := fun b o hb nb => by
    have n1 : T0 ≠ b := fun z => nb (by simp [z])
    rw [same b n1]
    exact ⟨fun _ => hb, o.slots, hb⟩
  refine st_entry hfr (hl.of_keeps fun b o hb hn => ⟨o, by rw [same b (nfT b o hb hn)]; exact hb, rfl⟩) hf (by rw [same e nT]; exact a1) a2 a3 (Array.getElem?_eq_some_iff.mp a4).1 a5 fun h' T kb' f' n' => k h' T (kb.trans kb') f' ?_
  cases q : s.heap.get? T with
  | none => rfl
  | some o =>
    by_cases z : T0 = T
    · have := Heap.get?_update_self (Obj.mapFields (·.setIfInBounds 3 Value.none)) b1 (Obj.isFreed_of_fields (Obj.data_mapFields b2 _))
      rw [z] at this
      rw [← z] at n'
      rw [z] at n'
      rw [this] at n'
      cases n'
    · rw [same T z] at n'
      rw [n'] at q
      cases q
end
end L2

namespace L2
open PySem PySem.Spec PyProof.Rows
def CXE (P : Program) (w : World) : CXT := fun outer H s E e s' => ∃ (ea C T : Addr) (H' : Hp), e = .ref ea ∧ s'.os = s.os ∧ AllBare s'.gens ∧ Un (frs outer) [] H H' s.heap s'.heap ∧ HOk P w H' s'.heap ∧ Fl s'.heap ea C T .none ∧
  s.heap.get? ea = none ∧ s.heap.get? T = none ∧ H' ea = none ∧ H' T = none ∧ E (.ref C) none H'
theorem KB.fs {ex fs : List Addr} {h h' : Heap} (a : KB ex [] h h') : KB ex fs h h' := fun b o e n => ⟨fun _ => (a b o e n).1 (by simp), (a b o e n).2⟩
theorem Un.fly {fs ex xs gs : List Addr} {H H1 : Hp} {h h1 h2 : Heap} (u : Un fs ex H H1 h h1) (kb : KB xs gs h1 h2) (hx : ∀ b ∈ xs, h.get? b = none) (hg : ∀ b ∈ gs, (∃ o, h.get? b = some o) → b ∈ fs) : Un fs ex H H1 h h2 where
  keep := fun b o e n hf hx' => (kb b o (u.keep b o e n hf hx') fun z => by rw [hx b z] at e; cases e).1 fun z => hf (hg b z ⟨o, e⟩)
  slot := fun b o e n hf hx' => by
    obtain ⟨sl, q⟩ := u.slot b o e n hf hx'
    obtain ⟨_, sl', q'⟩ := kb b _ q fun z => by rw [hx b z] at e; cases e
    exact ⟨sl', q'⟩
  free := u.free
  there := fun b o e hx' => by
    obtain ⟨o', q⟩ := u.there b o e hx'
    obtain ⟨_, sl', q'⟩ := kb b _ q fun z => by rw [hx b z] at e; cases e
    exact ⟨_, q'⟩
  tups := u.tups
  frzs := u.frzs
  tbls := u.tbls
theorem HOk.fly {P : Program} {w : World} {H : Hp} {h h' : Heap} {xs gs : List Addr} (x : HOk P w H h) (kb : KB xs gs h h') (hx : ∀ b ∈ xs, H b = none) (hg : ∀ b ∈ gs, H b = none) : HOk P w H h' := fun a o e =>
  (x a o e).stay (fun b u hb q => by
    have t : H b ≠ none := by
      rcases hb with rfl | hb
      · rw [e]; intro z; cases z
      · rw [hb]; intro z; cases z
    exact (kb b u q fun z => t (hx b z)).1 fun z => t (hg b z)) (fun _ q => q) fun _ _ q => q
section
variable {X : Cx} {pins : List (Addr × Obj)} {σ : St} {H H' : Hp} {s s' : Shared}
theorem Inv.fly {h' : Heap} {ex : List Addr} (I : Inv X pins σ H s) (kb : KB ex (frs X.stack) s.heap h')
    (hx : ∀ b ∈ ex, X.s₀.heap.get? b = none ∧ H b = none ∧ b ≠ X.env.locals ∧ (∀ x c, X.env.cells.lookup x = some c → c ≠ b) ∧ ∀ p ∈ X.pn ++ pins, p.1 ≠ b) : Inv X pins σ H { s with heap := h' } := by
  have cellK : ∀ x c v, X.env.cells.lookup x = some c → s.heap.IsCell c v → h'.IsCell c v := fun x c v e ⟨o, ho, hd⟩ => by
    obtain ⟨_, sl, q⟩ := kb c o ho fun z => (hx c z).2.2.2.1 x c e rfl
    exact ⟨_, q, hd⟩
  refine ⟨I.ok, I.os, I.bare, I.base.fly kb (fun b z => (hx b z).1) (fun b z ⟨o, e⟩ => ?_), ?_, fun x c e => ?_, I.free, I.freeC, fun p hp => ?_, I.hok.fly kb (fun b z => (hx b z).2.1) I.stkFree, I.len⟩
  · rcases List.mem_cons.mp (I.stkSub b z) with y | y
    · rw [y] at e
      exact absurd (Heap.lt_size e) (Nat.not_lt.mpr I.ok.above)
    · exact y
  · obtain ⟨m, ⟨o, es, ep, ho, r⟩, l⟩ := I.loc
    obtain ⟨_, sl, q⟩ := kb _ o ho fun z => (hx _ z).2.2.1 rfl
    refine ⟨m, ⟨_, es, ep, q, r⟩, fun i x v h1 h2 h3 => ?_⟩
    obtain ⟨u, ru, lk⟩ := l i x v h1 h2 h3
    refine ⟨u, ru, ?_⟩
    rcases lk with a | ⟨a, c, b1, b2⟩
    · exact .inl a
    · exact .inr ⟨a, c, b1, cellK x c _ b1 b2⟩
  · obtain ⟨v, q⟩ := I.cell x c e
    exact ⟨v, cellK x c v e q⟩
  · obtain ⟨a, b, c, d, e⟩ := I.pin p hp
    exact ⟨(kb _ _ a fun z => (hx _ z).2.2.2.2 p hp rfl).1 fun z => (List.mem_cons.mp (I.stkSub _ z)).elim c d, b, c, d, e⟩
theorem Inv.alien (I : Inv X pins σ H s) {b : Addr} (n : s.heap.get? b = none) : b ≠ X.env.locals ∧ (∀ x c, X.env.cells.lookup x = some c → c ≠ b) ∧ ∀ p ∈ X.pn ++ pins, p.1 ≠ b := by
  refine ⟨fun z => ?_, fun x c e z => ?_, fun p hp z => ?_⟩
  · obtain ⟨m, ⟨o, es, ep, ho, r⟩, l⟩ := I.loc
    rw [← z, n] at ho
    cases ho
  · obtain ⟨v, o, ho, _⟩ := I.cell x c e
    rw [z, n] at ho
    cases ho
  · have := (I.pin p hp).1
    rw [z, n] at this
    cases this
theorem Inv.alien0 (I : Inv X pins σ H s) (hex : X.ex = []) {b : Addr} (n : s.heap.get? b = none) : X.s₀.heap.get? b = none := by
  cases q : X.s₀.heap.get? b with
  | none => rfl
  | some o =>
    obtain ⟨o', z⟩ := I.base.there b o q (by rw [hex]; simp)
    rw [n] at z
    cases z
theorem HOk.alien {P : Program} {w : World} {H : Hp} {h : Heap} {b : Addr} (x : HOk P w H h) (n : h.get? b = none) : H b = none := by
  cases q : H b with
  | none => rfl
  | some o =>
    obtain ⟨o', z⟩ := x.has q
    rw [n] at z
    cases z
end
section
variable {P : Program} {w : World} {K : PySem.W.Frag} {mg : Str → Option Value} {base : Heap} {N : List Str} {qual : Str} {scope : Scope} {f : Addr} {cd : Value} {A : Around} {outer : List Env} {s₀ : Shared} {H₀ : Hp} {E : XK}
abbrev cxE (P : Program) (w : World) (K : PySem.W.Frag) (mg : Str → Option Value) (base : Heap) (N : List Str) (qual : Str) (scope : Scope) (f : Addr) (cd : Value) (A : Around) (outer : List Env) (s₀ : Shared) (H₀ : Hp) (E : XK) : Cx :=
  cxOf (CXE P w) P w K mg base N qual scope f cd A outer s₀ H₀ E
theorem stk_un {X : Cx} {pins : List (Addr × Obj)} {σ : St} {H : Hp} {s : Shared} (I : Inv X pins σ H s) : ∀ b ∈ frs X.stack, (∃ o, X.s₀.heap.get? b = some o) → b ∈ X.fs := fun b z ⟨o, e⟩ => by
  rcases List.mem_cons.mp (I.stkSub b z) with y | y
  · rw [y] at e
    exact absurd (Heap.lt_size e) (Nat.not_lt.mpr I.ok.above)
  · exact y
theorem xe_made {pins : List (Addr × Obj)} {σ : St} {H : Hp} {s : Shared} {h1 : Heap} {e C : Addr} {vs : List Value} (I : Inv (cxE P w K mg base N qual scope f cd A outer s₀ H₀ E) pins σ H s) (m : Heap.MadeExcOf s.heap h1 e (.ref C) vs) (q : E (.ref C) none H) :
    (cxE P w K mg base N qual scope f cd A outer s₀ H₀ E).xe (.ref e) { s with heap := h1 } := by
  have I1 : Inv (cxE P w K mg base N qual scope f cd A outer s₀ H₀ E) pins σ H { s with heap := h1 } := I.kept (t' := s.toks) m.keeps
  obtain ⟨t, ge, _, _⟩ := m.there
  show wpAny (model P w) _ (leaving _ (.ref e)) _ _ _
  unfold leaving
  refine wpAny_bind (st_note1 I1.ok.frames I1.stack rfl ge ⟨rfl, rfl⟩ rfl rfl rfl fun h2 T kb fl nT => st_land fl fun h3 kb3 fl3 => ?_)
  have k3 : KB [e, T] (frs (envOfC qual scope s₀.heap.objs.size f cd :: outer)) h1 h3 := kb.trans kb3.fs
  have n0 : ∀ b ∈ [e, T], s₀.heap.get? b = none := fun b hb => by
    simp only [List.mem_cons, List.not_mem_nil, or_false] at hb
    rcases hb with rfl | rfl
    · exact I.alien0 rfl m.new
    · exact I1.alien0 rfl nT
  have nH : ∀ b ∈ [e, T], H b = none := fun b hb => by
    simp only [List.mem_cons, List.not_mem_nil, or_false] at hb
    rcases hb with rfl | rfl
    · exact I.hok.alien m.new
    · exact I1.hok.alien nT
  exact ⟨e, C, T, H, rfl, I.os, I.bare, I1.base.fly k3 n0 (stk_un I1), I1.hok.fly k3 nH I1.stkFree, fl3, n0 e (by simp), n0 T (by simp), nH e (by simp), nH T (by simp), q⟩
theorem passE : Passes (CXE P w) (cxE P w K mg base N qual scope f cd A outer s₀ H₀ E) E := by
  rintro pins σ H s e s' I ⟨ea, C, T, H', rfl, os, bare, un, hok, fl, n1, n2, t1, t2, q⟩
  have J : Inv (cxE P w K mg base N qual scope f cd A outer s₀ H₀ E) pins σ H' s' := I.call' (ch := []) os un hok bare (fun b z => absurd z (by simp))
  show wpAny (model P w) _ (leaving _ (.ref ea)) _ _ _
  unfold leaving
  refine wpAny_bind (st_note J.ok.frames J.stack rfl fl fun h2 T1 kb fl2 nT => st_land fl2 fun h3 kb3 fl3 => ?_)
  have k3 : KB [T, ea, T1] (frs (envOfC qual scope s₀.heap.objs.size f cd :: outer)) s'.heap h3 := kb.trans kb3.fs
  have n0 : ∀ b ∈ [T, ea, T1], s₀.heap.get? b = none := fun b hb => by
    simp only [List.mem_cons, List.not_mem_nil, or_false] at hb
    rcases hb with rfl | rfl | rfl
    · exact I.alien0 rfl n2
    · exact I.alien0 rfl n1
    · exact J.alien0 rfl nT
  have nH : ∀ b ∈ [T, ea, T1], H' b = none := fun b hb => by
    simp only [List.mem_cons, List.not_mem_nil, or_false] at hb
    rcases hb with rfl | rfl | rfl
    · exact t2
    · exact t1
    · exact J.hok.alien nT
  exact ⟨ea, C, T1, H', rfl, J.os, J.bare, J.base.fly k3 n0 (stk_un J), J.hok.fly k3 nH J.stkFree, fl3, n0 ea (by simp), n0 T1 (by simp), nH ea (by simp), nH T1 (by simp), q⟩
end
end L2

namespace L2
open PySem PySem.Spec PyProof.Rows
abbrev bmV : List Value := [.type "ValueError", .type "Exception", .type "BaseException", .type "object"]
def XC (K : PySem.W.Frag) (C : Addr) : Prop := PySem.W.excIn K C bmV "ValueError.__new__" = true
theorem XC.obj {K : PySem.W.Frag} {h : Heap} {C : Addr} (q : XC K C) (X : K.In h) : ∃ bm N nm qn bs hdct sn sub ab col dd k0 k1 k2 k3 k5 mN,
    h.get? C = some (excClassObj nm qn C N bs bm hdct sn sub ab col dd k0 k1 k2 k3 k5 "ValueError.__new__") ∧ h.Ns N mN ∧ mN "__init__" = none ∧ OwnTail h bmV bm := by
  have q : PySem.W.excIn K C bmV "ValueError.__new__" = true := q
  unfold PySem.W.excIn at q
  split at q
  case h_2 => cases q
  case h_1 dd cd sl ho =>
    split at q
    case h_2 => cases q
    case h_1 C' bm k0 k1 k2 k3 n k5 hm hs =>
      simp only [Bool.and_eq_true, beq_iff_eq, Bool.not_eq_true'] at q
      obtain ⟨⟨⟨⟨⟨rfl, rfl⟩, dl⟩, ht⟩, ok⟩, ni⟩ := q
      obtain ⟨nm, bs, mro, ns, qn, hd, sn, sub, ab, col, del⟩ := cd
      dsimp only at hm dl ok ni
      subst hm dl
      obtain ⟨l⟩ := sl
      simp only at hs
      subst hs
      exact ⟨bm, ns, nm, qn, bs, hd, sn, sub, ab, col, dd, k0, k1, k2, k3, k5, _, X _ _ ho, .of_isNs (PySem.W.isNs_of_in X ok), PySem.W.nsMap_none_of_in X ok ni, PySem.W.tail_of_in X ht⟩
def tRaise (C : Addr) (E : XK) (t : TA) : TS := fun _ σ H => t σ H fun vs H1 => vs.length ≤ sizeLine ∧ E (.ref C) none H1
section
variable {P : Program} {w : World} {K : PySem.W.Frag} {mg : Str → Option Value} {base : Heap} {N : List Str} {qual : Str} {scope : Scope} {f : Addr} {cd : Value} {A : Around} {outer : List Env} {s₀ : Shared} {H₀ : Hp} {E : XK}
theorem ps_raiseE {x : Str} {C : Addr} {np cpos pos : Pos} {e₀ : Expr} {rest : List Expr} {ta : TA} (hg : Gl (cxE P w K mg base N qual scope f cd A outer s₀ H₀ E) x) (hm : mg x = some (.ref C)) (xc : XC K C)
    (ha : PA (cxE P w K mg base N qual scope f cd A outer s₀ H₀ E) (e₀ :: rest) ta) (hdb : (x == ("__debug__" : Str)) = false := by decide)
    (he : starEach (e₀ :: rest) (cxE P w K mg base N qual scope f cd A outer s₀ H₀ E).env = (false, eval e₀ (cxE P w K mg base N qual scope f cd A outer s₀ H₀ E).env) :: starEach rest (cxE P w K mg base N qual scope f cd A outer s₀ H₀ E).env := by rfl)
    (hpl : (backTo cpos (starEach rest (cxE P w K mg base N qual scope f cd A outer s₀ H₀ E).env)).any (·.1) = false := by rfl) :
    PS (cxE P w K mg base N qual scope f cd A outer s₀ H₀ E) (.Raise (some (.Call (.Name x np) (e₀ :: rest) [] cpos)) none pos) (tRaise C E ta) := by
  intro pins s σ H D I h
  obtain ⟨bm, Nc, nm, qn, bs, hdct, sn, sub, ab, col, dd, k0, k1, k2, k3, k5, mN, hC, hN, hni, T⟩ := xc.obj I.mod.kin
  refine wpAny_Raise_call_subT (C := C) (nm := nm) (q := qn) (N := Nc) (bs := bs) (bm := bm) (hdct := hdct) (sn := sn) (sub := sub) (ab := ab) (col := col) (dd := dd) (k0 := k0) (k1 := k1) (k2 := k2) (k3 := k3) (k5 := k5) PySem.F.excBase_ValueError (mN := mN)
    (T.hasType PySem.F.excBase_ValueError.hasBase) (I.ok.hd rfl) ?_ hni (ld_glob I hg hm ⟨rfl, ?_⟩ hdb)
  · rw [he]
    show (false || (backTo cpos (starEach rest (cxE P w K mg base N qual scope f cd A outer s₀ H₀ E).env)).any (·.1)) = false
    rw [hpl]
    rfl
  · have ha' := ha cpos pins s σ H _ I h
    rw [he] at ha' ⊢
    refine Calls.evalArgs_plain (wpAny_mono ha' (fun us s2 ⟨vs, H1, I1, r, z, q⟩ => ?_) fun _ _ y => y)
    exact ⟨rfl, by rw [← r.length]; exact z, I1.bk _ _ hC, hN.keeps I1.bk, T.keeps I1.bk, fun h' e m => xe_made I1 m q⟩
theorem qps_raiseE {x : Str} {C : Addr} {np cpos pos : Pos} {e₀ : Expr} {rest : List Expr} {ta : TA} (hg : Gl (cxE P w K mg base N qual scope f cd A outer s₀ H₀ E) x) (hm : mg x = some (.ref C)) (xc : XC K C)
    (ha : Pr (PA (cxE P w K mg base N qual scope f cd A outer s₀ H₀ E) (e₀ :: rest) ta)) (hdb : (x == ("__debug__" : Str)) = false := by decide)
    (he : starEach (e₀ :: rest) (cxE P w K mg base N qual scope f cd A outer s₀ H₀ E).env = (false, eval e₀ (cxE P w K mg base N qual scope f cd A outer s₀ H₀ E).env) :: starEach rest (cxE P w K mg base N qual scope f cd A outer s₀ H₀ E).env := by rfl)
    (hpl : (backTo cpos (starEach rest (cxE P w K mg base N qual scope f cd A outer s₀ H₀ E).env)).any (·.1) = false := by rfl) :
    Pr (PS (cxE P w K mg base N qual scope f cd A outer s₀ H₀ E) (.Raise (some (.Call (.Name x np) (e₀ :: rest) [] cpos)) none pos) (tRaise C E ta)) := ⟨ps_raiseE hg hm xc ha.h hdb he hpl⟩
end
section
variable {P : Program} {w : World} {K : PySem.W.Frag} {mg : Str → Option Value} {base : Heap}
theorem Fun.okE {x qual : Str} {st : Stmt} {f : Addr} {fd : FuncData} {N ps : List Str} {k : Nat} {sp : Sp} (F : Fun K x qual st f fd) (S : FnScope N ps (defScope st)) (len : ∀ vs H Q E, sp vs H Q E → vs.length = ps.length)
    (hbody : ∀ (cdv : Value) (A : Around) (outer : List Env) (s : Shared) (H : Hp) (vs : List V) (Q : VK) (E : XK), Room k (A.deeper (envOfC qual (defScope st) s.heap.objs.size f cdv)) → sp vs H Q E →
      ∃ t, PSs (cxE P w K mg base N qual (defScope st) f cdv A outer s H E) (defBody st) t ∧ t { nx := fun _ H' => Q .non H', rt := Q } (start N vs) H) : FnOk P w K mg base (CXE P w) (k + 1) f fd ps sp := by
  obtain ⟨oc, od, kV, doc, pm, an, cdv, ct, osl, rfl, lk, hcd⟩ := F.ex
  exact fn_of lk hcd S len fun A outer s H vs Q E hr hsp => hbody cdv A outer s H vs Q E hr hsp
theorem FnOk.calm {k : Nat} {f : Addr} {fd : FuncData} {ps : List Str} {sp sp' : Sp} (F : FnOk P w K mg base (CXE P w) k f fd ps sp) (h : ∀ vs H Q E, sp' vs H Q E → sp vs H Q E0) : FnOk P w K mg base CX0 k f fd ps sp' :=
  ⟨fun vs H Q E q => F.len vs H Q E0 (h _ _ _ _ q), fun A outer s H args us vs Q E hr he hb hv hs => codeAny_mono (F.run A outer s H args us vs Q E0 hr he hb hv (h _ _ _ _ hs)) fun r s' hq => by
    cases r with
    | ok fl => cases fl <;> exact hq
    | error e =>
      obtain ⟨ea, C, T, H', _, _, _, _, _, _, _, _, _, _, z⟩ := (show CXE P w outer H s E0 e s' from hq)
      exact z.elim⟩
end
end L2

namespace L2
open PySem PySem.Spec PyProof.Rows
def Cx.hand (X : Cx) (v : Value) : Cx := { X with A := X.A.mark (some v), calm := false }
section
variable {X : Cx} {pins : List (Addr × Obj)} {σ : St} {H H' : Hp} {s s' : Shared} {v : Value}
theorem Inv.hand (I : Inv X pins σ H s) (v : Value) : Inv (X.hand v) pins σ H s :=
  ⟨⟨I.ok.mod, I.ok.kind, I.ok.glob, I.ok.blt, I.ok.above, I.ok.inj, I.ok.has, I.ok.cab, (fun z => by cases z), I.ok.frames, I.ok.stk, I.ok.exf, I.ok.bs, I.ok.bsz, I.ok.noex, I.ok.exfs, I.ok.funs, I.ok.frf⟩, I.os, I.bare, I.base, I.loc, I.cell, I.free, I.freeC, I.pin, I.hok, I.len⟩
theorem Inv.unhand (J : X.Ok) (I : Inv (X.hand v) pins σ H s) : Inv X pins σ H s := ⟨J, I.os, I.bare, I.base, I.loc, I.cell, I.free, I.freeC, I.pin, I.hok, I.len⟩
theorem Inv.track {a : Addr} {o : HO} (I : Inv X pins σ H s) (hn : H a = none) (n0 : X.s₀.heap.get? a = none) (nl : a ≠ X.env.locals) (nc : ∀ x c, X.env.cells.lookup x = some c → c ≠ a) (np : ∀ p ∈ X.pn ++ pins, p.1 ≠ a)
    (new : ObjOk X.prog X.w (upd H a o) s.heap a o) : Inv X pins σ (upd H a o) s := by
  have ne : ∀ b u, H b = some u → b ≠ a := fun b u e z => by rw [z, hn] at e; cases e
  refine ⟨I.ok, I.os, I.bare, ⟨I.base.keep, I.base.slot, fun b o' e n hx => ?_, I.base.there, fun b xs e => ?_, fun b o' u e => ?_, fun b ps e => ?_⟩, I.loc, I.cell, ?_, fun x c e => ?_, fun p hp => ?_, fun b u e => ?_, I.len⟩
  · rw [upd_ne (fun z => by rw [z, n0] at e; cases e)]
    exact I.base.free b o' e n hx
  · have q := I.base.tups b xs e
    rw [upd_ne (ne b _ q)]
    exact q
  · have q := I.base.frzs b o' u e
    rw [upd_ne (ne b _ q)]
    exact q
  · obtain ⟨more, q⟩ := I.base.tbls b ps e
    exact ⟨more, by rw [upd_ne (ne b _ q)]; exact q⟩
  · rw [upd_ne (Ne.symm nl)]
    exact I.free
  · rw [upd_ne (nc x c e)]
    exact I.freeC x c e
  · obtain ⟨q1, q2, q3⟩ := I.pin p hp
    exact ⟨q1, by rw [upd_ne (np p hp)]; exact q2, q3⟩
  · by_cases hb : b = a
    · subst hb
      rw [upd_same] at e
      cases e
      exact new
    · rw [upd_ne hb] at e
      exact (I.hok b u e).stay (fun _ _ _ q => q) (fun c q => by rw [upd_ne (ne c _ q)]; exact q) fun c xs q => by rw [upd_ne (ne c _ q)]; exact q
def exO (a C : Addr) : HO := .ext fun h => ∃ o vs, h.get? a = some o ∧ (o.cls = .ref C ∧ o.dict = none) ∧ o.data = .fields vs ∧ vs[2]? = some .none
theorem exO_ok {P : Program} {w : World} {H : Hp} {h : Heap} {a C T : Addr} {fl : Value} (f : Fl h a C T fl) : ObjOk P w H h a (exO a C) := by
  obtain ⟨oe, vs, h1, h2, h3, _, h5⟩ := f.ob
  exact ⟨⟨oe, vs, h1, h2, h3, h5⟩, ⟨oe, h1⟩, fun g1 g2 ⟨o, ws, q1, q2⟩ k => ⟨o, ws, k o q1, q2⟩⟩
theorem exO_get {P : Program} {w : World} {H : Hp} {h : Heap} {a C : Addr} (ok : HOk P w H h) (e : H a = some (exO a C)) : ∃ o vs, h.get? a = some o ∧ (o.cls = .ref C ∧ o.dict = none) ∧ o.data = .fields vs ∧ vs[2]? = some .none := (ok a _ e).1
theorem goes_ok {M : Model} {A : Around} {E : Value → Shared → Prop} {i : Nat} {x : Str} {pos : Pos} {Q : Unit → Shared → Prop} (I : Inv X pins σ H s) (hN : X.N.Nodup) (hi : X.N[i]? = some x) (hk : X.env.scope.names.lookup x = some .local)
    (h : ∀ s', Inv X pins (σ.set i none) H s' → Q () s') : wpAny M A (do bindName X.env x .none; unbindBehindTheSuite X.env x pos) Q E s := by
  obtain ⟨m, hn, hl⟩ := id I.loc
  have hcls : (X.env.scope.kind == .class || (X.env.scope.kind == .module && X.env.locals != X.env.globals)) = false := by rw [I.ok.kind]; rfl
  refine wpAny_nameGoes_keeps hk hn hcls fun h' v hn' hs => h _ ?_
  have nb : ∀ b, (∃ o, X.s₀.heap.get? b = some o) → b ≠ X.env.locals := fun b ⟨o, e⟩ => Nat.ne_of_lt (Nat.lt_of_lt_of_le (Heap.lt_size e) I.ok.above)
  refine ⟨I.ok, I.os, I.bare, ⟨fun b o e n hb hx => ?_, fun b o e n hb hx => ?_, I.base.free, fun b o e hx => ?_, I.base.tups, I.base.frzs, I.base.tbls⟩, ⟨_, hn', fun j y v' e1 e2 e3 => ?_⟩, fun y c e => ?_, I.free, I.freeC, fun p hp => ?_, fun b ob e => ?_, by rw [List.length_set]; exact I.len⟩
  · exact (hs.2 b (nb b ⟨o, e⟩)).trans (I.base.keep b o e n hb hx)
  · obtain ⟨sl, e1⟩ := I.base.slot b o e n hb hx
    exact ⟨sl, (hs.2 b (nb b ⟨o, e⟩)).trans e1⟩
  · obtain ⟨o', e1⟩ := I.base.there b o e hx
    exact ⟨o', (hs.2 b (nb b ⟨o, e⟩)).trans e1⟩
  · have hj : j ≠ i := fun z => by
      subst z
      rw [List.getElem?_set_self (by rw [I.len]; exact (List.getElem?_eq_some_iff.mp hi).1)] at e2
      cases e2
    rw [List.getElem?_set_ne (Ne.symm hj)] at e2
    obtain ⟨u', r', q⟩ := hl j y v' e1 e2 e3
    refine ⟨u', r', ?_⟩
    rcases q with ⟨k, e⟩ | ⟨k, c, e, z⟩
    · have ny : y ≠ x := fun e => hj (nodup_ix hN e1 (e ▸ hi))
      exact .inl ⟨k, by simp [ny, e]⟩
    · exact .inr ⟨k, c, e, z.sameBut hs (I.cne y c e)⟩
  · obtain ⟨w', z⟩ := I.cell y c e
    exact ⟨w', z.sameBut hs (I.cne y c e)⟩
  · obtain ⟨e, n, ne, nf, d⟩ := I.pin p hp
    exact ⟨(hs.2 p.1 ne).trans e, n, ne, nf, d⟩
  · refine (I.hok b ob e).stay (fun c w' hc q => (hs.2 c fun z => ?_).trans q) (fun _ q => q) fun _ _ q => q
    have f := I.free
    rcases hc with hc | hc
    · rw [← z, hc, e] at f; cases f
    · rw [← z, hc] at f; cases f
end
def XSub (K : PySem.W.Frag) (C CF : Addr) : Prop := (match K.lookup C with
  | some ⟨_, _, .cls cd, _⟩ => cd.mro.contains (.ref CF)
  | _ => false) = true
section
variable {M : Model} {A : Around} {E : Value → Shared → Prop} {s : Shared} {K : PySem.W.Frag} {C CF e : Addr}
theorem excm_own {oe : Obj} {Q : Bool → Shared → Prop} (X : K.In s.heap) (c1 : XC K C) (c2 : XC K CF) (sb : XSub K C CF) (ge : s.heap.get? e = some oe) (gc : oe.cls = .ref C) (k : Q true s) : wpAny M A (excMatches (.ref e) (.ref CF)) Q E s := by
  obtain ⟨bm, N, nm, qn, bs, hdct, sn, sub, ab, col, dd, k0, k1, k2, k3, k5, mN, hC, _, _, T⟩ := c1.obj X
  obtain ⟨bm', N', nm', qn', bs', hdct', sn', sub', ab', col', dd', k0', k1', k2', k3', k5', mN', hF, _, _, T'⟩ := c2.obj X
  have z1 : (Value.ref CF :: bm').contains (.type "BaseException") = true := by rw [List.contains_cons, T'.hasType PySem.F.excBase_ValueError.hasBase, Bool.or_true]
  have z2 : (Value.ref C :: bm).contains (.ref CF) = true := by
    have sb : (match K.lookup C with
      | some ⟨_, _, .cls cd, _⟩ => cd.mro.contains (.ref CF)
      | _ => false) = true := sb
    split at sb
    case h_2 => cases sb
    case h_1 cl di cd sl ho =>
      have q := X _ _ ho
      rw [hC] at q
      cases q
      exact sb
  have ft := tc_notTuple
  obtain ⟨h, g, d, t, os⟩ := s
  unfold excMatches
  repeat (first
    | (with_reducible refine wpAny_loadPart_at ge ?_; rw [gc])
    | with_reducible refine wpAny_loadPart_at hF ?_
    | (with_reducible refine wpAny_isSubtype_exc hF ?_; rw [z1])
    | (with_reducible refine wpAny_isSubtype_exc hC ?_; rw [z2])
    | wp_step)
  exact k
end
end L2

namespace L2
open PySem PySem.Spec PyProof.Rows
abbrev XW := Value → Hp → Prop
abbrev XD := St → Value → Hp → Prop
def XE (X : Cx) (pins : List (Addr × Obj)) (σ : St) (Ew : XW) (e : Value) (s' : Shared) : Prop := ∃ H1 s1, Inv X pins σ H1 s1 ∧ CXE X.prog X.w X.stack H1 s1 (fun c _ H' => Ew c H') e s'
def XPs (X : Cx) (pins : List (Addr × Obj)) (Dx : XD) (e : Value) (s' : Shared) : Prop := ∃ σ1, XE X pins σ1 (Dx σ1) e s'
abbrev TEX := St → Hp → VK → XW → Prop
abbrev TSX := Ends → XD → St → Hp → Prop
def PEX (X : Cx) (e : Expr) (t : TEX) : Prop :=
  ∀ (pins : List (Addr × Obj)) (s : Shared) (σ : St) (H : Hp) (Q : VK) (Ew : XW), Inv X pins σ H s → t σ H Q Ew → wpAny (model X.prog X.w) X.A (eval e X.env) (EP X pins σ Q) (XE X pins σ Ew) s
def PSX (X : Cx) (st : Stmt) (t : TSX) : Prop :=
  ∀ (pins : List (Addr × Obj)) (s : Shared) (σ : St) (H : Hp) (D : Ends) (Dx : XD), Inv X pins σ H s → t D Dx σ H → wpAny (model X.prog X.w) X.A (exec st X.env) (SP X pins D) (XPs X pins Dx) s
def PSXs (X : Cx) (st : List Stmt) (t : TSX) : Prop :=
  ∀ (pins : List (Addr × Obj)) (s : Shared) (σ : St) (H : Hp) (D : Ends) (Dx : XD), Inv X pins σ H s → t D Dx σ H → wpAny (model X.prog X.w) X.A (execs st X.env) (SP X pins D) (XPs X pins Dx) s
def Nox (X : Cx) : Prop := ∀ e s, X.xe e s → False
def tCallX (sp : Sp) (t : TA) : TEX := fun σ H Q Ew => t σ H fun vs H1 => sp vs H1 Q fun c _ H' => Ew c H'
def tMethX (C : Addr) (m : Str) (sp : Sp) (ta : TE) (t : TA) : TEX := fun σ H Q Ew => ta σ H fun x H1 => ∃ a dx fs, x = .ref a ∧ H1 a = some (.ins C dx fs) ∧ fs.lookup m = none ∧ t σ H1 fun vs H2 => sp (x :: vs) H2 Q fun c _ H' => Ew c H'
def tDropX (t : TEX) : TSX := fun D Dx σ H => t σ H (fun _ H1 => D.nx σ H1) (Dx σ)
def tIfX (tc : TT) (a b : TSX) : TSX := fun D Dx σ H => tc σ H fun c H1 => if c = true then a D Dx σ H1 else b D Dx σ H1
section
variable {X : Cx} {k : Nat} {f C : Addr} {fd : FuncData} {ps : List Str} {sp : Sp} {x m : Str} {p pos apos : Pos} {e o : Expr} {es : List Expr} {ta : TE} {t : TA}
theorem psx_expr {te : TEX} (he : PEX X e te) (hs : swapsWith e none pos.line X.env = pure false := by rfl) : PSX X (.Expr e pos) (tDropX te) := by
  intro pins s σ H D Dx I h
  exact wpAny_Expr_any (wpAny_mono (he pins s σ H _ _ I h) (fun v s1 ⟨x, H1, I1, r1, q1⟩ => ⟨σ, H1, I1, q1⟩) fun e s' q => ⟨σ, q⟩) I.quiet hs
theorem psxs_one {st : Stmt} {t : TSX} (h1 : PSX X st t) : PSXs X [st] t := by
  intro pins s σ H D Dx I h
  refine wpAny_execs_cons (thn (h1 pins s σ H D Dx I h) fun f s1 q => ?_)
  cases f with
  | next => exact wpAny_execs_nil q
  | ret v => exact q
  | brk => exact q
  | cont => exact q
end
def tTry (K : PySem.W.Frag) (CF : Addr) (i : Nat) (tb : TSX) (ts : Addr → TS) : TS := fun D σ H => tb D (fun σ1 c H' => ∃ C, c = .ref C ∧ XC K C ∧ XSub K C CF ∧ ∀ ea, H' ea = none →
  ts ea { nx := fun σ2 H2 => D.nx (σ2.set i none) H2, rt := D.rt, bk := fun σ2 H2 => D.bk (σ2.set i none) H2, ct := fun σ2 H2 => D.ct (σ2.set i none) H2 } (σ1.set i (some (.ref ea))) (upd H' ea (exO ea C))) σ H
section
variable {X : Cx}
theorem ps_try {x n : Str} {CF : Addr} {i : Nat} {body suite : List Stmt} {b₀ : Stmt} {tb : TSX} {ts : Addr → TS} {np hpos pos : Pos} (hx : Nox X) (hst : X.stack = X.env :: X.outer) (hfr : X.env.frame = some X.env.locals) (hex : X.ex = []) (hN : X.N.Nodup) (hi : X.N[i]? = some n)
    (hk : X.env.scope.names.lookup n = some .local) (hg : Gl X x) (hm : X.mg x = some (.ref CF)) (xf : XC X.K CF) (hb : PSXs X body tb) (hs : ∀ ea, PSs (X.hand (.ref ea)) (b₀ :: suite) (ts ea)) (hdb : (x == ("__debug__" : Str)) = false := by decide) :
    PS X (.Try body [.ExceptHandler (some (.Name x np)) (some n) (b₀ :: suite) hpos] [] [] pos) (tTry X.K CF i tb ts) := by
  intro pins s σ H D I h
  refine wpAny_Try_except (wpAny_mono (hb pins s σ H D _ I h) (fun f s1 q => ?_) fun e s1 q => ?_)
  · cases f with
    | next => exact wpAny_execs_nil q
    | ret v => exact q
    | brk => exact q
    | cont => exact q
  · obtain ⟨σ1, H1, s2, I2, ea, C, T, H', rfl, os, bare, un, hok, fl, n1, n2, t1, t2, C', ec, xc, sb, q⟩ := q
    obtain rfl : C = C' := by cases ec; rfl
    have J : Inv X pins σ1 H' s1 := I2.call' (ch := []) os un hok bare (fun b z => absurd z (by simp))
    have fr : X.A.frames = some (X.env :: X.outer) := by rw [← hst]; exact J.ok.frames
    have ff : s1.heap.FunFrames X.base (X.env :: X.outer) := by rw [← hst]; exact J.stack
    refine st_note fr ff hfr fl fun h2 T1 kb fl2 nT => st_land fl2 fun h3 kb3 fl3 => ?_
    have k3 : KB [T, ea, T1] (frs X.stack) s1.heap h3 := by rw [hst]; exact kb.trans kb3.fs
    have hA : ∀ b ∈ [T, ea, T1], X.s₀.heap.get? b = none ∧ H' b = none ∧ b ≠ X.env.locals ∧ (∀ x c, X.env.cells.lookup x = some c → c ≠ b) ∧ ∀ p ∈ X.pn ++ pins, p.1 ≠ b := fun b hb => by
      simp only [List.mem_cons, List.not_mem_nil, or_false] at hb
      rcases hb with rfl | rfl | rfl
      · exact ⟨I2.alien0 hex n2, t2, I2.alien n2⟩
      · exact ⟨I2.alien0 hex n1, t1, I2.alien n1⟩
      · exact ⟨J.alien0 hex nT, J.hok.alien nT, J.alien nT⟩
    have J3 : Inv X pins σ1 H' { s1 with heap := h3 } := J.fly k3 hA
    have J3h := J3.hand (.ref ea)
    obtain ⟨oe, vs, g1, ⟨g2, _⟩, _⟩ := fl3.ob
    refine wpAny_handleBy_cons (codeAny_handlers_test (ld_glob (X := X.hand (.ref ea)) J3h hg hm (excm_own J3.kIn xc xf sb g1 g2 ?_) hdb)) (by intro z; cases z)
    refine codeAny_handlers_suite_as ?_
    refine st_land fl3 fun h4 kb4 fl4 => ?_
    have J4 : Inv X pins σ1 H' { s1 with heap := h4 } := J3.fly kb4.fs fun b hb => hA b (by simp only [List.mem_cons, List.not_mem_nil, or_false] at hb ⊢; exact .inr (.inr hb))
    obtain ⟨a0, a1, a2, a3, a4⟩ := hA ea (by simp)
    have J5 := (J4.track (o := exO ea C) a1 a0 a2 a3 a4 (exO_ok fl4)).hand (.ref ea)
    refine store_ok (X := X.hand (.ref ea)) (v := V.ref ea) J5 hN hi (.inl hk) (show RelV (V.ref ea) (Value.ref ea) from rfl) (fun s5 J6 => ?_) (.inr hk)
    refine wpAny_mono (hs ea pins s5 _ _ _ J6 (q ea a1)) (fun f s6 q6 => ?_) fun _ _ z => (hx _ _ z).elim
    cases f with
    | next =>
      obtain ⟨σ7, H7, J7, q7⟩ := q6
      exact goes_ok (J7.unhand J.ok) hN hi hk fun s' J8 => ⟨_, H7, J8, q7⟩
    | brk =>
      obtain ⟨σ7, H7, J7, q7⟩ := q6
      exact goes_ok (J7.unhand J.ok) hN hi hk fun s' J8 => ⟨_, H7, J8, q7⟩
    | cont =>
      obtain ⟨σ7, H7, J7, q7⟩ := q6
      exact goes_ok (J7.unhand J.ok) hN hi hk fun s' J8 => ⟨_, H7, J8, q7⟩
    | ret u =>
      obtain ⟨v, σ7, H7, J7, rv, q7⟩ := q6
      exact goes_ok (J7.unhand J.ok) hN hi hk fun s' J8 => ⟨v, _, H7, J8, rv, q7⟩
end
end L2

namespace L2
open PySem PySem.Spec PyProof.Rows
section
variable {prog : Program} {w : World} {A : Around} {E : Value → Shared → Prop} {s : Shared}
end
def ItrH (ea : Addr) (lo : Int) (n : Nat) : It := ⟨fun i _ => i < n, fun i H x H' => H' = H ∧ x = .int (lo + i), fun i H => n ≤ i ∧ ∃ C, H ea = some (exO ea C)⟩
def PIG (G : Cx → Prop) (X : Cx) (tg iter : Expr) (wi : TI) : Prop :=
  ∀ (pins : List (Addr × Obj)) (s : Shared) (σ : St) (H : Hp) (R : It → Hp → Prop), Inv X pins σ H s → wi σ H R →
    wpAny (model X.prog X.w) X.A (eval iter X.env) (fun v s1 => wpAny (model X.prog X.w) X.A (pyIter v) (fun itv s2 => ∃ (it : Addr) (fp : List Addr) (tn : Nat → Heap → Prop) (J : It) (H' : Hp), itv = .ref it ∧ Inv X pins σ H' s2 ∧ TurnX G X.prog X.w X.K tg J fp it tn ∧ tn 0 s2.heap ∧ (∀ b ∈ fp, FpOk X pins H' b) ∧ R J H') X.xe s1) X.xe s
def iRngH (ea : Addr) (ta : TA) : TI := fun σ H R => ta σ H fun vs H1 => ∃ j : Int, vs = [.int j] ∧ -(2 ^ 62) ≤ j ∧ j < 2 ^ 62 ∧ R (ItrH ea 0 j.toNat) H1
section
variable {X : Cx} {tg : Expr}
end
end L2

namespace L2
open PySem PySem.Spec PyProof.Rows PySem.W
structure XA (K : PySem.W.Frag) (C : Addr) : Prop where
  xc : XC K C
  ga : findIn K (.ref C) "__getattribute__" = some (some (.builtin "BaseException.__getattribute__"))
  gt : findIn K (.ref C) "__getattr__" = some none
  cl : findIn K (.ref C) "__class__" = some (some (.builtin "object.__class__"))
  sg : specialIn K (.builtin "object.__class__") "__get__" = some (some (.builtin "getset_descriptor.__get__"))
  tk : takesIn K (.builtin "object.__class__") = some true
  mo : mroIn K C (.type "object") = some true
  cs : (clsIn K C).isSome = true
theorem findObj_data0 {K : Frag} {C : Addr} {name : Str} {a g : Value} (hc : (clsIn K C).isSome = true) (ha : findIn K (.ref C) name = some (some a)) (hg : specialIn K a "__get__" = some (some g)) (ht : takesIn K a = some true) : findObj K C none name = some (.bind g a) := by
  obtain ⟨cd, hc⟩ := Option.isSome_iff_exists.mp hc
  unfold findObj
  rw [hc, Option.bind_some, ha, Option.bind_some]
  simp [hg, ht]
section
variable {prog : Program} {w : World} {A : Around} {E : Value → Shared → Prop} {s : Shared} {K : Frag} {x C : Addr} {ox : Obj}
theorem exc_class {Q : Option Value → Shared → Prop} (X : K.In s.heap) (xa : XA K C) (I : InstAt s.heap x ox C none) (h : Q (some (.ref C)) { s with toks := s.toks + 1 }) : wpAny (model prog w) A (getAttr? (.ref x) "__class__") Q E s := by
  obtain ⟨bm, N, nm, qn, bs, hdct, sn, sub, ab, col, dd, k0, k1, k2, k3, k5, mN, hC, hN, hni, T⟩ := xa.xc.obj X
  obtain ⟨hh, g, d, t, os⟩ := s
  have L0 := I.type (M := model prog w)
  have L1 := looks_findIn (M := model prog w) X xa.ga
  have L2 := looks_findIn (M := model prog w) X xa.gt
  have L3 := looks_find (M := model prog w) X I (findObj_data0 xa.cs xa.cl xa.sg xa.tk)
  have f3 := PySem.F.attr_ValueError.ga.bind (.ref x)
  unfold getAttr? getAttrBy? getAttrBy
  refine wpAny_bind (wpAny_mkText (wpAny_bind (wpAny_attempt (wpAny_holding (wpAny_bind (L0.at (wpAny_bind (L1.at ?_))))))))
  dsimp only
  have b0 : (Value.builtin "BaseException.__getattribute__" == Value.builtin "object.__getattribute__") = false := by decide +kernel
  rw [if_neg (by rw [b0, Bool.and_false]; exact Bool.false_ne_true)]
  unfold getAttrByItsOwn hookBefore
  rw [if_pos (show onTheHeap (Value.ref C) = true from rfl)]
  refine wpAny_bind (L2.at (wpAny_bind (wpAny_attempt (wpAny_holding ?_))))
  unfold callGetattribute
  rw [if_neg (by decide +kernel)]
  unfold boundAndCalled
  refine wpAny_bind (wpAny_of_eq f3 ?_)
  refine wpAny_call (codeAny_call_builtin PySem.F.attr_ValueError.ga.plain PySem.F.entry_bexc_ga ?_)
  have y1 : builtinKind "BaseException.__getattribute__" = some .slot := by decide +kernel
  have y2 : splitId "BaseException.__getattribute__" = some ("BaseException", "__getattribute__") := by decide +kernel
  have y3 : (Value.ref C :: bm).contains (.type "BaseException") = true := by rw [List.contains_cons, T.hasType PySem.F.excBase_ValueError.hasBase, Bool.or_true]
  have y4 := PySem.F.args_bexc_ga (.ref x) (.str "__class__" t)
  have gx := I.at_
  have gc := I.cls
  simp only [checkBuiltinCall, y1, y2]
  refine wpAny_bind ?_
  unfold isInstance
  repeat (first
    | with_reducible refine wpAny_bind (L3.at ?_)
    | with_reducible refine L3.at ?_
    | (with_reducible refine wpAny_loadPart_at gx ?_; rw [gc])
    | (with_reducible refine wpAny_isSubtype_exc hC ?_; rw [y3])
    | wp_step)
  refine class_get (s := ⟨hh, g, d, t + 1, os⟩) (od := none) X I xa.mo ?_
  unfold ret
  refine wpAny_pure ?_
  exact handed_on rfl (wpAny_pure h)
theorem kitx_exc (xa : XA K C) : KitX K (.ref x) (.ref C) (fun h => ∃ ox, InstAt h x ox C none) where
  ty := fun _ _ _ ⟨_, I⟩ => I.type
  it := fun _ _ X _ => by
    obtain ⟨cd, hcd⟩ := Option.isSome_iff_exists.mp xa.cs
    unfold clsIn at hcd
    split at hcd
    case h_1 c' d' cd' sl' ho =>
      intro A' Q' E' s' k q
      unfold isType loadHead
      exact wpAny_bind (wpAny_loadPart (k _ _ (X _ _ ho)) (wpAny_pure q))
    case h_2 => cases hcd
  ne := fun h tp dd its n sl X htp => by
    obtain ⟨cd, hcd⟩ := Option.isSome_iff_exists.mp xa.cs
    refine Bool.eq_false_iff.mpr fun q => ?_
    have e : C = tp := Value.ref.inj (beq_iff_eq.mp q)
    subst e
    unfold clsIn at hcd
    split at hcd
    case h_1 c' d' cd' sl' ho =>
      have z := (X _ _ ho).symm.trans htp
      cases z
    case h_2 => cases hcd
  ca := fun X ⟨_, I⟩ k => exc_class X xa I k
end
def rIsX (K : Frag) : List V → Hp → VK → Prop := fun xs H Q => ∃ (ea C : Addr) (c : V) (b : Bool), xs = [.ref ea, c] ∧ H ea = some (exO ea C) ∧ XA K C ∧ ((∃ CF, c = .ref CF ∧ kitOne K (.ref C) (.ref CF) = some b) ∨ ∃ T, c = .ty T ∧ kitOne K (.ref C) (.type T) = some b) ∧ Q (.bl b) H
theorem call_isX {X : Cx} : CallR X (.builtin "isinstance") (rIsX X.K) := by
  intro pins s σ H xs us Q I r h
  obtain ⟨ea, C, c, b, rfl, he, xa, hc, q⟩ := h
  obtain ⟨u, v, rfl, ru, rv⟩ := vals2 r
  obtain rfl : u = Value.ref ea := ru
  obtain ⟨o, vs, g1, ⟨g2, g3⟩, g4, _⟩ := exO_get I.hok he
  have J : ∃ ox, InstAt s.heap ea ox C none := ⟨o, g1, g2, by unfold notCls; rw [g4], by rw [g3]; trivial⟩
  rcases hc with ⟨CF, rfl, e⟩ | ⟨T, rfl, e⟩
  · obtain rfl : v = Value.ref CF := rv
    exact kia_one (kitx_exc xa) I.kIn J e (fun z => by cases z) fun tk => ⟨.bl b, H, I.tok _, rfl, q⟩
  · obtain rfl : v = Value.type T := rv
    exact kia_one (kitx_exc xa) I.kIn J e (fun z => by cases z) fun tk => ⟨.bl b, H, I.tok _, rfl, q⟩
end L2

namespace L2
open PySem PySem.Spec PyProof.Rows
structure RoomH (ea : Addr) (k : Nat) (A : Around) : Prop where
  hd : A.handled = some (.ref ea)
  dp : A.depth + 3 * k + 5 < recursionLimit
  un : A.units + 16 * k + 200 < cLine
structure FnOkH (P : Program) (w : World) (K : PySem.W.Frag) (mg : Str → Option Value) (base : Heap) (k : Nat) (f : Addr) (fd : FuncData) (ps : List Str) (sp : Addr → Sp) : Prop where
  len : ∀ ea vs H Q E, sp ea vs H Q E → vs.length = ps.length
  run : ∀ (ea : Addr) (A : Around) (outer : List Env) (s : Shared) (H : Hp) (args : Args) (us : List Value) (vs : List V) (Q : VK), RoomH ea k A → Env0 P w K mg base A outer s H → BindsTo s fd args (ps.zip us) → Vals vs us → sp ea vs H Q E0 →
    codeAny (model P w) A (.call (.ref f) args) (CR CX0 outer P w H s Q E0) s
structure DefOkH (P : Program) (w : World) (K : PySem.W.Frag) (mg : Str → Option Value) (base : Heap) (k : Nat) (x : Str) (ps : List Str) (sp : Addr → Sp) : Prop where
  ex : ∃ (f : Addr) (fd : FuncData), FnOkH P w K mg base k f fd ps sp ∧ Binds K fd ps [] ∧ PySem.W.keepIn K (.ref f) = true ∧ mg x = some (.ref f)
def tCallH (ea : Addr) (sp : Addr → Sp) (t : TA) : TE := fun σ H Q => t σ H fun vs H1 => sp ea vs H1 Q E0
section
variable {X : Cx} {k : Nat} {x : Str} {ps : List Str} {p pos : Pos} {e : Expr} {es : List Expr} {t : TA}
end
def cxH (P : Program) (w : World) (K : PySem.W.Frag) (mg : Str → Option Value) (base : Heap) (N : List Str) (qual : Str) (scope : Scope) (f : Addr) (cd : Value) (A : Around) (outer : List Env) (s : Shared) (H : Hp) : Cx :=
  { cxOf CX0 P w K mg base N qual scope f cd { A with handled := none } outer s H E0 with A := A.deeper (envOfC qual scope s.heap.objs.size f cd), calm := false, xe := fun _ _ => False }
section
variable {X : Cx} {sc : Scope} {own : List Str} {fr : List Nat} {N' : List Str} {tg elt iter : Expr} {ifs : List Expr} {g : TG} {tt : TT} {te : TE} {wi : TI} {pos : Pos} {G : Cx → Prop}
end
section
variable {X : Cx}
theorem qps_try {x n : Str} {CF : Addr} {i : Nat} {body suite : List Stmt} {b₀ : Stmt} {tb : TSX} {ts : Addr → TS} {np hpos pos : Pos} (hx : Nox X) (hst : X.stack = X.env :: X.outer) (hfr : X.env.frame = some X.env.locals) (hex : X.ex = []) (hN : X.N.Nodup) (hi : X.N[i]? = some n)
    (hk : X.env.scope.names.lookup n = some .local) (hg : Gl X x) (hm : X.mg x = some (.ref CF)) (xf : XC X.K CF) (hb : PSXs X body tb) (hs : ∀ ea, Pr (PSs (X.hand (.ref ea)) (b₀ :: suite) (ts ea))) (hdb : (x == ("__debug__" : Str)) = false := by decide) :
    Pr (PS X (.Try body [.ExceptHandler (some (.Name x np)) (some n) (b₀ :: suite) hpos] [] [] pos) (tTry X.K CF i tb ts)) := ⟨ps_try hx hst hfr hex hN hi hk hg hm xf hb (fun ea => (hs ea).h) hdb⟩
end
end L2

namespace L2
open PySem PySem.Spec PyProof.Rows PySem.SeqAt
section
variable {X : Cx}
end
def Itv (K : PySem.W.Frag) (a : Addr) (xs : List V) : It :=
  ⟨fun i H => SqL K H a xs ∧ i < xs.length, fun i H x H' => H' = H ∧ xs.reverse[i]? = some x, fun i H => SqL K H a xs ∧ xs.length ≤ i⟩
section
variable {X : Cx} {tg : Expr}
def iRev (K : PySem.W.Frag) (ta : TA) : TI := fun σ H R => ta σ H fun vs H1 => ∃ a xs, vs = [.ref a] ∧ SqL K H1 a xs ∧ R (Itv K a xs) H1
end
def Eq0 (x y : V) : Prop := x = y ∧ ((∃ i, x = .int i) ∨ ∃ a, x = .ref a)
def Eq1 (H : Hp) (x y : V) : Prop := ∃ (p q : Addr) (zs : List V), x = .ref p ∧ y = .ref q ∧ p ≠ q ∧ H p = some (.lst zs) ∧ H q = some (.lst zs) ∧ ∀ z ∈ zs, Eq0 z z
section
variable {X : Cx}
def rNeL : R2 := fun x y H Q => ∃ (a b : Addr) (xs ys : List V), x = .ref a ∧ y = .ref b ∧ H a = some (.lst xs) ∧ H b = some (.lst ys) ∧ xs.length = ys.length ∧ (∀ (i : Nat) (x y : V), xs[i]? = some x → ys[i]? = some y → Eq1 H x y) ∧ Q (.bl false) H
end
end L2

namespace L2
open PySem PySem.Spec PyProof.Rows PySem.SeqAt
def Sca (x : V) : Prop := (∃ i, x = .int i) ∨ ∃ t, x = .str t
structure ScaL (xs : List V) : Prop where
  h : ∀ z ∈ xs, Sca z
theorem dec_beq {α : Type} [BEq α] [LawfulBEq α] [DecidableEq α] (a b : α) : (a == b) = decide (a = b) := by
  by_cases h : a = b
  · subst h; simp
  · rw [decide_eq_false h]; exact beq_eq_false_iff_ne.mpr h
theorem sca_at {A : Around} {s : Shared} {x y : V} {u v : Value} (hx : Sca x) (hy : Sca y) (ru : RelV x u) (rv : RelV y v) : EqAt A s u v (decide (x = y)) := by
  rcases hx with ⟨i, rfl⟩ | ⟨i, rfl⟩ <;> rcases hy with ⟨j, rfl⟩ | ⟨j, rfl⟩ <;> obtain ⟨t, rfl⟩ := ru <;> obtain ⟨t', rfl⟩ := rv
  · have := EqAt.int_int (A := A) (s := s) i t j t'
    rw [dec_beq] at this
    rwa [show decide (V.int i = V.int j) = decide (i = j) from by by_cases h : i = j <;> simp [h]]
  · rw [show decide (V.int i = V.str j) = false from by simp]
    exact EqAt.int_str i t j t'
  · rw [show decide (V.str i = V.int j) = false from by simp]
    exact EqAt.str_int i t j t'
  · have := EqAt.str_str (A := A) (s := s) i t j t'
    rw [show decide (V.str i = V.str j) = (i == j) from by
      by_cases h : i = j
      · subst h; simp
      · rw [decide_eq_false (fun z => h (V.str.inj z))]; exact (beq_eq_false_iff_ne.mpr h).symm]
    exact this
theorem all_at {xs ys : List V} : ((List.range (min xs.length ys.length)).all (fun j => decide (xs[j]? = ys[j]?)) && xs.length == ys.length) = decide (xs = ys) := by
  by_cases h : xs = ys
  · subst h
    simp
  · rw [decide_eq_false h]
    by_cases hl : xs.length = ys.length
    · rw [Bool.and_eq_false_iff]
      refine .inl ?_
      rw [List.all_eq_false]
      refine Classical.byContradiction fun z => h (List.ext_getElem? fun j => ?_)
      by_cases hj : j < xs.length
      · refine Classical.byContradiction fun y => z ⟨j, List.mem_range.mpr (by omega), by simpa using y⟩
      · rw [List.getElem?_eq_none (by omega), List.getElem?_eq_none (by omega)]
    · rw [Bool.and_eq_false_iff]
      exact .inr (beq_eq_false_iff_ne.mpr hl)
theorem sca_pair {A : Around} {s : Shared} {xs ys : List V} {us vs : List Value} (hx : ScaL xs) (hy : ScaL ys) (ru : Vals xs us) (rv : Vals ys vs) (j : Nat) (h1 : j < us.toArray.size) (h2 : j < vs.toArray.size) :
    EqAt A s us.toArray[j] vs.toArray[j] (decide (xs[j]? = ys[j]?)) := by
  have l1 := ru.length
  have l2 := rv.length
  have h1' : j < us.length := by simpa using h1
  have h2' : j < vs.length := by simpa using h2
  have gx : xs[j]? = some (xs[j]'(by omega)) := List.getElem?_eq_getElem (by omega)
  have gy : ys[j]? = some (ys[j]'(by omega)) := List.getElem?_eq_getElem (by omega)
  obtain ⟨w1, hw1, r1⟩ := ru.get gx
  obtain ⟨w2, hw2, r2⟩ := rv.get gy
  have k1 : us.toArray[j] = w1 := by
    have := List.getElem?_eq_getElem h1'
    rw [hw1] at this
    simpa using (Option.some.inj this).symm
  have k2 : vs.toArray[j] = w2 := by
    have := List.getElem?_eq_getElem h2'
    rw [hw2] at this
    simpa using (Option.some.inj this).symm
  rw [k1, k2, gx, gy]
  have e : decide (some (xs[j]'(by omega)) = some (ys[j]'(by omega))) = decide (xs[j]'(by omega) = ys[j]'(by omega)) := by
    by_cases h : (xs[j]'(by omega)) = (ys[j]'(by omega)) <;> simp [h]
  rw [e]
  exact sca_at (hx.h _ (List.getElem_mem _)) (hy.h _ (List.getElem_mem _)) r1 r2
section
variable {X : Cx}
def rEqT : R2 := fun x y H Q => ∃ (a b : Addr) (xs ys : List V), x = .ref a ∧ y = .ref b ∧ H a = some (.tup xs) ∧ H b = some (.tup ys) ∧ ScaL xs ∧ ScaL ys ∧ Q (.bl (decide (xs = ys))) H
def rNeT : R2 := fun x y H Q => ∃ (a b : Addr) (xs ys : List V), x = .ref a ∧ y = .ref b ∧ H a = some (.tup xs) ∧ H b = some (.tup ys) ∧ ScaL xs ∧ ScaL ys ∧ Q (.bl (!decide (xs = ys))) H
theorem op_eqT (hu : X.A.units + 64 < cLine) : OpR X (compareOp .Eq) rEqT := by
  intro pins s σ H x y v u Q I rx ry h
  obtain ⟨a, b, xs, ys, rfl, rfl, ha, hb, hx, hy, q⟩ := h
  cases rx
  cases ry
  obtain ⟨z, its, rv, t1⟩ := I.hok a _ ha
  obtain ⟨z2, its2, rv2, t2⟩ := I.hok b _ hb
  have key := RcAt.tuples (A := X.A) (s := s) t1 t2 (by omega) (sca_pair hx hy rv rv2)
  have e : ((List.range (min its.toArray.size its2.toArray.size)).all (fun j => decide (xs[j]? = ys[j]?)) && its.toArray.size == its2.toArray.size) = decide (xs = ys) := by
    rw [← all_at, List.size_toArray, List.size_toArray, ← rv.length, ← rv2.length]
  rw [e] at key
  exact key X.prog X.w X.xe _ ⟨.bl _, H, I, rfl, q⟩
def rEqS : R2 := fun x y H Q => ∃ (a b : Addr) (xs ys : List V), x = .ref a ∧ y = .ref b ∧ H a = some (.lst xs) ∧ H b = some (.lst ys) ∧ ScaL xs ∧ ScaL ys ∧ Q (.bl (decide (xs = ys))) H
def rNeS : R2 := fun x y H Q => ∃ (a b : Addr) (xs ys : List V), x = .ref a ∧ y = .ref b ∧ H a = some (.lst xs) ∧ H b = some (.lst ys) ∧ ScaL xs ∧ ScaL ys ∧ Q (.bl (!decide (xs = ys))) H
def rInN : R2 := fun x y H Q => ∃ (b : Addr) (ys : List V), x = .non ∧ y = .ref b ∧ H b = some (.lst ys) ∧ (∀ z ∈ ys, ∃ p, z = .ref p ∧ ((∃ zs, H p = some (.lst zs)) ∨ ∃ zs, H p = some (.tup zs))) ∧ Q (.bl false) H
end
end L2


namespace L2
open PySem PySem.W PyProof.Rows
structure Pm (n : Nat) (p : Array Nat) : Prop where
  perm : p.toList.Perm (List.range n)
section
variable {n : Nat} {L : Nat → Nat → Prop} [DecidableRel L] {cmp : Nat → Nat → (Bool → Shared → Prop) → Shared → Prop} {s : Shared}
def lR (L : Nat → Nat → Prop) (p : Array Nat) (i j : Nat) : Prop := L (p.getD i 0) (p.getD j 0)
instance lR_dec (p : Array Nat) (i j : Nat) : Decidable (lR L p i j) := inferInstanceAs (Decidable (L (p.getD i 0) (p.getD j 0)))
def Up (L : Nat → Nat → Prop) (p : Array Nat) (m : Nat) : Prop := ∀ i j, i < j → j < m → lR L p i j
def Dn (L : Nat → Nat → Prop) (p : Array Nat) (m : Nat) : Prop := ∀ i j, i < j → j < m → lR L p j i
structure Ord (n : Nat) (L : Nat → Nat → Prop) [DecidableRel L] (cmp : Nat → Nat → (Bool → Shared → Prop) → Shared → Prop) (s : Shared) : Prop where
  tr : ∀ {i j k}, L i j → L j k → L i k
  tot : ∀ i j, i < n → j < n → i ≠ j → ¬ L i j → L j i
  ask : ∀ i j C, i < n → j < n → C (decide (L i j)) s → cmp i j C s
end
end L2

namespace L2
open PySem PySem.W PyProof.Rows PySem.Calls
def KeptBut (a : Addr) (h h' : Heap) : Prop := ∀ b o, b ≠ a → h.get? b = some o → h'.get? b = some o
section
variable {prog : Program} {w : World} {A : Around} {E : Value → Shared → Prop} {s : Shared} {a : Addr} {vs : List Value} {κ : SortKind} {L : Nat → Nat → Prop} [DecidableRel L]
end
end L2

namespace L2
open PySem PySem.W PyProof.Rows PySem.SeqAt
def kLt : Key → Key → Prop
  | .inl a, .inl b => a < b
  | .inr x, .inr y => x.cps.toList < y.cps.toList
  | _, _ => False
instance kLt_dec : (a b : Key) → Decidable (kLt a b)
  | .inl a, .inl b => inferInstanceAs (Decidable (a < b))
  | .inr x, .inr y => inferInstanceAs (Decidable (x.cps.toList < y.cps.toList))
  | .inl _, .inr _ => isFalse id
  | .inr _, .inl _ => isFalse id
def kLex : List Key → List Key → Prop
  | k :: ks, k' :: ks' => if k = k' then kLex ks ks' else kLt k k'
  | _, _ => False
instance kLex_dec : (a b : List Key) → Decidable (kLex a b)
  | k :: ks, k' :: ks' => by
    unfold kLex
    by_cases h : k = k'
    · rw [if_pos h]; exact kLex_dec ks ks'
    · rw [if_neg h]; exact kLt_dec k k'
  | [], [] => isFalse id
  | [], _ :: _ => isFalse id
  | _ :: _, [] => isFalse id
section
variable {prog : Program} {w : World} {A : Around} {E : Value → Shared → Prop} {s : Shared}
end
end L2

namespace L2
open PySem PySem.W PyProof.Rows
structure DAt (h : Heap) (d : Addr) (es : Array DictEntry) (ep : Nat) : Prop where
  ex : ∃ o, h.get? d = some o ∧ o.ExactDict ∧ o.data = .dict es ep
def kitO (d : Addr) (i n ep : Nat) : Obj := { cls := .type "dict_keyiterator", data := .fields #[.ref d, .int i 0, .int n 0, .int ep 0] }
section
variable {prog : Program} {w : World} {A : Around} {E : Value → Shared → Prop} {s : Shared} {d it : Addr} {es : Array DictEntry} {ep i : Nat}
end
section
variable {prog : Program} {w : World} {A : Around} {R : Result → Shared → Prop} {d it S : Addr} {es : Array DictEntry} {ep : Nat}
end
end L2

namespace L2
open PySem PySem.W PyProof.Rows
section
variable {prog : Program} {w : World} {A : Around} {E : Value → Shared → Prop} {s : Shared} {d : Addr} {es : Array DictEntry} {ep : Nat}
end
end L2

namespace L2
open PySem PySem.W PyProof.Rows
def TKey (h : Heap) (k : List Key) (v : Value) : Prop := ∃ (p : Addr) (us : List Value), v = .ref p ∧ h.IsTuple p us.toArray ∧ Vals (k.map kV) us
abbrev TKs (h : Heap) : List (List Key) → List Value → Prop := Paired (TKey h)
theorem paired_get {Φ : List Key → Value → Prop} : ∀ {ks : List (List Key)} {vs : List Value} {i : Nat} {k : List Key}, Paired Φ ks vs → ks[i]? = some k → ∃ v, vs[i]? = some v ∧ Φ k v
  | _, _, _, _, .nil, e => by simp at e
  | _, _, 0, _, .cons r _, e => by simp at e; subst e; exact ⟨_, rfl, r⟩
  | _, _, i + 1, _, .cons _ t, e => by
    obtain ⟨v, a, b⟩ := paired_get t (i := i) (by simpa using e)
    exact ⟨v, by simpa using a, b⟩
section
variable {prog : Program} {w : World} {A : Around} {E : Value → Shared → Prop} {s : Shared} {a : Addr} {vs : List Value} {ks : List (List Key)} {g : Heap}
end
end L2

namespace L2
open PySem PySem.W PyProof.Rows PySem.Calls
section
variable {prog : Program} {w : World} {A : Around} {E : Value → Shared → Prop} {s : Shared} {a : Addr} {vs : List Value}
end
section
variable {X : Cx}
def rSrtT : List V → Hp → VK → Prop := fun xs H Q => ∃ (a : Addr) (kvs : List (List Key × V)) (b0 : Bool) (t0 : List Bool), xs = [.ref a] ∧ H a = some (.dT kvs) ∧ kvs.length < 64 ∧ (∀ p ∈ kvs, p.1.map Sum.isLeft = b0 :: t0) ∧
  ∀ (D : Addr) (ks : List (List Key)) (ps : List Addr), H D = none → ks.Perm (kvs.map (·.1)) → ks.Pairwise kLex → Paired (fun k p => H p = some (.tup (k.map kV))) ks ps → Q (.ref D) (upd H D (.lst (ps.map V.ref)))
theorem paired_refs {H : Hp} : ∀ {ks : List (List Key)} {vs : List Value}, Paired (fun k v => ∃ p, v = Value.ref p ∧ H p = some (.tup (k.map kV))) ks vs → ∃ ps : List Addr, vs = ps.map Value.ref ∧ Vals (ps.map V.ref) vs ∧ Paired (fun k p => H p = some (.tup (k.map kV))) ks ps
  | _, _, .nil => ⟨[], rfl, .nil, .nil⟩
  | _, _, .cons ⟨p, e, hp⟩ t => by
    obtain ⟨ps, e1, e2, e3⟩ := paired_refs t
    subst e
    exact ⟨p :: ps, by simp [e1], .cons rfl e2, .cons hp e3⟩
end
end L2

namespace L2
open PySem PySem.W PyProof.Rows
section
variable {prog : Program} {w : World} {K : Type} [DecidableEq K] {knd : HeapKind prog w K} {A : Around} {E : Value → Shared → Prop} {s : Shared}
end
section
variable {X : Cx} {pins : List (Addr × Obj)} {σ : St} {H : Hp} {s : Shared} {A : Around} {E : Value → Shared → Prop}
end
def tDSetD (td ty tx : TE) : TE := fun σ H Q => td σ H fun x H1 => ∃ a, x = .ref a ∧ IsD H1 a ∧ ty σ H1 fun y H2 => tx σ H2 fun z H3 => ∃ b kvs k, H3 a = some (.dT kvs) ∧ y = .ref b ∧ H3 b = some (.tup (k.map kV)) ∧ kvs.length < sizeLine ∧
  (∀ v, valV kvs k = some v → Q v H3) ∧ (valV kvs k = none → Q z (upd H3 a (.dT (putK kvs k z))))
section
variable {X : Cx} {o e f : Expr} {apos cpos : Pos} {td ty tx : TE}
theorem qpe_dgetT {i : Expr} {pos : Pos} (hu : X.A.units + 1 < cLine) (ho : Pr (PE X o td)) (hi : Pr (PE X i ty)) (hs : NoSl i) : Pr (PE X (.Subscript o i pos) (tDGet td ty)) := ⟨pe_dget hu ho.h hi.h hs⟩
theorem qps_dput {i value : Expr} {tv : TE} {pos pos' : Pos} (hu : X.A.units + 1 < cLine) (ho : Pr (PE X o td)) (hi : Pr (PE X i ty)) (hv : Pr (PE X value tv)) (hs : swapsWith value (some (.Subscript o i pos')) pos.line X.env = pure false) :
    Pr (PS X (.Assign [.Subscript o i pos'] value pos) (sDPut td ty tv)) := ⟨ps_dput hu ho.h hi.h hv.h hs⟩
theorem qpe_pop (ho : Pr (PE X o td)) (hbase : attributeBase o "pop" X.env (eval o X.env) = eval o X.env := by rfl) (hline : (apos.endLine == cpos.line) = true := by rfl) : Pr (PE X (.Call (.Attribute o "pop" apos) [] [] cpos) (tBM0 X.K "list" rPop td)) :=
  ⟨pe_bm0 PySem.F.plainAttrs_list PySem.F.slot_list_pop PySem.F.type_list_pop mt_pop ho.h hbase hline⟩
end
end L2

namespace L2
open PySem PySem.W PyProof.Rows
def sqO (k : SK) (xs : List V) : HO := match k with
  | .list => .lst xs
  | .tuple => .tup xs
def ItK (K : PySem.W.Frag) (k : SK) (a : Addr) : It := match k with
  | .list => Itl K a
  | .tuple => Itt K a
def iSq (K : PySem.W.Frag) (k : SK) (tl : TE) : TI := fun σ H R => tl σ H fun x H1 => ∃ a, x = .ref a ∧ (∃ xs, Sq k K H1 a xs) ∧ R (ItK K k a) H1
section
variable {X : Cx} {tg l : Expr}
theorem qpi_sqK (K : PySem.W.Frag) (hK : X.K = K) (k : SK) {tl : TE} (hl : Pr (PE X l tl)) : Pr (PI X tg l (iSq K k tl)) := by
  cases k with
  | list => exact qpi_listK K hK hl
  | tuple => exact qpi_tupK K hK hl
end
theorem comp_sq {K : PySem.W.Frag} {k : SK} {a : Addr} (xs : List V) {g : TG} {tt : TT} {te : TE} {Q : List V → Hp → Prop} {σ : St} {H : Hp} (Pv : Nat → List V → St → Hp → Prop) (hn : xs.length < sizeLine) (h0 : Pv 0 [] σ H) (hl : ∀ i ys σ H, i ≤ xs.length → Pv i ys σ H → ys.length ≤ i ∧ Sq k K H a xs)
    (turn : ∀ i ys σ H x, xs[i]? = some x → Pv i ys σ H → g x σ H fun σ2 H2 => tt σ2 H2 fun b H3 => if b = true then te σ2 H3 fun y H4 => Pv (i + 1) (ys ++ [y]) σ2 H4 else Pv (i + 1) ys σ2 H3)
    (after : ∀ ys σ H, Pv xs.length ys σ H → Q ys H) : Comp (ItK K k a) g tt te Q σ H := by
  cases k with
  | list => exact comp_list xs Pv hn h0 hl turn after
  | tuple => exact comp_tup xs Pv hn h0 hl turn after
theorem while_at {c : TT} {tb : TS} {D : Ends} {σ : St} {H : Hp} (W : Nat → St → Hp → Prop) (h0 : ∃ m, W m σ H)
    (hs : ∀ m σ H, W m σ H → c σ H fun b H1 => if b = true then tb { D with nx := fun σ' H' => ∃ m', m' < m ∧ W m' σ' H', ct := fun σ' H' => ∃ m', m' < m ∧ W m' σ' H', bk := D.nx } σ H1 else D.nx σ H1)
    (mono : ∀ σ H Q Q', (∀ b H1, Q b H1 → Q' b H1) → c σ H Q → c σ H Q') : tWhile c tb D σ H := by
  refine ⟨W, h0, fun m σ H p => mono σ H _ _ (fun b H1 q => ?_) (hs m σ H p)⟩
  cases b with
  | true => exact ⟨_, fun σ' H' z => z, q⟩
  | false => exact q
theorem callK_tuple_of {X : Cx} (K : PySem.W.Frag) (hK : X.K = K) : CallR X (.type "tuple") (fun xs H Q => ∃ p ys, xs = [V.ref p] ∧ ((SqL K H p ys ∧ ∀ (l : Addr), H l = none → Q (V.ref l) (upd H l (HO.tup ys))) ∨ SqT K H p ys ∧ Q (V.ref p) H)) := by subst hK; exact call_tuple_of
end L2

namespace L2
open PySem PySem.Spec PyProof.Rows PySem.SeqAt
section
variable {prog : Program} {w : World} {A : Around} {E : Value → Shared → Prop} {s : Shared} {I : Addr} {fp wr : List Addr} {G : Array GenState → Array GenState → Prop} {n : Nat} {P : Nat → Value → Prop} {St : Nat → Shared → Prop}
end
section
variable {X : Cx}
def tTR (K : PySem.W.Frag) (ta : TA) : TE := fun σ H Q => ta σ H fun vs H1 => ∃ a xs, vs = [.ref a] ∧ SqL K H1 a xs ∧ ∀ D, H1 D = none → Q (.ref D) (upd H1 D (.tup xs.reverse))
def SameL (H : Hp) (u v : Addr) : Prop := u ≠ v ∧ ∃ ps : List Addr, H u = some (.lst (ps.map V.ref)) ∧ H v = some (.lst (ps.map V.ref))
def rNeW : R2 := fun x y H Q => ∃ (a b : Addr) (us vs : List Addr), x = .ref a ∧ y = .ref b ∧ H a = some (.tup (us.map V.ref)) ∧ H b = some (.tup (vs.map V.ref)) ∧ Paired (SameL H) us vs ∧ Q (.bl false) H
theorem paired_at {α β : Type} {R : α → β → Prop} : ∀ {xs : List α} {ys : List β}, Paired R xs ys → ∀ (j : Nat) (h1 : j < xs.length) (h2 : j < ys.length), R xs[j] ys[j]
  | _, _, .nil, j, h1, _ => absurd h1 (Nat.not_lt_zero _)
  | _, _, .cons a t, 0, _, _ => a
  | _, _, .cons a t, j + 1, h1, h2 => by
    have := paired_at t j (by simpa using h1) (by simpa using h2)
    simpa using this
end
end L2

namespace L2
open PySem PySem.Spec PyProof.Rows PySem.SeqAt
section
variable {X : Cx}
def Pl (x : V) : Prop := (∃ i, x = .int i) ∨ ∃ p, x = .ref p
def EqD (H : Hp) (x y : V) : Prop := (x = y ∧ Pl x) ∨ ∃ u v zs, x = .ref u ∧ y = .ref v ∧ H u = some (.tup zs) ∧ H v = some (.tup zs) ∧ ∀ z ∈ zs, Pl z
def rNeD : R2 := fun x y H Q => ∃ (a b : Addr) (xs ys : List V), x = .ref a ∧ y = .ref b ∧ H a = some (.tup xs) ∧ H b = some (.tup ys) ∧ Paired (EqD H) xs ys ∧ Q (.bl false) H
theorem qpe_din {i o : Expr} {ty td : TE} {pos : Pos} (hu : X.A.units + 1 < cLine) (hi : Pr (PE X i ty)) (ho : Pr (PE X o td)) (h1 : behindInMarks .In o = false := by rfl) : Pr (PE X (.Compare i [.In] [o] pos) (tDIn ty td)) := ⟨pe_cmp (pc_din hu hi.h ho.h) h1⟩
end
theorem dgetS_some {H : Hp} {a : Addr} {kvs : List (Key × V)} {x : Str} {v : V} (e : H a = some (.dK kvs)) (h : valV kvs (.inr x) = some v) : DGet H a (.str x) (some v) := h ▸ DGet.k (k := .inr x) e
theorem dgetI_some {H : Hp} {a : Addr} {kvs : List (Key × V)} {i : Int} {v : V} (e : H a = some (.dK kvs)) (h : valV kvs (.inl i) = some v) : DGet H a (.int i) (some v) := h ▸ DGet.k (k := .inl i) e
theorem dputI {H : Hp} {a : Addr} {kvs : List (Key × V)} {i : Int} {v : V} (e : H a = some (.dK kvs)) (hl : kvs.length < sizeLine) : DPut H a (.int i) v (upd H a (.dK (putK kvs (.inl i) v))) := DPut.k (k := .inl i) e hl
end L2

namespace L2
open PySem PySem.Spec PyProof.Rows
def aIxQ (K : PySem.W.Frag) : R2 := fun x y H Q => ∃ p xs i, x = .ref p ∧ y = .int i ∧ (SqL K H p xs ∨ SqT K H p xs) ∧ Atx xs i fun v => Q v H
theorem ixaK_sq {X : Cx} (K : PySem.W.Frag) (hK : X.K = K) : IxR X (aIxQ K) := by
  subst hK
  intro value slice pins s σ H x y u w Q I rx ry h
  obtain ⟨p, xs, i, e1, e2, hs, a⟩ := h
  rcases hs with hs | hs
  · exact ixa_list value slice pins s σ H x y u w Q I rx ry ⟨p, xs, i, e1, e2, hs, a⟩
  · exact ixa_tup value slice pins s σ H x y u w Q I rx ry ⟨p, xs, i, e1, e2, hs, a⟩
theorem callK_list_of {X : Cx} (K : PySem.W.Frag) (hK : X.K = K) : CallR X (.type "list") (fun xs H Q => ∃ p ys, xs = [V.ref p] ∧ (SqL K H p ys ∨ SqT K H p ys) ∧ ∀ (l : Addr), H l = none → Q (V.ref l) (upd H l (HO.lst ys))) := by subst hK; exact call_list_of
def rInsert : V → List V → Hp → VK → Prop := fun x vs H Q => ∃ (l : Addr) (xs : List V) (i : Int) (y : V), x = .ref l ∧ vs = [.int i, y] ∧ H l = some (.lst xs) ∧ 0 ≤ i ∧ i ≤ xs.length ∧ xs.length < 1000 ∧ Q .non (upd H l (.lst (xs.take i.toNat ++ y :: xs.drop i.toNat)))
theorem vals_take {xs : List V} {us : List Value} (r : Vals xs us) : ∀ n : Nat, Vals (xs.take n) (us.take n) ∧ Vals (xs.drop n) (us.drop n) := by
  induction r with
  | nil => intro n; cases n <;> exact ⟨.nil, .nil⟩
  | cons a t ih =>
    intro n
    cases n with
    | zero => exact ⟨.nil, .cons a t⟩
    | succ n => exact ⟨.cons a (ih n).1, (ih n).2⟩
theorem mt_insert {X : Cx} : MtM X "list.insert" rInsert := by
  intro pins s σ H x vs v us Q I rx rv h
  obtain ⟨l, xs, x, y, rfl, rfl, hH, hi0, hi, hz, q⟩ := h
  cases rx
  obtain ⟨u, w, rfl, ru, rw'⟩ := vals2 rv
  obtain ⟨t, rfl⟩ := ru
  obtain ⟨z, its, n, r, hl, e⟩ := I.lstM hH
  have ne : ¬ (x < 0) := by omega
  have e2 : x ≤ 1000 := by omega
  obtain ⟨i, e1⟩ : ∃ i : Nat, x.toNat = i := ⟨_, rfl⟩
  rw [e1] at q
  have hf : ¬(!Builtin.List.listFitsIndex x) = true := by
    have : Builtin.List.listFitsIndex x = true := by
      unfold Builtin.List.listFitsIndex
      rw [Bool.and_eq_true, decide_eq_true_eq, decide_eq_true_eq]
      exact ⟨by omega, by omega⟩
    rw [this]
    exact Bool.false_ne_true
  have hz2 : its.toArray.size ≤ sizeLine := by rw [List.size_toArray, ← hl]; exact z
  have mn : min x.toNat its.toArray.size = i := by rw [List.size_toArray, e1]; omega
  refine call_meets PySem.F.slot_list_insert ⟨_, e, rfl⟩ PySem.F.entry_list_insert (PySem.F.args_list_insert_3 _ _ _) (PySem.AutoSeq1.list_insert_list_int_val_1 l its.toArray n x t w hf hz2) ⟨e, ?_⟩
  refine ⟨.non, _, I.lset (its' := its.take i ++ w :: its.drop i) hH e ?_ ((vals_take r i).1.append (.cons rw' (vals_take r i).2)) ?_, rfl, q⟩
  · show (its.toArray.extract 0 (if x < 0 then (x + (its.toArray.size : Int)).toNat else min x.toNat its.toArray.size)).push w ++ its.toArray.extract (if x < 0 then (x + (its.toArray.size : Int)).toNat else min x.toNat its.toArray.size) = _
    rw [if_neg ne, mn, PySem.W.kl_ins_eq]
  · rw [List.length_append, List.length_cons, List.length_take, List.length_drop, sizeLine_eq]
    omega
def rIndex : V → List V → Hp → VK → Prop := fun x vs H Q => ∃ (l : Addr) (ns : List Nat) (k : Int) (j : Nat), x = .ref l ∧ vs = [.int k] ∧ H l = some (.lst (ns.map fun n : Nat => V.int (n : Int))) ∧ 0 ≤ k ∧ ns.idxOf? k.toNat = some j ∧ ns.length < 1000 ∧ Q (.int (j : Int)) H
theorem kf_of : ∀ {ms : List Nat} {us : List Value}, Vals (ms.map fun n : Nat => V.int (n : Int)) us → PySem.W.kf_ints us = true
  | [], _, .nil => rfl
  | b :: ms, _, .cons rb rt => by obtain ⟨tb, rfl⟩ := rb; have := kf_of rt; exact this
theorem mt_index {X : Cx} : MtM X "list.index" rIndex := by
  intro pins s σ H x vs v us Q I rx rv h
  obtain ⟨l, ns, k, j, rfl, rfl, hH, hk0, hj, hz, q⟩ := h
  obtain ⟨k, rfl⟩ := Int.eq_ofNat_of_zero_le hk0
  rw [Int.toNat_natCast] at hj
  cases rx
  obtain ⟨u, rfl, ru⟩ := rv.one
  obtain ⟨t, rfl⟩ := ru
  obtain ⟨z, its, n, r, hl, e⟩ := I.lstM hH
  have hk : ∀ {ns : List Nat} {its : List Value} {j : Nat}, Vals (ns.map fun n : Nat => V.int (n : Int)) its → ns.idxOf? k = some j → PySem.W.kf_ints its = true ∧ PySem.W.kf_at (k : Int) its = some j := by
    intro ns
    induction ns with
    | nil => intro its j _ h; cases h
    | cons a ns ih =>
      intro its j r h
      cases r with
      | cons ra rt =>
        obtain ⟨ta, rfl⟩ := ra
        have h0 := kf_of rt
        refine ⟨h0, ?_⟩
        rw [List.idxOf?_cons] at h
        unfold PySem.W.kf_at
        by_cases ea : a = k
        · subst ea
          simp at h
          subst h
          have : isInt (a : Int) (Value.int (a : Int) ta) = true := by unfold isInt; simp
          rw [this]; rfl
        · have ne : (a == k) = false := by simpa using ea
          rw [ne] at h
          simp at h
          obtain ⟨j', hj', rfl⟩ := h
          have : isInt (k : Int) (Value.int (a : Int) ta) = false := by unfold isInt; simp; omega
          rw [this, (ih rt hj').2]; rfl
  obtain ⟨h1, h2⟩ := hk r hj
  obtain ⟨a, b, c⟩ := PySem.W.kf_at_spec h2
  have ll : its.length < 1000 := by rw [← hl, List.length_map]; exact hz
  have hj2 : j < its.length := by simpa using a
  have hj63 : (j : Int) < 2 ^ 63 - 1 := by omega
  refine call_meets PySem.F.slot_list_index ⟨_, e, rfl⟩ PySem.F.entry_list_index (PySem.F.args_list_index_2 _ _)
    (MeetsSeq.list_index l its.toArray n (.int (k : Int) t) (isInt (k : Int)) (fun y hy => PySem.W.kf_eq h1 y (by simpa using hy)) j (by simpa using a) hj63 (by simpa using b) (fun i hi hlt => (by have := c i (by simpa using hi) hlt; simpa using this))) ⟨e, ⟨.int _, H, I.tok _, ⟨_, rfl⟩, q⟩⟩
end L2

namespace L2
open PySem PySem.Spec PyProof.Rows
def tMakeX (C : Addr) (sp : Sp) (t : TA) : TEX := fun σ H Q Ew => t σ H fun vs H1 => ∀ x dx, H1 x = none → H1 dx = none → dx ≠ x →
  sp (.ref x :: vs) (upd (upd H1 dx (.own x)) x (.ins C dx [])) (fun v H2 => v = .non ∧ Q (.ref x) H2) fun c _ H' => Ew c H'
section
variable {X : Cx} {k : Nat} {C : Addr} {ps : List Str} {sp : Sp} {x : Str} {p pos : Pos} {e : Expr} {es : List Expr} {t : TA}
theorem pex_makeD (hx : Nox X) (D : MakeOk X.prog X.w X.K X.mg X.base (CXE X.prog X.w) k C x ps sp) (hr : Room (k + 1) X.A) (hg : Gl X x) (ha : Pr (PA X (e :: es) t)) (hdb : (x == ("__debug__" : Str)) = false := by decide)
    (he : starEach (e :: es) X.env = (false, eval e X.env) :: starEach es X.env := by rfl) (hpl : (backTo pos (starEach es X.env)).any (·.1) = false := by rfl) : PEX X (.Call (.Name x p) (e :: es) [] pos) (tMakeX C sp t) := by
  obtain ⟨f, fd, F, hb, M, hm⟩ := D.ex
  intro pins s0 σ H0 Q Ew I0 h
  refine wpAny_Call_Name_kw (ld_glob I0 hg hm ?_ hdb)
  refine PySem.W.callWith_K (h₀ := X.base) I0.ok.mod.kin M.kp (wpAny_mono (ha.h pos pins s0 σ H0 _ I0 h) (fun us s ⟨vs, H, I, r, h⟩ => ⟨I.kIn, ?_⟩) fun _ _ z => (hx _ _ z).elim) he hpl
  have hq := h (s.heap.objs.size + 1) s.heap.objs.size (I.hok.fresh (Nat.le_succ _)) (I.hok.fresh (Nat.le_refl _)) (Nat.ne_of_lt (Nat.lt_succ_self _))
  have I2 := Inv.made (C := C) I
  have r2 : Vals (V.ref (s.heap.objs.size + 1) :: vs) (Value.ref (s.heap.objs.size + 1) :: us) := .cons rfl r
  have hl : (Value.ref (s.heap.objs.size + 1) :: us ++ []).length = ps.length := by
    have e := r2.length
    rw [F.len _ _ _ _ hq] at e
    rw [List.append_nil]
    exact e.symm
  have bt := hb _ (Value.ref (s.heap.objs.size + 1) :: us) I2.kIn hl
  rw [List.append_nil] at bt
  refine wpAny_call (make_map (f := f) I.kIn M.makes M.init (beq_iff_eq.mp M.fn) (codeAny_mono (F.run _ X.stack _ _ ⟨Value.ref (s.heap.objs.size + 1) :: us, []⟩ (Value.ref (s.heap.objs.size + 1) :: us) _ _ _ (hr.make C us []) (I2.env0.make C us []) bt r2 hq) fun r s' hq' => ?_))
  cases r with
  | error e => exact ⟨_, _, I2, hq'⟩
  | ok fl =>
    cases fl with
    | ret u =>
      obtain ⟨v, H', I3, rv, ev, q3⟩ := I2.after hq'
      subst ev
      exact ⟨rv, ⟨V.ref (s.heap.objs.size + 1), H', I3, rfl, q3⟩⟩
    | next => exact False.elim hq'
    | brk => exact False.elim hq'
    | cont => exact False.elim hq'
end
def rIsXs (K : PySem.W.Frag) : List V → Hp → VK → Prop := fun xs H Q => ∃ (ea C p : Addr) (cs : List V) (b : Bool), xs = [.ref ea, .ref p] ∧ H ea = some (exO ea C) ∧ H p = some (.tup cs) ∧ (∃ as : List Addr, cs = as.map V.ref ∧ XA K C ∧ PySem.W.kitAny K (.ref C) (as.map Value.ref) = some b) ∧ Q (.bl b) H
structure WK (K : PySem.W.Frag) (CR : Addr) (cs : List Addr) (co : Addr) : Prop where
  xa : XA K CR
  kr : PySem.W.kitOne K (.ref CR) (.ref CR) = some true
  kv : PySem.W.kitOne K (.ref CR) (.type "ValueError") = some true
  ks : PySem.W.kitAny K (.ref CR) (cs.map Value.ref) = some false
  ko : PySem.W.kitOne K (.ref CR) (.ref co) = some false
def tPar3 (i j l : Nat) (ta : TA) : TS := fun D σ H => ta σ H fun vs H1 => ∃ v w z, vs = [v, w, z] ∧ D.nx (((σ.set i (some v)).set j (some w)).set l (some z)) H1
end L2

namespace L2
theorem nodup_sub {α : Type} : ∀ {l m : List α}, l.Nodup → (∀ x ∈ l, x ∈ m) → l.length ≤ m.length
  | [], _, _, _ => Nat.zero_le _
  | x :: l, m, nd, h => by
    obtain ⟨n1, n2⟩ := List.nodup_cons.mp nd
    obtain ⟨a, b, rfl⟩ := List.append_of_mem (h x (by simp))
    have := nodup_sub (l := l) (m := a ++ b) n2 fun y hy => by
      have ne : y ≠ x := fun z => n1 (by rw [← z]; exact hy)
      rcases List.mem_append.mp (h y (by simp [hy])) with z | z
      · exact List.mem_append_left _ z
      · rcases List.mem_cons.mp z with z | z
        · exact absurd z ne
        · exact List.mem_append_right _ z
    simp at this ⊢
    omega
def wt (ls : Nat → List Nat) (order : List Nat) (o : Nat) : Nat := ((ls o).filter fun s => decide (s ∉ order)).length
theorem cnt_snoc {order : List Nat} {x : Nat} (hx : x ∉ order) : ∀ l : List Nat, (l.filter fun s => decide (s ∉ order ++ [x])).length + l.count x = (l.filter fun s => decide (s ∉ order)).length
  | [] => rfl
  | s :: l => by
    have ih := cnt_snoc hx l
    rw [List.filter_cons, List.filter_cons, List.count_cons]
    by_cases e : s = x
    · subst e
      simp [hx] at ih ⊢
      omega
    · by_cases h : s ∈ order
      · simp [h, e] at ih ⊢
        exact ih
      · simp [h, e] at ih ⊢
        omega
theorem wt_snoc {ls : Nat → List Nat} {order : List Nat} {x : Nat} (hx : x ∉ order) (o : Nat) : wt ls (order ++ [x]) o + (ls o).count x = wt ls order o := cnt_snoc hx (ls o)
theorem wt_pos {ls : Nat → List Nat} {order : List Nat} {x o : Nat} (hx : x ∉ order) (h : x ∈ ls o) : 0 < wt ls order o := by
  have := wt_snoc (ls := ls) hx o
  have c : 0 < (ls o).count x := List.count_pos_iff.mpr h
  omega
structure Kahn (loose : List Nat) (ls : Nat → List Nat) (order ready : List Nat) : Prop where
  no : order.Nodup
  nr : ready.Nodup
  ol : ∀ o ∈ order, o ∈ loose
  rl : ∀ o ∈ ready, o ∈ loose ∧ o ∉ order
  oz : ∀ o ∈ order, wt ls order o = 0
  rz : ∀ o ∈ loose, o ∉ order → (o ∈ ready ↔ wt ls order o = 0)
  tp : ∀ i x, order[i]? = some x → ∀ s ∈ ls x, s ∈ order.take i
structure Mid (loose : List Nat) (ls : Nat → List Nat) (order : List Nat) (x : Nat) (done ready : List Nat) : Prop where
  nr : ready.Nodup
  rl : ∀ o ∈ ready, o ∈ loose ∧ o ∉ order ∧ o ≠ x
  rz : ∀ o ∈ loose, o ∉ order → o ≠ x → (o ∈ ready ↔ wt ls order o = done.count o)
theorem Kahn.pop {loose : List Nat} {ls : Nat → List Nat} {order ready : List Nat} {x : Nat} (k : Kahn loose ls order (ready ++ [x])) : x ∈ loose ∧ x ∉ order ∧ wt ls order x = 0 ∧ Mid loose ls order x [] ready := by
  obtain ⟨a, b⟩ := k.rl x (by simp)
  obtain ⟨n1, n2, n3⟩ := List.nodup_append.mp k.nr
  refine ⟨a, b, (k.rz x a b).mp (by simp), n1, fun o ho => ⟨(k.rl o (by simp [ho])).1, (k.rl o (by simp [ho])).2, fun e => n3 o ho x (by simp) e⟩, fun o h1 h2 h3 => ?_⟩
  rw [List.count_nil, ← k.rz o h1 h2, List.mem_append, List.mem_singleton]
  exact ⟨.inl, fun z => z.resolve_right h3⟩
structure FedBy (loose : List Nat) (ls : Nat → List Nat) (x : Nat) (fed : List Nat) : Prop where
  m : ∀ o ∈ fed, o ∈ loose ∧ x ∈ ls o
  c : ∀ o ∈ loose, fed.count o = (ls o).count x
theorem count_take_le {l : List Nat} (j o : Nat) : (l.take j).count o ≤ l.count o := by
  have := congrArg (List.count o) (List.take_append_drop j l)
  rw [List.count_append] at this
  omega
theorem Mid.step {loose : List Nat} {ls : Nat → List Nat} {order ready fed : List Nat} {x o j : Nat} (k : ∀ y ∈ order, wt ls order y = 0) (hx : x ∉ order) (hz : wt ls order x = 0) (f : FedBy loose ls x fed) (m : Mid loose ls order x (fed.take j) ready) (ho : fed[j]? = some o) :
    o ∈ loose ∧ (fed.take (j + 1)).count o = (fed.take j).count o + 1 ∧ (fed.take (j + 1)).count o ≤ wt ls order o ∧ (∀ o', o' ≠ o → (fed.take (j + 1)).count o' = (fed.take j).count o') ∧
    (wt ls order o = (fed.take (j + 1)).count o → Mid loose ls order x (fed.take (j + 1)) (ready ++ [o])) ∧ (wt ls order o ≠ (fed.take (j + 1)).count o → Mid loose ls order x (fed.take (j + 1)) ready) := by
  have et : fed.take (j + 1) = fed.take j ++ [o] := by rw [List.take_add_one, ho]; rfl
  obtain ⟨h1, h2⟩ := f.m o (List.mem_of_getElem? ho)
  have p := wt_pos hx h2
  have n1 : o ∉ order := fun z => by have := k o z; omega
  have n2 : o ≠ x := fun z => by rw [z] at p; omega
  have c1 : (fed.take (j + 1)).count o = (fed.take j).count o + 1 := by rw [et, List.count_append]; simp
  have c3 : ∀ o', o' ≠ o → (fed.take (j + 1)).count o' = (fed.take j).count o' := fun o' ne => by
    rw [et, List.count_append, List.count_singleton]
    have : (o == o') = false := by simpa using fun z => ne z.symm
    rw [this]; rfl
  have c2 : (fed.take (j + 1)).count o ≤ wt ls order o := by
    have a := count_take_le (l := fed) (j + 1) o
    have b := f.c o h1
    have c := wt_snoc (ls := ls) hx o
    omega
  have nr : o ∉ ready := fun z => by have := (m.rz o h1 n1 n2).mp z; omega
  refine ⟨h1, c1, c2, c3, fun e => ⟨?_, ?_, ?_⟩, fun e => ⟨m.nr, m.rl, fun o' a b c => ?_⟩⟩
  · rw [List.nodup_append]
    exact ⟨m.nr, by simp, fun a ha b hb z => nr (by rw [← List.mem_singleton.mp hb, ← z]; exact ha)⟩
  · intro y hy
    rcases List.mem_append.mp hy with z | z
    · exact m.rl y z
    · rw [List.mem_singleton.mp z]; exact ⟨h1, n1, n2⟩
  · intro o' a b c
    rw [List.mem_append, List.mem_singleton]
    by_cases eo : o' = o
    · subst eo
      exact ⟨fun _ => e, fun _ => .inr rfl⟩
    · rw [c3 o' eo, ← m.rz o' a b c]
      exact ⟨fun z => z.resolve_right eo, .inl⟩
  · by_cases eo : o' = o
    · subst eo
      exact ⟨fun z => absurd z nr, fun z => absurd z e⟩
    · rw [c3 o' eo]
      exact m.rz o' a b c
theorem Mid.done {loose : List Nat} {ls : Nat → List Nat} {order ready fed : List Nat} {x : Nat} (tp : ∀ i x, order[i]? = some x → ∀ s ∈ ls x, s ∈ order.take i) (no : order.Nodup) (ol : ∀ o ∈ order, o ∈ loose) (k : ∀ y ∈ order, wt ls order y = 0) (hl : x ∈ loose) (hx : x ∉ order) (hz : wt ls order x = 0) (f : FedBy loose ls x fed) (m : Mid loose ls order x fed ready) :
    Kahn loose ls (order ++ [x]) ready := by
  refine ⟨?_, m.nr, ?_, ?_, ?_, ?_, ?_⟩
  · rw [List.nodup_append]
    exact ⟨no, by simp, fun a ha b hb z => hx (by rw [← List.mem_singleton.mp hb, ← z]; exact ha)⟩
  · intro o ho
    rcases List.mem_append.mp ho with z | z
    · exact ol o z
    · rw [List.mem_singleton.mp z]; exact hl
  · intro o ho
    obtain ⟨a, b, c⟩ := m.rl o ho
    exact ⟨a, by simp [b, c]⟩
  · intro o ho
    have := wt_snoc (ls := ls) hx o
    rcases List.mem_append.mp ho with z | z
    · have := k o z; omega
    · rw [List.mem_singleton.mp z] at this ⊢; omega
  · intro o a b
    rw [List.mem_append, List.mem_singleton, not_or] at b
    have h1 := wt_snoc (ls := ls) hx o
    have h2 := f.c o a
    rw [m.rz o a b.1 b.2]
    omega
  · intro i y hy s hs
    by_cases hi : i < order.length
    · rw [List.getElem?_append_left hi] at hy
      have := tp i y hy s hs
      rw [List.take_append_of_le_length (by omega)]
      exact this
    · have h2 := (List.getElem?_eq_some_iff.mp hy).1
      rw [List.length_append, List.length_singleton] at h2
      have e : i = order.length := by omega
      subst e
      rw [List.getElem?_append_right (Nat.le_refl _), Nat.sub_self] at hy
      cases hy
      rw [List.take_append_of_le_length (Nat.le_refl _), List.take_length]
      refine Classical.byContradiction fun n => ?_
      have := wt_pos n hs
      omega
def Acy (loose : List Nat) (ls : Nat → List Nat) : Prop := ∃ r : Nat → Nat, ∀ n ∈ loose, ∀ s ∈ ls n, s ∈ loose ∧ r s < r n
theorem Kahn.all {loose : List Nat} {ls : Nat → List Nat} {order : List Nat} (k : Kahn loose ls order []) (ac : Acy loose ls) : ∀ n, n ∈ loose → n ∈ order := by
  obtain ⟨r, ac⟩ := ac
  have : ∀ m n, r n = m → n ∈ loose → n ∈ order := by
    intro m
    induction m using Nat.strongRecOn with
    | ind m ih =>
      intro n hm hn
      refine Classical.byContradiction fun h => ?_
      have nz : wt ls order n ≠ 0 := fun z => by have := (k.rz n hn h).mpr z; simp at this
      refine nz ?_
      unfold wt
      rw [List.length_eq_zero_iff, List.filter_eq_nil_iff]
      intro s hs
      obtain ⟨a, b⟩ := ac n hn s hs
      simpa using ih (r s) (by omega) s rfl a
  exact fun n hn => this (r n) n rfl hn
theorem Kahn.len {loose : List Nat} {ls : Nat → List Nat} {order : List Nat} (k : Kahn loose ls order []) (nl : loose.Nodup) (ac : Acy loose ls) : order.length = loose.length :=
  Nat.le_antisymm (nodup_sub k.no k.ol) (nodup_sub nl (k.all ac))
theorem Kahn.acy {loose : List Nat} {ls : Nat → List Nat} {order : List Nat} (k : Kahn loose ls order []) (e : order.length = loose.length) (hs : ∀ n s, s ∈ ls n → s ∈ loose) : Acy loose ls := by
  have all : ∀ n ∈ loose, n ∈ order := fun n hn => Classical.byContradiction fun h => by
    have := nodup_sub (l := order ++ [n]) (m := loose) (by
      rw [List.nodup_append]
      exact ⟨k.no, by simp, fun a ha b hb z => h (by rw [← List.mem_singleton.mp hb, ← z]; exact ha)⟩) fun x hx => by
        rcases List.mem_append.mp hx with z | z
        · exact k.ol x z
        · rw [List.mem_singleton.mp z]; exact hn
    rw [List.length_append, List.length_singleton] at this
    omega
  refine ⟨fun n => order.idxOf n, fun n hn s h => ⟨hs n s h, ?_⟩⟩
  have hi : order.idxOf n < order.length := List.idxOf_lt_length_of_mem (all n hn)
  have := k.tp (order.idxOf n) n (by rw [List.getElem?_eq_getElem hi, List.getElem_idxOf]) s h
  obtain ⟨j, hj, ej⟩ := List.getElem_of_mem this
  rw [List.length_take] at hj
  rw [List.getElem_take] at ej
  have h2 : order.idxOf s ≤ j := by
    refine Classical.byContradiction fun z => ?_
    have := List.not_of_lt_findIdx (p := (· == s)) (xs := order) (i := j) (by simpa [List.idxOf] using z)
    simp [ej] at this
  show order.idxOf s < order.idxOf n
  omega
theorem Kahn.le {loose : List Nat} {ls : Nat → List Nat} {order ready : List Nat} (k : Kahn loose ls order ready) : order.length ≤ loose.length := nodup_sub k.no k.ol
theorem Mid.le {loose : List Nat} {ls : Nat → List Nat} {order done ready : List Nat} {x : Nat} (m : Mid loose ls order x done ready) : ready.length ≤ loose.length := nodup_sub m.nr fun o ho => (m.rl o ho).1
def prs (ls : Nat → List Nat) (l : List Nat) : List (Nat × Nat) := l.flatMap fun n => (ls n).map fun s => (s, n)
def fedOf (pr : List (Nat × Nat)) (s : Nat) : List Nat := (pr.filter fun p => p.1 == s).map (·.2)
theorem fed_snoc (pr : List (Nat × Nat)) (s n s' : Nat) : fedOf (pr ++ [(s, n)]) s' = if s = s' then fedOf pr s' ++ [n] else fedOf pr s' := by
  unfold fedOf
  rw [List.filter_append, List.map_append]
  by_cases e : s = s'
  · simp [e]
  · simp [e]
theorem fed_app (a b : List (Nat × Nat)) (s : Nat) : fedOf (a ++ b) s = fedOf a s ++ fedOf b s := by unfold fedOf; rw [List.filter_append, List.map_append]
theorem fed_one (n s o : Nat) : ∀ l : List Nat, (fedOf (l.map fun s => (s, n)) s).count o = if o = n then l.count s else 0
  | [] => by simp [fedOf]
  | a :: l => by
    have ih := fed_one n s o l
    rw [List.map_cons, show ((a, n) :: l.map fun s => (s, n)) = [(a, n)] ++ l.map fun s => (s, n) from rfl, fed_app, List.count_append, ih]
    by_cases e1 : a = s <;> by_cases e2 : o = n <;> simp [fedOf, e1, e2, List.count_cons, Ne.symm] <;> omega
theorem fed_count (ls : Nat → List Nat) (s o : Nat) : ∀ l : List Nat, l.Nodup → (fedOf (prs ls l) s).count o = if o ∈ l then (ls o).count s else 0
  | [], _ => by simp [fedOf, prs]
  | n :: l, nd => by
    obtain ⟨n1, n2⟩ := List.nodup_cons.mp nd
    have ih := fed_count ls s o l n2
    unfold prs at ih ⊢
    rw [List.flatMap_cons, fed_app, List.count_append, ih, fed_one]
    by_cases e : o = n
    · subst e; simp [n1]
    · simp [e]
theorem fed_by (ls : Nat → List Nat) {l : List Nat} (nd : l.Nodup) (x : Nat) : FedBy l ls x (fedOf (prs ls l) x) := by
  refine ⟨fun o ho => ?_, fun o ho => by rw [fed_count ls x o l nd, if_pos ho]⟩
  unfold fedOf at ho
  obtain ⟨p, hp, rfl⟩ := List.mem_map.mp ho
  obtain ⟨h1, h2⟩ := List.mem_filter.mp hp
  obtain ⟨n, hn, h3⟩ := List.mem_flatMap.mp h1
  obtain ⟨s, hs, rfl⟩ := List.mem_map.mp h3
  have : s = x := by simpa using h2
  subst this
  exact ⟨hn, hs⟩
end L2

set_option maxHeartbeats 4000000
namespace B17
open PySem L2
abbrev Vs (sc : Scope) (x : Str) : Prop := sc.names.lookup x = some NameKind.local ∨ sc.names.lookup x = some NameKind.cell ∨ sc.names.lookup x = some NameKind.free
abbrev Lc (sc : Scope) (x : Str) : Prop := sc.names.lookup x = some NameKind.local ∨ sc.names.lookup x = some NameKind.cell
abbrev Gi (sc : Scope) (x : Str) : Prop := sc.names.lookup x = some NameKind.globalImplicit
abbrev Nd (x : Str) : Prop := (x == ("__debug__" : Str)) = false
abbrev Nc (x : Str) : Prop := (x == ("__classdict__" : Str)) = false
local macro_rules | `(tactic| walk_at "few") => `(tactic| (with_reducible show (List.length (α := Str × V) _) < 1000); first | exact (by decide : 0 < 1000) | exact (by decide : 1 < 1000) | exact (by decide : 2 < 1000) | exact (by decide : 3 < 1000) | exact (by decide : 4 < 1000) | exact (by decide : 5 < 1000) | exact (by decide : 6 < 1000))
local macro_rules | `(tactic| walk_at "get") => `(tactic| first
  | with_reducible assumption
  | exact upd_same
  | (apply g_new; (focus with_reducible assumption); (focus walk_at "get"))
  | (apply g_put; (focus walk_at "ne"); (focus walk_at "get"))
  | (apply Ch.get; (focus with_reducible assumption); (focus walk_at "get"); (focus walk_at "notin")))
local macro_rules | `(tactic| walk_at "ne") => `(tactic| first | with_reducible assumption | (apply Ne.symm; with_reducible assumption) | (apply ne_of; (focus with_reducible assumption); (focus with_reducible assumption); (focus (intro z; cases z))))
local macro_rules | `(tactic| walk_at "notin") => `(tactic| first | exact List.not_mem_nil | (simp only [List.mem_cons, List.not_mem_nil, or_false, not_or, not_false_eq_true]; first | walk_at "ne" | trivial))
local macro_rules | `(tactic| walk_at "scr") => `(tactic| first
  | with_reducible assumption
  | (apply Scr.ch; (focus with_reducible assumption); (focus with_reducible assumption); (focus walk_at "ch"))
  | (apply Scr.same; (focus with_reducible assumption); (focus walk_at "ch")))
local macro_rules | `(tactic| walk_at "ch") => `(tactic| first
  | with_reducible assumption
  | exact Ch.refl _ _
  | exact Ch.put
  | (apply Ch.new; with_reducible assumption)
  | (apply Ch.wk; with_reducible assumption)
  | (apply Ch.own; (focus with_reducible assumption); (focus walk_at "ch"))
  | (apply Ch.trans; (rotate_left; focus with_reducible assumption); (focus walk_at "ch"))
  | (apply Ch.trans; (rotate_left; focus (apply Ch.wk; with_reducible assumption)); (focus walk_at "ch"))
  | (apply Ch.trans; (rotate_left; focus exact Ch.put); (focus walk_at "ch"))
  | (apply Ch.trans; (rotate_left; focus (apply Ch.new; with_reducible assumption)); (focus walk_at "ch")))
local macro_rules | `(tactic| walk_at "sq") => `(tactic| first
  | (apply Scr.sq; walk_at "scr")
  | (apply Exists.intro; walk_at "sq")
  | (refine (‹∀ H : Hp, SqT _ H _ _›) _)
  | (apply SqL.of; walk_at "get")
  | (apply SqT.of; walk_at "get")
  | (apply Or.inl; apply Scr.sq; walk_at "scr")
  | (apply Or.inl; apply SqL.of; walk_at "get")
  | (apply Or.inr; apply SqT.of; walk_at "get"))
local macro_rules | `(tactic| walk_at "arith") => `(tactic| first
  | omega
  | (simp only [List.length_map, List.length_cons, List.length_nil, List.length_append, List.length_singleton, List.length_replicate]; done)
  | ((try dsimp only); (try simp only [List.length_map, List.length_cons, List.length_nil, List.length_append, List.length_singleton, List.length_replicate, sizeLine_eq]); omega)
  | ((try dsimp only); (try simp only [List.length_map, List.length_cons, List.length_nil, List.length_append, List.length_singleton, List.length_replicate, sizeLine_eq] at *); omega))
local macro_rules | `(tactic| walk_at "cond") => `(tactic| first
  | (refine Or.inl (And.intro ?_ ?_) <;> walk_at "arith")
  | (refine Or.inr (And.intro ?_ ?_) <;> walk_at "arith")
  | (refine And.intro ?_ (And.intro ?_ ?_) <;> walk_at "arith")
  | (refine And.intro ?_ ?_ <;> walk_at "arith"))
local macro_rules | `(tactic| walk_at "len") => `(tactic| first
  | with_reducible assumption
  | exact len_one
  | (apply len_slice; walk_at "len")
  | (apply len_app; (focus walk_at "len"); (focus walk_at "len"))
  | exact Nat.le_refl _)
local macro_rules | `(tactic| walk_at "lens") => `(tactic| first
  | (apply len_sum; (focus walk_at "len"); (focus walk_at "len"); (focus first | decide +kernel | walk_at "arith"))
  | (apply len_top; (focus walk_at "len"); (focus first | decide +kernel | walk_at "arith")))
local macro_rules | `(tactic| walk_at "side") => `(tactic| first
  | with_reducible rfl | with_reducible assumption | walk_at "sq" | walk_at "get" | walk_at "scr" | walk_at "ch" | walk_at "ty" | exact TyOf.int _ | exact TyOf.str _ | (apply TyOf.tup; walk_at "get") | (apply TyOf.lst; walk_at "get") | exact TyOf.bl _ | exact TyOf.non | walk_at "few" | decide | omega | walk_at "arith" | walk_at "cond" | ((try simp only [List.length_map]); with_reducible assumption) | walk_at "lens" | (apply Or.inr; with_reducible assumption) | walk_at "user" | exact rfl | assumption)
local macro_rules | `(tactic| walk_at "ty") => `(tactic| (refine Or.inl (And.intro rfl ?_); apply Exists.intro; walk_at "sq"))
local macro_rules | `(tactic| walk_at "user") => `(tactic| fail)
local macro_rules | `(tactic| walk_at "rd1") => `(tactic| first
  | apply Exists.intro
  | (refine And.intro rfl ?_)
  | (refine And.intro (show V.str _ = L2.kV (Sum.inr _) from rfl) ?_)
  | (refine And.intro (show V.int _ = L2.kV (Sum.inl _) from rfl) ?_)
  | (refine And.intro (L2.cut1_not _ _) ?_)
  | (apply And.intro; (focus (walk_at "side"; done)))
  | apply Atx.head
  | (apply Atx.of; (focus first | exact rfl | with_reducible assumption | ((try simp only [List.length_map]); with_reducible assumption)))
  | (apply Or.inl; apply Exists.intro; (refine And.intro rfl ?_))
  | (apply Or.inr; apply Exists.intro; (refine And.intro rfl ?_))
  | (apply Or.inl; apply And.intro; (focus walk_at "sq"))
  | (apply Or.inr; apply And.intro; (focus walk_at "sq"))
  | (intro _)
  | walk_at "fin")
local macro_rules | `(tactic| walk_at "fin") => `(tactic| first | exact rfl | (walk_at "get"; done))
local macro_rules | `(tactic| walk_at "rd") => `(tactic| repeat walk_at "rd1")
section
theorem dgetS_none {H : Hp} {a : Addr} {kvs : List (Key × V)} {x : Str} (e : H a = some (.dK kvs)) (h : valV kvs (.inr x) = none) : DGet H a (.str x) none := h ▸ DGet.k (k := .inr x) e
local macro_rules | `(tactic| walk_at "user") => `(tactic| first
  | (apply dgetS_some; (focus walk_at "get"); (focus with_reducible assumption))
  | (apply dgetS_none; (focus walk_at "get"); (focus with_reducible assumption))
  | (apply dgetI_some; (focus walk_at "get"); (focus with_reducible assumption)))
def top (i : Nat) : Stmt := PySem.Challenge.pw_bitfloor_k41_packs.main.body.getD i (.Pass ⟨0, 0, 0, 0⟩)
def SqX (k : SK) (H : Hp) (a : Addr) (xs : List V) : Prop := match k with
  | .list => H a = some (.lst xs)
  | .tuple => H a = some (.tup xs)
theorem SqX.ch {kd : SK} {H H' : Hp} {a : Addr} {xs : List V} (h : SqX kd H a xs) (c : Ch [] H H') : SqX kd H' a xs := by
  cases kd with
  | list => exact c.get h (by simp)
  | tuple => exact c.get h (by simp)
def bi : Bool → Int
  | true => 1
  | false => 0
def bV (b : Bool) : V := .int (bi b)
theorem chFree {H H' : Hp} (c : Ch [] H H') {r : Addr} (h : H' r = none) : H r = none := by
  cases e : H r with
  | none => rfl
  | some o => rw [c r o e (by simp)] at h; cases h
inductive Th (H : Hp) : V → Prop
  | int (i : Int) : Th H (.int i)
  | non : Th H .non
  | bl (b : Bool) : Th H (.bl b)
  | str (x : Str) : Th H (.str x)
def isI : V → Bool
  | .int _ => true
  | _ => false
def belB (v : V) (b : Int) : Bool := match v with
  | .int i => decide (0 ≤ i) && decide (i < b)
  | _ => false
def okB (v : V) : Prop := belB v 2 = true
abbrev Wr := List Key
abbrev Src := Bool × Nat
def wd (b : Bool) : Str := if b then "block" else "in"
def srcK (s : Src) : Wr := [.inr (wd s.1), .inl (s.2 : Int)]
def lim (a c : Nat) (b : Bool) : Nat := if b then c else a
def cntK (a c : Nat) : List (Key × V) := [(.inr "in", .int (a : Int)), (.inr "block", .int (c : Int))]
theorem cnt_val (a c : Nat) (b : Bool) : valV (cntK a c) (.inr (wd b)) = some (.int (lim a c b : Int)) := by cases b <;> rfl
abbrev WsAt (H : Hp) : List Wr → List Addr → Prop := Paired (fun k p => H p = some (.tup (k.map kV)))
theorem paired_imp {α β : Type} {R S : α → β → Prop} (h : ∀ x y, R x y → S x y) : ∀ {xs : List α} {ys : List β}, Paired R xs ys → Paired S xs ys
  | _, _, .nil => .nil
  | _, _, .cons a t => .cons (h _ _ a) (paired_imp h t)
theorem paired_snoc {α β : Type} {R : α → β → Prop} {x : α} {y : β} (h : R x y) : ∀ {xs : List α} {ys : List β}, Paired R xs ys → Paired R (xs ++ [x]) (ys ++ [y])
  | _, _, .nil => .cons h .nil
  | _, _, .cons a t => .cons a (paired_snoc h t)
theorem paired_get {α : Type} {R : α → Addr → Prop} : ∀ {xs : List α} {ps : List Addr}, Paired R xs ps → ∀ (i : Nat) (v : V), (ps.map V.ref)[i]? = some v → ∃ p x, v = .ref p ∧ xs[i]? = some x ∧ R x p
  | _, _, .nil, i, x, h => by simp at h
  | k :: ws, p :: ps, .cons a t, 0, x, h => ⟨p, k, by simpa using h.symm, rfl, a⟩
  | k :: ws, p :: ps, .cons a t, i + 1, x, h => by
    obtain ⟨p', k', e1, e2, e3⟩ := paired_get t i x (by simpa using h)
    exact ⟨p', k', e1, by simpa using e2, e3⟩
theorem bi01 (b : Bool) : 0 ≤ bi b ∧ bi b < 2 := by cases b <;> decide
def room (n : Nat) : Int := [2, 4, 16, 256, 65536].getD n 2
def PX (xs : List V) : Prop := xs.length ≠ 2 ∨ ∃ w n, xs = [.str w, .int n]
def inB (o : Option V) (n : Int) : Bool := match o with
  | some (.int m) => decide (0 ≤ n) && decide (n < m)
  | _ => false
def plB (a c : Nat) : List V → Bool
  | [.str w, .int n] => inB (valV (cntK a c) (.inr w)) n
  | _ => false
theorem plB_odd {a c : Nat} {xs : List V} (h : xs.length ≠ 2) : plB a c xs = false := by
  unfold plB
  split
  · exact absurd rfl h
  · rfl
theorem cnt_int {a c : Nat} {k : Key} {v : V} (h : valV (cntK a c) k = some v) : ∃ m, v = .int m := by
  unfold valV at h
  obtain ⟨kv, e, rfl⟩ := Option.map_eq_some_iff.mp h
  have := List.mem_of_find?_eq_some e
  simp only [cntK, List.mem_cons, List.not_mem_nil, or_false] at this
  rcases this with rfl | rfl <;> exact ⟨_, rfl⟩
abbrev PgAt (H : Hp) (xs : List V) (p : Addr) : Prop := H p = some (.tup xs) ∧ PX xs
inductive TG
  | odd
  | tb (ls : List (List V)) (bits : Int)
def rm (n : Nat) : Int := 1 * 2 ^ (1 * 2 ^ ((n : Nat) : Int).toNat : Int).toNat
def tgB (a c : Nat) : TG → Bool
  | .odd => false
  | .tb ls bits => decide (ls.length ≤ 4) && (belB (.int bits) (rm ls.length) && ls.all (plB a c))
def TgAt (kd : SK) (H : Hp) (t : TG) (p : Addr) : Prop := match t with
  | .odd => ∃ ys, H p = some (.tup ys) ∧ ys.length ≠ 2
  | .tb ls bits => ∃ lp ps, H p = some (.tup [.ref lp, .int bits]) ∧ SqX kd H lp (ps.map V.ref) ∧ Paired (PgAt H) ls ps
theorem SqX.sq {kd : SK} {K : PySem.W.Frag} {H : Hp} {a : Addr} {xs : List V} (h : SqX kd H a xs) : Sq kd K H a xs := by
  cases kd with
  | list => exact SqL.of h
  | tuple => exact SqT.of h
theorem SqX.or {kd : SK} {K : PySem.W.Frag} {H : Hp} {a : Addr} {xs : List V} (h : SqX kd H a xs) : SqL K H a xs ∨ SqT K H a xs := by
  cases kd with
  | list => exact .inl (SqL.of h)
  | tuple => exact .inr (SqT.of h)
theorem len_two {xs : List V} (h : ¬(!decide (V.int (xs.length : Int) = V.int 2)) = true) : xs.length = 2 := by
  have : (xs.length : Int) = 2 := by simpa using h
  omega
theorem PgAt.tu {H H' : Hp} (k : Tu H H') {xs : List V} {p : Addr} (s : PgAt H xs p) : PgAt H' xs p := ⟨k _ _ s.1, s.2⟩
inductive BG
  | odd
  | bk (ls : List (List V)) (bits kept first : Int)
def bkB (a c : Nat) : BG → Bool
  | .odd => false
  | .bk ls bits kept first => tgB a c (.tb ls bits) && (belB (.int kept) 2 && belB (.int first) (kept + 1))
def BgAt (kd : SK) (H : Hp) (t : BG) (p : Addr) : Prop := match t with
  | .odd => ∃ ys, H p = some (.tup ys) ∧ ys.length ≠ 4
  | .bk ls bits kept first => ∃ lp ps, H p = some (.tup [.ref lp, .int bits, .int kept, .int first]) ∧ SqX kd H lp (ps.map V.ref) ∧ Paired (PgAt H) ls ps
theorem BgAt.ch {kd : SK} {H H' : Hp} (c : Ch [] H H') {t : BG} {p : Addr} (s : BgAt kd H t p) : BgAt kd H' t p := by
  cases t with
  | odd => obtain ⟨ys, h, n⟩ := s; exact ⟨ys, c.get h (by simp), n⟩
  | bk ls bits kept first => obtain ⟨lp, ps, h, q, w⟩ := s; exact ⟨lp, ps, c.get h (by simp), q.ch c, paired_imp (fun _ _ e => PgAt.tu (Tu.same c) e) w⟩
theorem len_four {xs : List V} (h : ¬(!decide (V.int (xs.length : Int) = V.int 4)) = true) : xs.length = 4 := by
  have : (xs.length : Int) = 4 := by simpa using h
  omega
section
variable {P : Program} {w : World} {K : PySem.W.Frag} {mg : Str → Option Value} {base : Heap} {f : Addr} {fd : FuncData} {k : Nat}
theorem bo_isinstance : bootBuiltins "isinstance" = some (.builtin "isinstance") := by decide +kernel
theorem bo_bool : bootBuiltins "bool" = some (.type "bool") := by decide +kernel
theorem nn_bool : ("bool" : Str) ≠ "__name__" := by decide +kernel
theorem gd_bool : Nd "bool" := by decide +kernel
theorem nn_isinstance : ("isinstance" : Str) ≠ "__name__" := by decide +kernel
theorem gd_isinstance : Nd "isinstance" := by decide +kernel
theorem bo_int : bootBuiltins "int" = some (.type "int") := by decide +kernel
theorem nn_int : ("int" : Str) ≠ "__name__" := by decide +kernel
theorem gd_int : Nd "int" := by decide +kernel
theorem gd_is_whole : Nd "is_whole" := by decide +kernel
theorem bo_tuple : bootBuiltins "tuple" = some (.type "tuple") := by decide +kernel
theorem nn_tuple : ("tuple" : Str) ≠ "__name__" := by decide +kernel
theorem gd_tuple : Nd "tuple" := by decide +kernel
theorem bo_list : bootBuiltins "list" = some (.type "list") := by decide +kernel
theorem nn_list : ("list" : Str) ≠ "__name__" := by decide +kernel
theorem gd_list : Nd "list" := by decide +kernel
theorem bo_str : bootBuiltins "str" = some (.type "str") := by decide +kernel
theorem nn_str : ("str" : Str) ≠ "__name__" := by decide +kernel
theorem gd_str : Nd "str" := by decide +kernel
theorem nn_len : ("len" : Str) ≠ "__name__" := by decide +kernel
theorem gd_len : Nd "len" := by decide +kernel
theorem gd_is_below : Nd "is_below" := by decide +kernel
theorem gd_is_listed : Nd "is_listed" := by decide +kernel
theorem bo_all : bootBuiltins "all" = some (.builtin "all") := by decide +kernel
theorem gd_is_place : Nd "is_place" := by decide +kernel
theorem nn_all : ("all" : Str) ≠ "__name__" := by decide +kernel
theorem gd_all : Nd "all" := by decide +kernel
theorem gd_is_table : Nd "is_table" := by decide +kernel
theorem g14_isinstance : Gi (defScope (top 14)) "isinstance" := by decide +kernel
theorem v14_0 : Vs (defScope (top 14)) "thing" := by decide +kernel
theorem d14_0 : Nd "thing" := by decide +kernel
theorem c14_0 : Nc "thing" := by decide +kernel
theorem g14_bool : Gi (defScope (top 14)) "bool" := by decide +kernel
theorem g14_int : Gi (defScope (top 14)) "int" := by decide +kernel
def spWholeG : Sp := fun vs H Q _ => ∃ v : V, vs = [v] ∧ Th H v ∧ Q (.bl (isI v)) H
theorem scWhole : FnScope ["thing"] ["thing"] (defScope (top 14)) := ⟨rfl, rfl, rfl, by decide +kernel, rfl, by decide +kernel, by decide +kernel⟩
theorem ok_wholeG (F : Fun K "is_whole" "is_whole" (top 14) f fd) (z_isinstance : mg "isinstance" = none) (z_int : mg "int" = none) (z_bool : mg "bool" = none) : FnOk P w K mg base CX0 (k + 1) f fd ["thing"] spWholeG := by
  have nd := scWhole.nd
  refine F.ok scWhole (fun vs H Q E h => by obtain ⟨i, rfl, _⟩ := h; rfl) (fun cdv A outer s H vs Q E hr h => ?_)
  obtain ⟨v, rfl, t, q⟩ := h
  refine ⟨_, (Pr.h (qpss_one (qps_ret (qpe_and (qpe_callB call_isT g14_isinstance z_isinstance bo_isinstance (qpa_cons (qpe_var (i := 0) rfl v14_0 d14_0 c14_0) (qpa_cons (qpe_bltn (v := .ty "int") g14_int z_int bo_int rfl nn_int gd_int) qpa_nil)) nn_isinstance gd_isinstance) (qpe_one (qpe_not (qpe_callB call_isT g14_isinstance z_isinstance bo_isinstance (qpa_cons (qpe_var (i := 0) rfl v14_0 d14_0 c14_0) (qpa_cons (qpe_bltn (v := .ty "bool") g14_bool z_bool bo_bool rfl nn_bool gd_bool) qpa_nil)) nn_isinstance gd_isinstance))))))), ?_⟩
  (try dsimp only [cxOf])
  cases t with
  | int i => walk_at "rd"; exact q
  | non => walk_at "rd"; exact q
  | bl b => walk_at "rd"; exact q
  | str x => walk_at "rd"; exact q
def spWhole : Sp := fun vs H Q _ => ∃ i : Int, vs = [.int i] ∧ Q (.bl true) H
theorem v15_0 : Vs (defScope (top 15)) "thing" := by decide +kernel
theorem d15_0 : Nd "thing" := by decide +kernel
theorem c15_0 : Nc "thing" := by decide +kernel
theorem v15_1 : Vs (defScope (top 15)) "bound" := by decide +kernel
theorem d15_1 : Nd "bound" := by decide +kernel
theorem c15_1 : Nc "bound" := by decide +kernel
theorem g15_is_whole : Gi (defScope (top 15)) "is_whole" := by decide +kernel
def spBelowG : Sp := fun vs H Q _ => ∃ (v : V) (b : Int), vs = [v, .int b] ∧ Th H v ∧ Q (.bl (belB v b)) H
theorem scBelow : FnScope ["thing", "bound"] ["thing", "bound"] (defScope (top 15)) := ⟨rfl, rfl, rfl, by decide +kernel, rfl, by decide +kernel, by decide +kernel⟩
theorem ok_belowG (F : Fun K "is_below" "is_below" (top 15) f fd) (Dis_whole : DefOk P w K mg base CX0 k "is_whole" ["thing"] spWholeG) : FnOk P w K mg base CX0 (k + 1) f fd ["thing", "bound"] spBelowG := by
  have nd := scBelow.nd
  refine F.ok scBelow (fun vs H Q E h => by obtain ⟨v, b, rfl, _⟩ := h; rfl) (fun cdv A outer s H vs Q E hr h => ?_)
  obtain ⟨v, b, rfl, t, q⟩ := h
  refine ⟨_, (Pr.h (qpss_one (qps_ret (qpe_and (qpe_callD Dis_whole hr g15_is_whole pass0 (qpa_cons (qpe_var (i := 0) rfl v15_0 d15_0 c15_0) qpa_nil se_Name) gd_is_whole) (qpe_one (qpe_chain op_le op_lt qpe_int (qpe_var (i := 0) rfl v15_0 d15_0 c15_0) (qpe_var (i := 1) rfl v15_1 d15_1 c15_1))))))), ?_⟩
  (try dsimp only [cxOf])
  refine ⟨_, rfl, _, rfl, t, ?_⟩
  cases t with
  | int i =>
    walk_at "rd"
    refine ite2 (fun h0 => ?_) (fun h0 => ?_)
    · walk_at "rd"
      have h0 : 0 ≤ i := by simpa using h0
      have e : belB (.int i) b = decide (i < b) := by show (decide (0 ≤ i) && decide (i < b)) = _; rw [decide_eq_true h0, Bool.true_and]
      rw [e] at q
      exact q
    · have h0 : ¬ 0 ≤ i := by simpa using h0
      have e : belB (.int i) b = false := by show (decide (0 ≤ i) && decide (i < b)) = _; rw [decide_eq_false h0, Bool.false_and]
      rw [e] at q
      walk_at "rd"
      all_goals first | exact q | (rw [decide_eq_false h0]; exact q)
  | non => walk_at "rd"; exact q
  | bl b => walk_at "rd"; exact q
  | str x => walk_at "rd"; exact q
def spBelow : Sp := fun vs H Q _ => ∃ i b : Int, vs = [.int i, .int b] ∧ 0 ≤ i ∧ i < b ∧ Q (.bl true) H
theorem g16_tuple : Gi (defScope (top 16)) "tuple" := by decide +kernel
theorem g16_list : Gi (defScope (top 16)) "list" := by decide +kernel
theorem g16_isinstance : Gi (defScope (top 16)) "isinstance" := by decide +kernel
theorem v16_0 : Vs (defScope (top 16)) "thing" := by decide +kernel
theorem d16_0 : Nd "thing" := by decide +kernel
theorem c16_0 : Nc "thing" := by decide +kernel
def spListed : Sp := fun vs H Q _ => ∃ (kd : SK) (a : Addr) (xs : List V), vs = [.ref a] ∧ SqX kd H a xs ∧ ∀ H', Ch [] H H' → Q (.bl true) H'
theorem scListed : FnScope ["thing"] ["thing"] (defScope (top 16)) := ⟨rfl, rfl, rfl, by decide +kernel, rfl, by decide +kernel, by decide +kernel⟩
theorem ok_listed (F : Fun K "is_listed" "is_listed" (top 16) f fd) (z_isinstance : mg "isinstance" = none) (z_list : mg "list" = none) (z_tuple : mg "tuple" = none) : FnOk P w K mg base CX0 (k + 1) f fd ["thing"] spListed := by
  have nd := scListed.nd
  refine F.ok scListed (fun vs H Q E h => by obtain ⟨kd, a, xs, rfl, _⟩ := h; rfl) (fun cdv A outer s H vs Q E hr h => ?_)
  obtain ⟨kd, a, xs, rfl, hx, q⟩ := h
  refine ⟨_, (Pr.h (qpss_one (qps_ret (qpe_callB call_isT2 g16_isinstance z_isinstance bo_isinstance (qpa_cons (qpe_var (i := 0) rfl v16_0 d16_0 c16_0) (qpa_cons (qpe_tup (qpa_cons (qpe_bltn (v := .ty "list") g16_list z_list bo_list rfl nn_list gd_list) (qpa_cons (qpe_bltn (v := .ty "tuple") g16_tuple z_tuple bo_tuple rfl nn_tuple gd_tuple) qpa_nil se_Name) se_Name)) qpa_nil)) nn_isinstance gd_isinstance)))), ?_⟩
  (try dsimp only [cxOf])
  cases kd with
  | list =>
    have hx : H a = some (.lst xs) := hx
    walk_at "rd"
    exact q _ (Ch.new (by assumption) _)
  | tuple =>
    have hx : H a = some (.tup xs) := hx
    walk_at "rd"
    exact q _ (Ch.new (by assumption) _)
theorem g17_isinstance : Gi (defScope (top 17)) "isinstance" := by decide +kernel
theorem v17_0 : Vs (defScope (top 17)) "thing" := by decide +kernel
theorem d17_0 : Nd "thing" := by decide +kernel
theorem c17_0 : Nc "thing" := by decide +kernel
theorem g17_str : Gi (defScope (top 17)) "str" := by decide +kernel
theorem g17_len : Gi (defScope (top 17)) "len" := by decide +kernel
theorem g17_tuple : Gi (defScope (top 17)) "tuple" := by decide +kernel
theorem g17_is_below : Gi (defScope (top 17)) "is_below" := by decide +kernel
theorem v17_1 : Vs (defScope (top 17)) "counts" := by decide +kernel
theorem d17_1 : Nd "counts" := by decide +kernel
theorem c17_1 : Nc "counts" := by decide +kernel
def spPlaceG : Sp := fun vs H Q _ => ∃ (p cd : Addr) (a c : Nat) (xs : List V), vs = [.ref p, .ref cd] ∧ PgAt H xs p ∧ H cd = some (.dK (cntK a c)) ∧ Q (.bl (plB a c xs)) H
theorem scPlace : FnScope ["thing", "counts"] ["thing", "counts"] (defScope (top 17)) := ⟨rfl, rfl, rfl, by decide +kernel, rfl, by decide +kernel, by decide +kernel⟩
theorem ok_placeG (F : Fun K "is_place" "is_place" (top 17) f fd) (Dis_below : DefOk P w K mg base CX0 k "is_below" ["thing", "bound"] spBelowG) (z_isinstance : mg "isinstance" = none) (z_tuple : mg "tuple" = none) (z_str : mg "str" = none) (z_len : mg "len" = none) : FnOk P w K mg base CX0 (k + 1) f fd ["thing", "counts"] spPlaceG := by
  have nd := scPlace.nd
  refine F.ok scPlace (fun vs H Q E h => by obtain ⟨p, cd, a, c, x, rfl, _⟩ := h; rfl) (fun cdv A outer s H vs Q E hr h => ?_)
  obtain ⟨p, cd, a, c, xs, rfl, ⟨hp, px⟩, hc, q⟩ := h
  have hu := hu_of hr
  refine ⟨_, (Pr.h (qpss_cons (qps_if (qPW_pt (qpw_or (qpt_not (qpt_val (qpe_callB call_isT g17_isinstance z_isinstance bo_isinstance (qpa_cons (qpe_var (i := 0) rfl v17_0 d17_0 c17_0) (qpa_cons (qpe_bltn (v := .ty "tuple") g17_tuple z_tuple bo_tuple rfl nn_tuple gd_tuple) qpa_nil)) nn_isinstance gd_isinstance))) (qpw_or (qpt_cmpR op_ne (qpe_callB call_len_seq g17_len z_len PySem.boot_len (qpa_cons (qpe_var (i := 0) rfl v17_0 d17_0 c17_0) qpa_nil se_Name) nn_len gd_len) qpe_int (nomark _)) (qpw_or1 (qpt_not (qpt_val (qpe_callB call_isT g17_isinstance z_isinstance bo_isinstance (qpa_cons (qpe_ix ixa_tup (qpe_var (i := 0) rfl v17_0 d17_0 c17_0) qpe_int (fun _ _ => rfl)) (qpa_cons (qpe_bltn (v := .ty "str") g17_str z_str bo_str rfl nn_str gd_str) qpa_nil)) nn_isinstance gd_isinstance)))))))
  (qpss_one (qps_ret qpe_bl))
  qpss_nil)
 (qpss_one (qps_ret (qpe_and (qpe_din hu (qpe_ix ixa_tup (qpe_var (i := 0) rfl v17_0 d17_0 c17_0) qpe_int (fun _ _ => rfl)) (qpe_var (i := 1) rfl v17_1 d17_1 c17_1)) (qpe_one (qpe_callD Dis_below hr g17_is_below pass0 (qpa_cons (qpe_ix ixa_tup (qpe_var (i := 0) rfl v17_0 d17_0 c17_0) qpe_int (fun _ _ => rfl)) (qpa_cons (qpe_dgetT hu (qpe_var (i := 1) rfl v17_1 d17_1 c17_1) (qpe_ix ixa_tup (qpe_var (i := 0) rfl v17_0 d17_0 c17_0) qpe_int (fun _ _ => rfl)) (fun _ _ => rfl)) qpa_nil se_Subscript) se_Subscript) gd_is_below))))))), ?_⟩
  (try dsimp only [cxOf])
  rcases px with hx | ⟨w, n, rfl⟩
  · rw [plB_odd hx] at q
    walk_at "rd"
    refine ite2 (fun _ => ?_) (fun h2 => absurd (len_two h2) hx)
    walk_at "rd"
    exact q
  · have q : Q (.bl (inB (valV (cntK a c) (.inr w)) n)) H := q
    cases cv : valV (cntK a c) (.inr w) with
    | none =>
      rw [cv] at q
      walk_at "rd"
      exact q
    | some v =>
      obtain ⟨m, rfl⟩ := cnt_int cv
      rw [cv] at q
      have t : Th H (.int n) := .int n
      walk_at "rd"
      exact q
theorem g19_len : Gi (defScope (top 19)) "len" := by decide +kernel
theorem v19_0 : Vs (defScope (top 19)) "thing" := by decide +kernel
theorem d19_0 : Nd "thing" := by decide +kernel
theorem c19_0 : Nc "thing" := by decide +kernel
theorem g19_is_listed : Gi (defScope (top 19)) "is_listed" := by decide +kernel
theorem g19_isinstance : Gi (defScope (top 19)) "isinstance" := by decide +kernel
theorem g19_tuple : Gi (defScope (top 19)) "tuple" := by decide +kernel
theorem g19_all : Gi (defScope (top 19)) "all" := by decide +kernel
def csc19_0 : Scope := { kind := PySem.ScopeKind.function, names := [ (PySem.Str.ofString ".0", PySem.NameKind.local), (PySem.Str.ofString "leaf", PySem.NameKind.local), (PySem.Str.ofString "is_place", PySem.NameKind.globalImplicit), (PySem.Str.ofString "counts", PySem.NameKind.free)], isGenerator := false, isCoroutine := false, more := [] : PySem.Scope }
theorem cok19_0 : CompOk csc19_0 (defScope (top 19)) (["leaf"] : List Str) (["thing", "counts"] : List Str) [1] (["leaf", "counts"] : List Str) := compOk rfl (by decide +kernel) (by decide +kernel) (by decide +kernel) (by decide +kernel) rfl (by decide +kernel)
theorem kq19_0_0 : (relab csc19_0 (defScope (top 19))).names.lookup (Str.ofString "leaf") = some NameKind.local := by decide +kernel
theorem gq19_0_is_place : Gi (relab csc19_0 (defScope (top 19))) "is_place" := by decide +kernel
theorem vq19_0_1 : Vs (relab csc19_0 (defScope (top 19))) "counts" := by decide +kernel
theorem dq19_0_1 : Nd "counts" := by decide +kernel
theorem cq19_0_1 : Nc "counts" := by decide +kernel
theorem vq19_0_0 : Vs (relab csc19_0 (defScope (top 19))) "leaf" := by decide +kernel
theorem dq19_0_0 : Nd "leaf" := by decide +kernel
theorem cq19_0_0 : Nc "leaf" := by decide +kernel
theorem g19_is_below : Gi (defScope (top 19)) "is_below" := by decide +kernel
def spTableG : Sp := fun vs H Q _ => ∃ (kd : SK) (p cd : Addr) (a c : Nat) (t : TG), vs = [.ref p, .ref cd] ∧ TgAt kd H t p ∧ H cd = some (.dK (cntK a c)) ∧ ∀ H', Ch [] H H' → Q (.bl (tgB a c t)) H'
theorem scTable : FnScope ["thing", "counts"] ["thing", "counts"] (defScope (top 19)) := ⟨rfl, rfl, rfl, by decide +kernel, rfl, by decide +kernel, by decide +kernel⟩
theorem ok_tableG (F : Fun K "is_table" "is_table" (top 19) f fd) (Dis_below : DefOk P w K mg base CX0 k "is_below" ["thing", "bound"] spBelowG) (Dis_listed : DefOk P w K mg base CX0 k "is_listed" ["thing"] spListed) (Dis_place : DefOk P w K mg base CX0 k "is_place" ["thing", "counts"] spPlaceG) (z_isinstance : mg "isinstance" = none) (z_tuple : mg "tuple" = none) (z_all : mg "all" = none) (z_len : mg "len" = none) : FnOk P w K mg base CX0 (k + 1) f fd ["thing", "counts"] spTableG := by
  have nd := scTable.nd
  refine F.ok scTable (fun vs H Q E h => by obtain ⟨kd, p, cd, a, c, t, rfl, _⟩ := h; rfl) (fun cdv A outer s H vs Q E hr h => ?_)
  obtain ⟨kd, p, cd, a, c, t, rfl, tg, hc, q⟩ := h
  have hu := hu_of hr
  refine ⟨_, (Pr.h (qpss_cons (qps_if (qPW_pt (qpw_or (qpt_not (qpt_val (qpe_callB call_isT g19_isinstance z_isinstance bo_isinstance (qpa_cons (qpe_var (i := 0) rfl v19_0 d19_0 c19_0) (qpa_cons (qpe_bltn (v := .ty "tuple") g19_tuple z_tuple bo_tuple rfl nn_tuple gd_tuple) qpa_nil)) nn_isinstance gd_isinstance))) (qpw_or (qpt_cmpR op_ne (qpe_callB call_len_seq g19_len z_len PySem.boot_len (qpa_cons (qpe_var (i := 0) rfl v19_0 d19_0 c19_0) qpa_nil se_Name) nn_len gd_len) qpe_int (nomark _)) (qpw_or (qpt_not (qpt_val (qpe_callD Dis_listed hr g19_is_listed pass0 (qpa_cons (qpe_ix ixa_tup (qpe_var (i := 0) rfl v19_0 d19_0 c19_0) qpe_int (fun _ _ => rfl)) qpa_nil se_Subscript) gd_is_listed))) (qpw_or1 (qpt_cmpR op_gt (qpe_callB call_len_seq g19_len z_len PySem.boot_len (qpa_cons (qpe_ix ixa_tup (qpe_var (i := 0) rfl v19_0 d19_0 c19_0) qpe_int (fun _ _ => rfl)) qpa_nil se_Subscript) nn_len gd_len) qpe_int (nomark _)))))))
  (qpss_one (qps_ret qpe_bl))
  qpss_nil)
 (qpss_one (qps_ret (qpe_and (qpe_callD Dis_below hr g19_is_below pass0 (qpa_cons (qpe_ix ixa_tup (qpe_var (i := 0) rfl v19_0 d19_0 c19_0) qpe_int (fun _ _ => rfl)) (qpa_cons (qpe_op op_shl qpe_int (qpe_op op_shl qpe_int (qpe_callB call_len_seq g19_len z_len PySem.boot_len (qpa_cons (qpe_ix ixa_tup (qpe_var (i := 0) rfl v19_0 d19_0 c19_0) qpe_int (fun _ _ => rfl)) qpa_nil se_Subscript) nn_len gd_len))) qpa_nil se_BinOp) se_Subscript) gd_is_below) (qpe_one (qpe_callB (call_all rfl) g19_all z_all bo_all (qpa_cons (qpe_comp rfl cok19_0 (qpi_sqK K rfl kd (qpe_ix ixa_tup (qpe_var (i := 0) rfl v19_0 d19_0 c19_0) qpe_int (fun _ _ => rfl))) (fun _ _ _ _ _ => (qpg_name (i := 0) cok19_0.nd rfl (Or.inl kq19_0_0) (Or.inr kq19_0_0))) (fun _ _ _ _ _ => qpif_nil) (fun _ _ _ _ _ => (qpe_callD Dis_place hr gq19_0_is_place pass0 (qpa_cons (qpe_var (i := 0) rfl vq19_0_0 dq19_0_0 cq19_0_0) (qpa_cons (qpe_var (i := 1) rfl vq19_0_1 dq19_0_1 cq19_0_1) qpa_nil se_Name) se_Name) gd_is_place))) qpa_nil se_ListComp) nn_all gd_all))))))), ?_⟩
  (try dsimp only [cxOf])
  cases t with
  | odd =>
    obtain ⟨ys, hp, hx⟩ := tg
    walk_at "rd"
    refine ite2 (fun _ => ?_) (fun h2 => absurd (len_two h2) hx)
    walk_at "rd"
    exact q _ (Ch.refl _ _)
  | tb ls bits =>
    obtain ⟨lp, ps, hp, hs, ws⟩ := tg
    have ll := Paired.length ws
    walk_at "rd"
    rename_i H1 c1
    have hs1 := hs.ch c1
    have hp1 : H1 p = some (.tup [.ref lp, .int bits]) := c1.get hp (by simp)
    have hc1 : H1 cd = some (.dK (cntK a c)) := c1.get hc (by simp)
    have ws1 := paired_imp (fun _ _ e => PgAt.tu (Tu.same c1) e) ws
    have so : SqL K H1 lp (ps.map V.ref) ∨ SqT K H1 lp (ps.map V.ref) := hs1.or
    refine ⟨so, ?_⟩
    clear hp hs ws
    by_cases l4 : ls.length ≤ 4
    · walk_at "rd"
      refine ite2 (fun hc => absurd (of_decide_eq_true hc) (by rw [List.length_map]; omega)) (fun _ => ?_)
      have lm : (ps.map V.ref).length = ls.length := by rw [List.length_map, ll]
      have p0 : (0 : Int) ≤ 1 * 2 ^ ((ps.map V.ref).length : Int).toNat := by rw [Int.one_mul]; exact Int.le_of_lt (Int.pow_pos (by decide))
      have p1 : (1 : Int) * 2 ^ ((ps.map V.ref).length : Int).toNat ≤ 16 := by
        rw [Int.toNat_natCast]
        have e5 : (ps.map V.ref).length = 0 ∨ (ps.map V.ref).length = 1 ∨ (ps.map V.ref).length = 2 ∨ (ps.map V.ref).length = 3 ∨ (ps.map V.ref).length = 4 := by omega
        rcases e5 with e | e | e | e | e <;> rw [e] <;> decide
      have tb : Th H1 (.int bits) := .int bits
      have eq : tgB a c (.tb ls bits) = (belB (.int bits) (1 * 2 ^ (1 * 2 ^ ((ps.map V.ref).length : Int).toNat : Int).toNat) && ls.all (plB a c)) := by
        show (decide _ && _) = _
        rw [decide_eq_true l4, Bool.true_and, lm]
        rfl
      rw [eq] at q
      clear eq
      walk_at "rd"
      refine ite2 (fun hb => ?_) (fun hb => ?_)
      · rw [hb, Bool.true_and] at q
        clear hb p0 p1 tb
        walk_at "rd"
        refine ⟨⟨_, hs1.sq⟩, ?_⟩
        refine comp_sq (ps.map V.ref) (fun i ys σ H' => H' = H1 ∧ ys = ((ls.take i).map (plB a c)).map V.bl ∧ ∃ u, σ = [u, some (.ref cd)]) (by rw [sizeLine_eq]; omega) ⟨rfl, rfl, _, rfl⟩ ?_ ?_ ?_
        · rintro i ys σ H' hi ⟨rfl, rfl, _⟩
          exact ⟨by simp; omega, hs1.sq⟩
        · rintro i ys σ H' z hz ⟨rfl, rfl, u, rfl⟩
          obtain ⟨pl, x, rfl, es, e2⟩ := paired_get ws1 i z hz
          walk_at "rd"
          refine ⟨?_, _, rfl⟩
          rw [List.take_add_one, es]; simp
        · rintro ys σ H' ⟨rfl, rfl, _⟩
          rw [lm, List.take_length]
          intro D hD
          refine ⟨D, ls.map (plB a c), rfl, by rw [upd_same], ?_⟩
          rw [List.all_map]
          exact q _ (c1.trans (Ch.new hD _))
      · rw [Bool.eq_false_iff.mpr hb, Bool.false_and] at q
        exact q _ c1
    · have e0 : tgB a c (.tb ls bits) = false := by show (decide _ && _) = _; rw [decide_eq_false l4, Bool.false_and]
      rw [e0] at q
      walk_at "rd"
      refine ite2 (fun _ => ?_) (fun hc => absurd (by simp; omega) hc)
      walk_at "rd"
      exact q _ c1
theorem g21_is_table : Gi (defScope (top 21)) "is_table" := by decide +kernel
theorem v21_1 : Vs (defScope (top 21)) "counts" := by decide +kernel
theorem d21_1 : Nd "counts" := by decide +kernel
theorem c21_1 : Nc "counts" := by decide +kernel
theorem v21_0 : Vs (defScope (top 21)) "thing" := by decide +kernel
theorem d21_0 : Nd "thing" := by decide +kernel
theorem c21_0 : Nc "thing" := by decide +kernel
theorem g21_len : Gi (defScope (top 21)) "len" := by decide +kernel
theorem g21_isinstance : Gi (defScope (top 21)) "isinstance" := by decide +kernel
theorem g21_tuple : Gi (defScope (top 21)) "tuple" := by decide +kernel
theorem g21_is_below : Gi (defScope (top 21)) "is_below" := by decide +kernel
def spBlockG : Sp := fun vs H Q _ => ∃ (kd : SK) (p cd : Addr) (a c : Nat) (t : BG), vs = [.ref p, .ref cd] ∧ BgAt kd H t p ∧ H cd = some (.dK (cntK a c)) ∧ ∀ H', Ch [] H H' → Q (.bl (bkB a c t)) H'
theorem scBlock : FnScope ["thing", "counts"] ["thing", "counts"] (defScope (top 21)) := ⟨rfl, rfl, rfl, by decide +kernel, rfl, by decide +kernel, by decide +kernel⟩
theorem ok_blockG (F : Fun K "is_block" "is_block" (top 21) f fd) (Dis_below : DefOk P w K mg base CX0 k "is_below" ["thing", "bound"] spBelowG) (Dis_table : DefOk P w K mg base CX0 k "is_table" ["thing", "counts"] spTableG) (z_isinstance : mg "isinstance" = none) (z_tuple : mg "tuple" = none) (z_len : mg "len" = none) : FnOk P w K mg base CX0 (k + 1) f fd ["thing", "counts"] spBlockG := by
  have nd := scBlock.nd
  refine F.ok scBlock (fun vs H Q E h => by obtain ⟨kd, p, cd, a, c, t, rfl, _⟩ := h; rfl) (fun cdv A outer s H vs Q E hr h => ?_)
  obtain ⟨kd, p, cd, a, c, t, rfl, bg, hc, q⟩ := h
  refine ⟨_, (Pr.h (qpss_cons (qps_if (qPW_pt (qpw_or (qpt_not (qpt_val (qpe_callB call_isT g21_isinstance z_isinstance bo_isinstance (qpa_cons (qpe_var (i := 0) rfl v21_0 d21_0 c21_0) (qpa_cons (qpe_bltn (v := .ty "tuple") g21_tuple z_tuple bo_tuple rfl nn_tuple gd_tuple) qpa_nil)) nn_isinstance gd_isinstance))) (qpw_or (qpt_cmpR op_ne (qpe_callB call_len_seq g21_len z_len PySem.boot_len (qpa_cons (qpe_var (i := 0) rfl v21_0 d21_0 c21_0) qpa_nil se_Name) nn_len gd_len) qpe_int (nomark _)) (qpw_or1 (qpt_not (qpt_val (qpe_callD Dis_table hr g21_is_table pass0 (qpa_cons (qpe_slice sl_tup (qpe_var (i := 0) rfl v21_0 d21_0 c21_0) qpo_none (qpo_some qpe_int)) (qpa_cons (qpe_var (i := 1) rfl v21_1 d21_1 c21_1) qpa_nil se_Name) se_Subscript) gd_is_table)))))))
  (qpss_one (qps_ret qpe_bl))
  qpss_nil)
 (qpss_one (qps_ret (qpe_and (qpe_callD Dis_below hr g21_is_below pass0 (qpa_cons (qpe_ix ixa_tup (qpe_var (i := 0) rfl v21_0 d21_0 c21_0) qpe_int (fun _ _ => rfl)) (qpa_cons qpe_int qpa_nil se_Constant) se_Subscript) gd_is_below) (qpe_one (qpe_callD Dis_below hr g21_is_below pass0 (qpa_cons (qpe_ix ixa_tup (qpe_var (i := 0) rfl v21_0 d21_0 c21_0) qpe_int (fun _ _ => rfl)) (qpa_cons (qpe_op op_add (qpe_ix ixa_tup (qpe_var (i := 0) rfl v21_0 d21_0 c21_0) qpe_int (fun _ _ => rfl)) qpe_int) qpa_nil se_BinOp) se_Subscript) gd_is_below))))))), ?_⟩
  (try dsimp only [cxOf])
  cases t with
  | odd =>
    obtain ⟨ys, hp, hx⟩ := bg
    walk_at "rd"
    refine ite2 (fun _ => ?_) (fun h2 => absurd (len_four h2) hx)
    walk_at "rd"
    exact q _ (Ch.refl _ _)
  | bk ls bits kept first =>
    obtain ⟨lp, ps, hp, hs, ws⟩ := bg
    have q : ∀ H', Ch [] H H' → Q (.bl (tgB a c (.tb ls bits) && (belB (.int kept) 2 && belB (.int first) (kept + 1)))) H' := q
    walk_at "rd"
    refine ⟨(show ¬((0 : Nat) = 0 ∧ (2 : Nat) = 4) from by omega), fun T hT => ?_⟩
    walk_at "rd"
    have cT : Ch [] H (upd H T (.tup [.ref lp, .int bits])) := Ch.new hT _
    have tg : TgAt kd (upd H T (.tup [.ref lp, .int bits])) (.tb ls bits) T := ⟨lp, ps, upd_same, hs.ch cT, paired_imp (fun _ _ e => PgAt.tu (Tu.same cT) e) ws⟩
    refine ⟨tg, g_new hT hc, fun H2 c2 => ?_⟩
    have c02 : Ch [] H H2 := cT.trans c2
    have hp2 := c02.get hp (by simp)
    have tk : Th H2 (.int kept) := .int _
    have tf : Th H2 (.int first) := .int _
    clear cT c2 tg hs ws
    walk_at "rd"
    refine ite2 (fun hb => ?_) (fun hb => ?_)
    · rw [show tgB a c (.tb ls bits) = false from by simpa using hb] at q
      walk_at "rd"
      exact q _ c02
    · rw [show tgB a c (.tb ls bits) = true from by simpa using hb, Bool.true_and] at q
      walk_at "rd"
      refine ite2 (fun hk => ?_) (fun hk => ?_)
      · rw [hk, Bool.true_and] at q
        walk_at "rd"
        exact q _ c02
      · rw [Bool.eq_false_iff.mpr hk, Bool.false_and] at q
        exact q _ c02
end
end

section
def nV (a : Nat) : V := .int (a : Int)
structure Bk where
  ss : List Src
  bits : Int
  kept : Int
  first : Int
def sg (s : Src) : List V := [.str (wd s.1), .int (s.2 : Int)]
def Bk.g (b : Bk) : BG := .bk (b.ss.map sg) b.bits b.kept b.first
structure Bk.ok (ins many : Nat) (b : Bk) : Prop where
  s4 : b.ss.length ≤ 4
  so : ∀ s ∈ b.ss, s.2 < lim ins many s.1
  b0 : 0 ≤ b.bits
  b1 : b.bits < room b.ss.length
  k : b.kept = 0 ∨ b.kept = 1
  f0 : 0 ≤ b.first
  f1 : b.first ≤ b.kept
abbrev BkAt (kd : SK) (H : Hp) (b : Bk) (p : Addr) : Prop := BgAt kd H b.g p
abbrev BsAt (kd : SK) (H : Hp) : List Bk → List Addr → Prop := Paired (BkAt kd H)
theorem bs_ch {kd : SK} {H H' : Hp} (c : Ch [] H H') {bs : List Bk} {ps : List Addr} (s : BsAt kd H bs ps) : BsAt kd H' bs ps := paired_imp (fun _ _ e => BgAt.ch c e) s
theorem bs_get {kd : SK} {H : Hp} : ∀ {bs : List Bk} {ps : List Addr}, BsAt kd H bs ps → ∀ (i : Nat), i < bs.length → ∃ p b, (ps.map V.ref)[i]? = some (.ref p) ∧ bs[i]? = some b ∧ BkAt kd H b p
  | _, _, .nil, i, h => by simp at h
  | b :: bs, p :: ps, .cons a t, 0, _ => ⟨p, b, rfl, rfl, a⟩
  | b :: bs, p :: ps, .cons a t, i + 1, h => by
    obtain ⟨p', b', e1, e2, e3⟩ := bs_get t i (by simpa using h)
    exact ⟨p', b', by simpa using e1, by simpa using e2, e3⟩
theorem bs_at {kd : SK} {H : Hp} {bs : List Bk} {ps : List Addr} (s : BsAt kd H bs ps) (i : Nat) (h : i < bs.length) : ∃ p b, atI (ps.map V.ref) (i : Int) = some (.ref p) ∧ bs[i]? = some b ∧ BkAt kd H b p := by
  obtain ⟨p, b, e1, e2, e3⟩ := bs_get s i h
  exact ⟨p, b, atI_nat e1, e2, e3⟩
def loB (bs : List Bk) (n : Nat) : Bool := match bs[n]? with
  | some b => decide (b.kept = 0)
  | none => false
def lsOf (bs : List Bk) (n : Nat) : List Nat := match bs[n]? with
  | some b => (b.ss.filter fun s => s.1 && loB bs s.2).map (·.2)
  | none => []
def looseOf (bs : List Bk) : List Nat := (List.range bs.length).filter (loB bs)
theorem loB_of {bs : List Bk} {n : Nat} {b : Bk} (h : bs[n]? = some b) : loB bs n = decide (b.kept = 0) := by unfold loB; rw [h]
theorem lsOf_of {bs : List Bk} {n : Nat} {b : Bk} (h : bs[n]? = some b) : lsOf bs n = (b.ss.filter fun s => s.1 && loB bs s.2).map (·.2) := by unfold lsOf; rw [h]
section
variable {P : Program} {w : World} {K : PySem.W.Frag} {mg : Str → Option Value} {base : Heap} {f : Addr} {fd : FuncData} {k : Nat}
theorem bo_dict : bootBuiltins "dict" = some (.type "dict") := by decide +kernel
theorem gd_loose_sources : Nd "loose_sources" := by decide +kernel
theorem nn_dict : ("dict" : Str) ≠ "__name__" := by decide +kernel
theorem gd_dict : Nd "dict" := by decide +kernel
theorem gd_loose_order : Nd "loose_order" := by decide +kernel
theorem v22_0 : Vs (defScope (top 22)) "blocks" := by decide +kernel
theorem d22_0 : Nd "blocks" := by decide +kernel
theorem c22_0 : Nc "blocks" := by decide +kernel
theorem v22_1 : Vs (defScope (top 22)) "number" := by decide +kernel
theorem d22_1 : Nd "number" := by decide +kernel
theorem c22_1 : Nc "number" := by decide +kernel
def csc22_0 : Scope := { kind := PySem.ScopeKind.function, names := [ (PySem.Str.ofString ".0", PySem.NameKind.local), (PySem.Str.ofString "word", PySem.NameKind.local), (PySem.Str.ofString "other", PySem.NameKind.local), (PySem.Str.ofString "blocks", PySem.NameKind.free)], isGenerator := false, isCoroutine := false, more := [] : PySem.Scope }
theorem cok22_0 : CompOk csc22_0 (defScope (top 22)) (["word", "other"] : List Str) (["blocks", "number"] : List Str) [0] (["word", "other", "blocks"] : List Str) := compOk rfl (by decide +kernel) (by decide +kernel) (by decide +kernel) (by decide +kernel) rfl (by decide +kernel)
theorem kq22_0_1 : (relab csc22_0 (defScope (top 22))).names.lookup (Str.ofString "other") = some NameKind.local := by decide +kernel
theorem kq22_0_0 : (relab csc22_0 (defScope (top 22))).names.lookup (Str.ofString "word") = some NameKind.local := by decide +kernel
theorem vq22_0_2 : Vs (relab csc22_0 (defScope (top 22))) "blocks" := by decide +kernel
theorem dq22_0_2 : Nd "blocks" := by decide +kernel
theorem cq22_0_2 : Nc "blocks" := by decide +kernel
theorem vq22_0_1 : Vs (relab csc22_0 (defScope (top 22))) "other" := by decide +kernel
theorem dq22_0_1 : Nd "other" := by decide +kernel
theorem cq22_0_1 : Nc "other" := by decide +kernel
theorem vq22_0_0 : Vs (relab csc22_0 (defScope (top 22))) "word" := by decide +kernel
theorem dq22_0_0 : Nd "word" := by decide +kernel
theorem cq22_0_0 : Nc "word" := by decide +kernel
def spLS : Sp := fun vs H Q _ => ∃ (kd kd2 : SK) (bl : Addr) (n ins : Nat) (bs : List Bk) (ps : List Addr), vs = [.ref bl, .int (n : Int)] ∧ SqX kd H bl (ps.map V.ref) ∧ BsAt kd2 H bs ps ∧ (∀ b ∈ bs, b.ok ins bs.length) ∧ n < bs.length ∧
  ∀ p H', Ch [] H H' → H p = none → H' p = some (.lst ((lsOf bs n).map nV)) → Q (.ref p) H'
theorem scLS : FnScope ["blocks", "number"] ["blocks", "number"] (defScope (top 22)) := ⟨rfl, rfl, rfl, by decide +kernel, rfl, by decide +kernel, by decide +kernel⟩
theorem ok_ls (F : Fun K "loose_sources" "loose_sources" (top 22) f fd) : FnOk P w K mg base CX0 (k + 1) f fd ["blocks", "number"] spLS := by
  have nd := scLS.nd
  refine F.ok scLS (fun vs H Q E h => by obtain ⟨kd, kd2, bl, n, ins, bs, ps, rfl, _⟩ := h; rfl) (fun cdv A outer s H vs Q E hr h => ?_)
  obtain ⟨kd, kd2, bl, n, ins, bs, ps, rfl, hb, bt, ok, hn, q⟩ := h
  obtain ⟨p, b, e1, e2, ⟨lp, sps, hp, hs, ws⟩⟩ := bs_at bt n hn
  have okb := ok b (List.mem_of_getElem? e2)
  have ls := Paired.length ws
  rw [List.length_map] at ls
  have s4 := okb.s4
  refine ⟨_, (Pr.h (qpss_one (qps_ret (qpe_comp rfl cok22_0 (qpi_sqK K rfl kd2 (qpe_ix ixa_tup (qpe_ix (ixaK_sq K rfl) (qpe_var (i := 0) rfl v22_0 d22_0 c22_0) (qpe_var (i := 1) rfl v22_1 d22_1 c22_1) (fun _ _ => rfl)) qpe_int (fun _ _ => rfl))) (fun _ _ _ _ _ => (qpg_tupK K 2 rfl rfl (qpgs_cons (qpg_name (i := 0) cok22_0.nd rfl (Or.inl kq22_0_0) (Or.inr kq22_0_0)) (qpgs_cons (qpg_name (i := 1) cok22_0.nd rfl (Or.inl kq22_0_1) (Or.inr kq22_0_1)) qpgs_nil)))) (fun _ _ _ _ _ => (qpif_one (qPW_pt (qpw_and (qpt_cmpR op_eq (qpe_var (i := 0) rfl vq22_0_0 dq22_0_0 cq22_0_0) qpe_str (nomark _)) (qpw_and1 (qpt_cmpR op_eq (qpe_ix (ixaK_tup K rfl) (qpe_ix (ixaK_sq K rfl) (qpe_var (i := 2) rfl vq22_0_2 dq22_0_2 cq22_0_2) (qpe_var (i := 1) rfl vq22_0_1 dq22_0_1 cq22_0_1) (fun _ _ => rfl)) qpe_int (fun _ _ => rfl)) qpe_int (nomark _))))))) (fun _ _ _ _ _ => (qpe_var (i := 1) rfl vq22_0_1 dq22_0_1 cq22_0_1)))))), ?_⟩
  (try dsimp only [cxOf])
  have so0 : SqL K H bl (ps.map V.ref) ∨ SqT K H bl (ps.map V.ref) := hb.or
  walk_at "rd"
  refine ⟨⟨_, hs.sq⟩, ?_⟩
  refine comp_sq (sps.map V.ref) (fun i ys σ H' => H' = H ∧ ys = (((b.ss.take i).filter fun s => s.1 && loB bs s.2).map (·.2)).map nV ∧ ∃ u v, σ = [u, v, some (.ref bl)]) (by rw [sizeLine_eq, List.length_map]; omega) ⟨rfl, rfl, _, _, rfl⟩ ?_ ?_ ?_
  · rintro i ys σ H' hi ⟨rfl, rfl, _⟩
    refine ⟨?_, hs.sq⟩
    rw [List.length_map, List.length_map]
    exact Nat.le_trans (List.length_filter_le _ _) (by rw [List.length_take]; omega)
  · rintro i ys σ H' z hz ⟨rfl, rfl, u, v, rfl⟩
    obtain ⟨pl, x, rfl, g1, ⟨g2, _⟩⟩ := paired_get ws i z hz
    rw [List.getElem?_map] at g1
    obtain ⟨sr, es, rfl⟩ := Option.map_eq_some_iff.mp g1
    have so := okb.so sr (List.mem_of_getElem? es)
    have et : b.ss.take (i + 1) = b.ss.take i ++ [sr] := by rw [List.take_add_one, es]; rfl
    rw [et, List.filter_append, List.map_append, List.map_append]
    obtain ⟨sb, sn⟩ := sr
    cases sb with
    | false =>
      have g2 : H' pl = some (.tup [.str "in", .int (sn : Int)]) := g2
      walk_at "rd"
      exact ⟨by simp, _, _, rfl⟩
    | true =>
      have g2 : H' pl = some (.tup [.str "block", .int (sn : Int)]) := g2
      have so : sn < bs.length := so
      obtain ⟨p2, b2, k1, k2, ⟨_, _, k3, _⟩⟩ := bs_at bt sn so
      have lo := loB_of k2
      walk_at "rd"
      refine ite2 (fun hc => ?_) (fun hc => ?_)
      · have hk : b2.kept = 0 := by simpa using hc
        rw [hk] at lo
        exact ⟨_, rfl, rfl, by simp [lo]; rfl, _, _, rfl⟩
      · have hk : b2.kept ≠ 0 := by simpa using hc
        exact ⟨rfl, by simp [lo, hk], _, _, rfl⟩
  · rintro ys σ H' ⟨rfl, rfl, _⟩
    intro D hD
    refine q D _ (Ch.new hD _) hD ?_
    rw [upd_same, List.length_map, ← ls, List.take_length, lsOf_of e2]
end
local macro_rules | `(tactic| walk_at "user") => `(tactic| first
  | (apply dgetI_some; (focus walk_at "get"); (focus with_reducible assumption))
  | (apply dputI; (focus walk_at "get"); (focus with_reducible assumption)))
def wD (l : List Nat) (g : Nat → V) : List (Key × V) := l.map fun (n : Nat) => ((Sum.inl (n : Int) : Key), g n)
theorem wD_val {l : List Nat} {g : Nat → V} {n : Nat} (h : n ∈ l) : valV (wD l g) (.inl (n : Int)) = some (g n) := by
  induction l with
  | nil => simp at h
  | cons m l ih =>
    by_cases e : m = n
    · subst e; exact valV_pos (κ := Key) rfl
    · show valV (((Sum.inl (m : Int) : Key), g m) :: wD l g) _ = _
      have e' : ¬ ((Sum.inl (m : Int) : Key) = Sum.inl (n : Int)) := fun z => e (by injection z with z; omega)
      rw [valV_neg e']
      exact ih (by simpa [Ne.symm e] using h)
theorem wD_put {l : List Nat} {g : Nat → V} {n : Nat} (v : V) (h : n ∈ l) : putK (wD l g) (.inl (n : Int)) v = wD l (fun m => if m = n then v else g m) := by
  unfold putK
  rw [valV_any, wD_val h, if_pos (show (some (g n)).isSome = true from rfl)]
  unfold wD
  rw [List.map_map]
  refine List.map_congr_left fun m _ => ?_
  by_cases e : m = n
  · subst e; simp
  · have e' : ¬ ((Sum.inl (m : Int) : Key) = Sum.inl (n : Int)) := fun z => e (by injection z with z; omega)
    simp only [Function.comp, if_neg e', if_neg e]
theorem wD_congr {l : List Nat} {g g' : Nat → V} (h : ∀ n ∈ l, g n = g' n) : wD l g = wD l g' := List.map_congr_left fun n hn => by rw [h n hn]
theorem wD_keys {l : List Nat} {g : Nat → V} (h : l.Nodup) : ((wD l g).map (·.1)).Nodup := by
  unfold wD
  rw [List.map_map]
  induction l with
  | nil => simp
  | cons n l ih =>
    obtain ⟨a, b⟩ := List.nodup_cons.mp h
    rw [List.map_cons, List.nodup_cons]
    refine ⟨fun z => ?_, ih b⟩
    obtain ⟨m, hm, e⟩ := List.mem_map.mp z
    have e : (Sum.inl (m : Int) : Key) = Sum.inl (n : Int) := e
    have : m = n := by injection e with e; omega
    exact a (this ▸ hm)
def laD (la : List (Nat × Addr)) : List (Key × V) := la.map fun p => ((Sum.inl (p.1 : Int) : Key), V.ref p.2)
structure Fed (H0 H : Hp) (fd : Addr) (la : List (Nat × Addr)) (F : Nat → List Nat) : Prop where
  at_ : H fd = some (.dK (laD la))
  ls : ∀ p ∈ la, H p.2 = some (.lst ((F p.1).map nV)) ∧ H0 p.2 = none
  n1 : (la.map (·.1)).Nodup
  n2 : (la.map (·.2)).Nodup
theorem Fed.ch {H0 H H' : Hp} {fd : Addr} {la : List (Nat × Addr)} {F : Nat → List Nat} (s : Fed H0 H fd la F) (c : Ch [] H H') : Fed H0 H' fd la F := ⟨c.get s.at_ (by simp), fun p hp => ⟨c.get (s.ls p hp).1 (by simp), (s.ls p hp).2⟩, s.n1, s.n2⟩
theorem Fed.put {H0 H : Hp} {fd q : Addr} {o : HO} {la : List (Nat × Addr)} {F : Nat → List Nat} (s : Fed H0 H fd la F) (h1 : fd ≠ q) (h2 : ∀ p ∈ la, p.2 ≠ q) : Fed H0 (upd H q o) fd la F := ⟨g_put h1 s.at_, fun p hp => ⟨g_put (h2 p hp) (s.ls p hp).1, (s.ls p hp).2⟩, s.n1, s.n2⟩
theorem nodup_fst {la : List (Nat × Addr)} (n1 : (la.map (·.1)).Nodup) {p q : Nat × Addr} (hp : p ∈ la) (hq : q ∈ la) (e : p.1 = q.1) : p = q := by
  induction la with
  | nil => simp at hp
  | cons a la ih =>
    rw [List.map_cons, List.nodup_cons] at n1
    rcases List.mem_cons.mp hp with e1 | hp' <;> rcases List.mem_cons.mp hq with e2 | hq'
    · rw [e1, e2]
    · exact absurd (List.mem_map.mpr ⟨q, hq', by rw [← e, e1]⟩) n1.1
    · exact absurd (List.mem_map.mpr ⟨p, hp', by rw [e, e2]⟩) n1.1
    · exact ih n1.2 hp' hq'
theorem nodup_snd {la : List (Nat × Addr)} (n2 : (la.map (·.2)).Nodup) {p q : Nat × Addr} (hp : p ∈ la) (hq : q ∈ la) (e : p.2 = q.2) : p = q := by
  induction la with
  | nil => simp at hp
  | cons a la ih =>
    rw [List.map_cons, List.nodup_cons] at n2
    rcases List.mem_cons.mp hp with e1 | hp' <;> rcases List.mem_cons.mp hq with e2 | hq'
    · rw [e1, e2]
    · exact absurd (List.mem_map.mpr ⟨q, hq', by rw [← e, e1]⟩) n2.1
    · exact absurd (List.mem_map.mpr ⟨p, hp', by rw [e, e2]⟩) n2.1
    · exact ih n2.2 hp' hq'
theorem Fed.add {H0 H : Hp} {fd : Addr} {la : List (Nat × Addr)} {F : Nat → List Nat} {p : Nat × Addr} {x : Nat} (s : Fed H0 H fd la F) (hp : p ∈ la) : Fed H0 (upd H p.2 (.lst ((F p.1).map nV ++ [nV x]))) fd la (fun m => if m = p.1 then F m ++ [x] else F m) := by
  refine ⟨g_put (ne_of s.at_ (s.ls p hp).1 (by intro z; cases z)) s.at_, fun r hr => ⟨?_, (s.ls r hr).2⟩, s.n1, s.n2⟩
  by_cases e : r.1 = p.1
  · have : r = p := nodup_fst s.n1 hr hp e
    subst this
    rw [upd_same, if_pos rfl, List.map_append]
    rfl
  · have ne : r.2 ≠ p.2 := fun z => e (by rw [nodup_snd s.n2 hr hp z])
    rw [upd_ne ne, if_neg e]
    exact (s.ls r hr).1
theorem laD_val {la : List (Nat × Addr)} (n1 : (la.map (·.1)).Nodup) {p : Nat × Addr} (hp : p ∈ la) : valV (laD la) (.inl (p.1 : Int)) = some (.ref p.2) := by
  induction la with
  | nil => simp at hp
  | cons q la ih =>
    rw [List.map_cons, List.nodup_cons] at n1
    rcases List.mem_cons.mp hp with rfl | hp
    · exact valV_pos (κ := Key) rfl
    · have ne : q.1 ≠ p.1 := fun e => n1.1 (e ▸ List.mem_map.mpr ⟨p, hp, rfl⟩)
      show valV (((Sum.inl (q.1 : Int) : Key), V.ref q.2) :: laD la) _ = _
      have e' : ¬ ((Sum.inl (q.1 : Int) : Key) = Sum.inl (p.1 : Int)) := fun z => ne (by injection z with z; omega)
      rw [valV_neg e']
      exact ih n1.2 hp
theorem Fed.of {H0 H : Hp} {fd : Addr} {la : List (Nat × Addr)} {F : Nat → List Nat} (s : Fed H0 H fd la F) {n : Nat} (hn : n ∈ la.map (·.1)) : ∃ a, valV (laD la) (.inl (n : Int)) = some (.ref a) ∧ (n, a) ∈ la ∧ H a = some (.lst ((F n).map nV)) := by
  obtain ⟨⟨m, a⟩, hp, rfl⟩ := List.mem_map.mp hn
  exact ⟨a, laD_val s.n1 hp, hp, (s.ls _ hp).1⟩
abbrev TsAt (H : Hp) : List Addr → List (Key × V) → Prop := Paired (fun t kv => H t = some (.tup [kV kv.1, kv.2]))
theorem ts_ch {H H' : Hp} (c : Ch [] H H') : ∀ {ts : List Addr} {kvs : List (Key × V)}, TsAt H ts kvs → TsAt H' ts kvs
  | _, _, .nil => .nil
  | _, _, .cons a t => .cons (c.get a (by simp)) (ts_ch c t)
theorem ts_snoc {H : Hp} {t : Addr} {kv : Key × V} (h : H t = some (.tup [kV kv.1, kv.2])) : ∀ {ts : List Addr} {kvs : List (Key × V)}, TsAt H ts kvs → TsAt H (ts ++ [t]) (kvs ++ [kv])
  | _, _, .nil => .cons h .nil
  | _, _, .cons a t => .cons a (ts_snoc h t)
theorem ts_at {H : Hp} : ∀ {ts : List Addr} {kvs : List (Key × V)}, TsAt H ts kvs → ∀ (i : Nat) (t : Addr) (kv : Key × V), ts[i]? = some t → kvs[i]? = some kv → H t = some (.tup [kV kv.1, kv.2])
  | _, _, .nil, i, t, kv, h, _ => by simp at h
  | t0 :: ts, kv0 :: kvs, .cons a r, 0, t, kv, h1, h2 => by cases h1; cases h2; exact a
  | t0 :: ts, kv0 :: kvs, .cons a r, i + 1, t, kv, h1, h2 => ts_at r i t kv (by simpa using h1) (by simpa using h2)
structure LO (H H' : Hp) (wd fd rd od : Addr) (loose : List Nat) (la : List (Nat × Addr)) (F : Nat → List Nat) (wv : Nat → Int) (ready order : List Nat) : Prop where
  ch : Ch [] H H'
  w : H' wd = some (.dK (wD loose fun n => .int (wv n)))
  f : Fed H H' fd la F
  r : H' rd = some (.lst (ready.map nV))
  o : H' od = some (.lst (order.map nV))
  hw : H wd = none
  hr : H rd = none
  ho : H od = none
  ro : rd ≠ od
  wf : wd ≠ fd
  ra : ∀ p ∈ la, p.2 ≠ rd
  oa : ∀ p ∈ la, p.2 ≠ od
theorem LO.setR {H H' : Hp} {wd fd rd od : Addr} {loose : List Nat} {la : List (Nat × Addr)} {F : Nat → List Nat} {wv : Nat → Int} {ready order : List Nat} (s : LO H H' wd fd rd od loose la F wv ready order) (ready' : List Nat) : LO H (upd H' rd (.lst (ready'.map nV))) wd fd rd od loose la F wv ready' order :=
  ⟨Ch.own s.hr s.ch, g_put (ne_of s.w s.r (by intro z; cases z)) s.w, s.f.put (ne_of s.f.at_ s.r (by intro z; cases z)) s.ra, upd_same, g_put s.ro.symm s.o, s.hw, s.hr, s.ho, s.ro, s.wf, s.ra, s.oa⟩
theorem LO.setO {H H' : Hp} {wd fd rd od : Addr} {loose : List Nat} {la : List (Nat × Addr)} {F : Nat → List Nat} {wv : Nat → Int} {ready order : List Nat} (s : LO H H' wd fd rd od loose la F wv ready order) (order' : List Nat) : LO H (upd H' od (.lst (order'.map nV))) wd fd rd od loose la F wv ready order' :=
  ⟨Ch.own s.ho s.ch, g_put (ne_of s.w s.o (by intro z; cases z)) s.w, s.f.put (ne_of s.f.at_ s.o (by intro z; cases z)) s.oa, g_put s.ro s.r, upd_same, s.hw, s.hr, s.ho, s.ro, s.wf, s.ra, s.oa⟩
theorem LO.setW {H H' : Hp} {wd fd rd od : Addr} {loose : List Nat} {la : List (Nat × Addr)} {F : Nat → List Nat} {wv : Nat → Int} {ready order : List Nat} (s : LO H H' wd fd rd od loose la F wv ready order) {n : Nat} (hn : n ∈ loose) (v : Int) : LO H (upd H' wd (.dK (putK (wD loose fun n => .int (wv n)) (.inl (n : Int)) (.int v)))) wd fd rd od loose la F (fun m => if m = n then v else wv m) ready order :=
  ⟨Ch.own s.hw s.ch, by rw [upd_same, wD_put _ hn]; congr 3; funext m; split <;> rfl, s.f.put s.wf.symm fun p hp => ne_of (s.f.ls p hp).1 s.w (by intro z; cases z), g_put (ne_of s.r s.w (by intro z; cases z)) s.r, g_put (ne_of s.o s.w (by intro z; cases z)) s.o, s.hw, s.hr, s.ho, s.ro, s.wf, s.ra, s.oa⟩
theorem LO.congr {H H' : Hp} {wd fd rd od : Addr} {loose : List Nat} {la : List (Nat × Addr)} {F : Nat → List Nat} {wv wv' : Nat → Int} {ready order : List Nat} (s : LO H H' wd fd rd od loose la F wv ready order) (h : ∀ n ∈ loose, wv n = wv' n) : LO H H' wd fd rd od loose la F wv' ready order :=
  ⟨s.ch, by rw [s.w, wD_congr fun n hn => by rw [h n hn]], s.f, s.r, s.o, s.hw, s.hr, s.ho, s.ro, s.wf, s.ra, s.oa⟩
theorem Fed.rebase {H H0 H' : Hp} {fd : Addr} {la : List (Nat × Addr)} {F : Nat → List Nat} (s : Fed H0 H' fd la F) (c : Ch [] H H0) : Fed H H' fd la F := ⟨s.at_, fun p hp => ⟨(s.ls p hp).1, chFree c (s.ls p hp).2⟩, s.n1, s.n2⟩
structure FC (H0 H' : Hp) (l : List Nat) (ys : List V) : Prop where
  ch : Ch [] H0 H'
  ex : ∃ (ts : List Addr) (la : List (Nat × Addr)), ys = ts.map V.ref ∧ la.map (·.1) = l ∧ TsAt H' ts (laD la) ∧ (∀ p ∈ la, H' p.2 = some (.lst []) ∧ H0 p.2 = none) ∧ (la.map (·.2)).Nodup
structure WC (H0 H' : Hp) (l : List Nat) (g : Nat → V) (ys : List V) : Prop where
  ch : Ch [] H0 H'
  ex : ∃ ts : List Addr, ys = ts.map V.ref ∧ TsAt H' ts (wD l g)
theorem wt_nil (ls : Nat → List Nat) (o : Nat) : wt ls [] o = (ls o).length := by unfold wt; simp
theorem kahn_start (loose : List Nat) (ls : Nat → List Nat) (nd : loose.Nodup) : Kahn loose ls [] (loose.filter fun n => decide ((ls n).length = 0)) := by
  have wz : ∀ o, wt ls [] o = (ls o).length := wt_nil ls
  refine ⟨List.nodup_nil, nd.filter _, by simp, fun o ho => ⟨(List.mem_filter.mp ho).1, by simp⟩, by simp, fun o h1 _ => ?_, fun i x h => by simp at h⟩
  rw [wz, List.mem_filter]
  simp [h1]
theorem loose_nodup (bs : List Bk) : (looseOf bs).Nodup := List.nodup_range.filter _
theorem loose_lt {bs : List Bk} {n : Nat} (h : n ∈ looseOf bs) : n < bs.length := by simpa using (List.mem_filter.mp h).1
theorem ls_loose {bs : List Bk} {n s : Nat} (h : s ∈ lsOf bs n) (ins : Nat) (ok : ∀ b ∈ bs, b.ok ins bs.length) : s ∈ looseOf bs := by
  unfold lsOf at h
  split at h
  · rename_i b e
    obtain ⟨r, hr, rfl⟩ := List.mem_map.mp h
    obtain ⟨h1, h2⟩ := List.mem_filter.mp hr
    have h3 : r.1 = true ∧ loB bs r.2 = true := by simpa using h2
    have := (ok b (List.mem_of_getElem? e)).so r h1
    unfold lim at this
    rw [if_pos h3.1] at this
    exact List.mem_filter.mpr ⟨by simpa using this, h3.2⟩
  · simp at h
theorem wD_take {l : List Nat} {i n : Nat} (g : Nat → V) (h : l[i]? = some n) : wD (l.take (i + 1)) g = wD (l.take i) g ++ [((Sum.inl (n : Int) : Key), g n)] := by
  unfold wD
  rw [List.take_add_one, h, List.map_append]
  rfl
theorem ls_len {bs : List Bk} {ins : Nat} (ok : ∀ b ∈ bs, b.ok ins bs.length) (n : Nat) : (lsOf bs n).length ≤ 4 := by
  unfold lsOf
  split
  · rename_i b e
    rw [List.length_map]
    exact Nat.le_trans (List.length_filter_le _ _) (ok b (List.mem_of_getElem? e)).s4
  · simp
theorem fed_len (pr : List (Nat × Nat)) (s : Nat) : (fedOf pr s).length ≤ pr.length := by unfold fedOf; rw [List.length_map]; exact List.length_filter_le _ _
theorem prs_len {ls : Nat → List Nat} (h : ∀ n, (ls n).length ≤ 4) : ∀ l : List Nat, (prs ls l).length ≤ 4 * l.length
  | [] => by simp [prs]
  | n :: l => by
    have ih := prs_len h l
    have := h n
    unfold prs at ih ⊢
    rw [List.flatMap_cons, List.length_append, List.length_map, List.length_cons]
    omega
theorem fed_next (pr : List (Nat × Nat)) (s n : Nat) : (fun m => if m = s then fedOf pr m ++ [n] else fedOf pr m) = fedOf (pr ++ [(s, n)]) := by
  funext m
  rw [fed_snoc]
  by_cases e : m = s
  · rw [if_pos e, if_pos e.symm]
  · rw [if_neg e, if_neg (Ne.symm e)]
theorem prs_take {ls : Nat → List Nat} {l : List Nat} {i n : Nat} (h : l[i]? = some n) : prs ls (l.take (i + 1)) = prs ls (l.take i) ++ (ls n).map (fun s => (s, n)) := by
  unfold prs
  rw [List.take_add_one, h, List.flatMap_append]
  simp
section
variable {P : Program} {w : World} {K : PySem.W.Frag} {mg : Str → Option Value} {base : Heap} {f : Addr} {fd : FuncData} {k : Nat}
theorem l23_1 : Lc (defScope (top 23)) "loose" := by decide +kernel
theorem g23_enumerate : Gi (defScope (top 23)) "enumerate" := by decide +kernel
theorem v23_0 : Vs (defScope (top 23)) "blocks" := by decide +kernel
theorem d23_0 : Nd "blocks" := by decide +kernel
theorem c23_0 : Nc "blocks" := by decide +kernel
def csc23_0 : Scope := { kind := PySem.ScopeKind.function, names := [ (PySem.Str.ofString ".0", PySem.NameKind.local), (PySem.Str.ofString "number", PySem.NameKind.local), (PySem.Str.ofString "block", PySem.NameKind.local)], isGenerator := false, isCoroutine := false, more := [] : PySem.Scope }
theorem cok23_0 : CompOk csc23_0 (defScope (top 23)) (["number", "block"] : List Str) (["blocks", "loose", "wants", "fed", "number", "source", "ready", "order", "other"] : List Str) [] (["number", "block"] : List Str) := compOk rfl (by decide +kernel) (by decide +kernel) (by decide +kernel) (by decide +kernel) rfl (by decide +kernel)
theorem kq23_0_1 : (relab csc23_0 (defScope (top 23))).names.lookup (Str.ofString "block") = some NameKind.local := by decide +kernel
theorem kq23_0_0 : (relab csc23_0 (defScope (top 23))).names.lookup (Str.ofString "number") = some NameKind.local := by decide +kernel
theorem vq23_0_1 : Vs (relab csc23_0 (defScope (top 23))) "block" := by decide +kernel
theorem dq23_0_1 : Nd "block" := by decide +kernel
theorem cq23_0_1 : Nc "block" := by decide +kernel
theorem vq23_0_0 : Vs (relab csc23_0 (defScope (top 23))) "number" := by decide +kernel
theorem dq23_0_0 : Nd "number" := by decide +kernel
theorem cq23_0_0 : Nc "number" := by decide +kernel
theorem l23_2 : Lc (defScope (top 23)) "wants" := by decide +kernel
theorem g23_dict : Gi (defScope (top 23)) "dict" := by decide +kernel
theorem v23_1 : Vs (defScope (top 23)) "loose" := by decide +kernel
theorem d23_1 : Nd "loose" := by decide +kernel
theorem c23_1 : Nc "loose" := by decide +kernel
def csc23_1 : Scope := { kind := PySem.ScopeKind.function, names := [ (PySem.Str.ofString ".0", PySem.NameKind.local), (PySem.Str.ofString "number", PySem.NameKind.local), (PySem.Str.ofString "len", PySem.NameKind.globalImplicit), (PySem.Str.ofString "loose_sources", PySem.NameKind.globalImplicit), (PySem.Str.ofString "blocks", PySem.NameKind.free)], isGenerator := false, isCoroutine := false, more := [] : PySem.Scope }
theorem cok23_1 : CompOk csc23_1 (defScope (top 23)) (["number"] : List Str) (["blocks", "loose", "wants", "fed", "number", "source", "ready", "order", "other"] : List Str) [0] (["number", "blocks"] : List Str) := compOk rfl (by decide +kernel) (by decide +kernel) (by decide +kernel) (by decide +kernel) rfl (by decide +kernel)
theorem kq23_1_0 : (relab csc23_1 (defScope (top 23))).names.lookup (Str.ofString "number") = some NameKind.local := by decide +kernel
theorem gq23_1_len : Gi (relab csc23_1 (defScope (top 23))) "len" := by decide +kernel
theorem gq23_1_loose_sources : Gi (relab csc23_1 (defScope (top 23))) "loose_sources" := by decide +kernel
theorem vq23_1_0 : Vs (relab csc23_1 (defScope (top 23))) "number" := by decide +kernel
theorem dq23_1_0 : Nd "number" := by decide +kernel
theorem cq23_1_0 : Nc "number" := by decide +kernel
theorem vq23_1_1 : Vs (relab csc23_1 (defScope (top 23))) "blocks" := by decide +kernel
theorem dq23_1_1 : Nd "blocks" := by decide +kernel
theorem cq23_1_1 : Nc "blocks" := by decide +kernel
theorem l23_3 : Lc (defScope (top 23)) "fed" := by decide +kernel
def csc23_2 : Scope := { kind := PySem.ScopeKind.function, names := [(PySem.Str.ofString ".0", PySem.NameKind.local), (PySem.Str.ofString "number", PySem.NameKind.local)], isGenerator := false, isCoroutine := false, more := [] : PySem.Scope }
theorem cok23_2 : CompOk csc23_2 (defScope (top 23)) (["number"] : List Str) (["blocks", "loose", "wants", "fed", "number", "source", "ready", "order", "other"] : List Str) [] (["number"] : List Str) := compOk rfl (by decide +kernel) (by decide +kernel) (by decide +kernel) (by decide +kernel) rfl (by decide +kernel)
theorem kq23_2_0 : (relab csc23_2 (defScope (top 23))).names.lookup (Str.ofString "number") = some NameKind.local := by decide +kernel
theorem vq23_2_0 : Vs (relab csc23_2 (defScope (top 23))) "number" := by decide +kernel
theorem dq23_2_0 : Nd "number" := by decide +kernel
theorem cq23_2_0 : Nc "number" := by decide +kernel
theorem l23_4 : Lc (defScope (top 23)) "number" := by decide +kernel
theorem g23_loose_sources : Gi (defScope (top 23)) "loose_sources" := by decide +kernel
theorem v23_4 : Vs (defScope (top 23)) "number" := by decide +kernel
theorem d23_4 : Nd "number" := by decide +kernel
theorem c23_4 : Nc "number" := by decide +kernel
theorem l23_5 : Lc (defScope (top 23)) "source" := by decide +kernel
theorem v23_3 : Vs (defScope (top 23)) "fed" := by decide +kernel
theorem d23_3 : Nd "fed" := by decide +kernel
theorem c23_3 : Nc "fed" := by decide +kernel
theorem v23_5 : Vs (defScope (top 23)) "source" := by decide +kernel
theorem d23_5 : Nd "source" := by decide +kernel
theorem c23_5 : Nc "source" := by decide +kernel
theorem l23_6 : Lc (defScope (top 23)) "ready" := by decide +kernel
def csc23_3 : Scope := { kind := PySem.ScopeKind.function, names := [ (PySem.Str.ofString ".0", PySem.NameKind.local), (PySem.Str.ofString "number", PySem.NameKind.local), (PySem.Str.ofString "wants", PySem.NameKind.free)], isGenerator := false, isCoroutine := false, more := [] : PySem.Scope }
theorem cok23_3 : CompOk csc23_3 (defScope (top 23)) (["number"] : List Str) (["blocks", "loose", "wants", "fed", "number", "source", "ready", "order", "other"] : List Str) [2] (["number", "wants"] : List Str) := compOk rfl (by decide +kernel) (by decide +kernel) (by decide +kernel) (by decide +kernel) rfl (by decide +kernel)
theorem kq23_3_0 : (relab csc23_3 (defScope (top 23))).names.lookup (Str.ofString "number") = some NameKind.local := by decide +kernel
theorem vq23_3_1 : Vs (relab csc23_3 (defScope (top 23))) "wants" := by decide +kernel
theorem dq23_3_1 : Nd "wants" := by decide +kernel
theorem cq23_3_1 : Nc "wants" := by decide +kernel
theorem vq23_3_0 : Vs (relab csc23_3 (defScope (top 23))) "number" := by decide +kernel
theorem dq23_3_0 : Nd "number" := by decide +kernel
theorem cq23_3_0 : Nc "number" := by decide +kernel
theorem l23_7 : Lc (defScope (top 23)) "order" := by decide +kernel
theorem g23_len : Gi (defScope (top 23)) "len" := by decide +kernel
theorem v23_6 : Vs (defScope (top 23)) "ready" := by decide +kernel
theorem d23_6 : Nd "ready" := by decide +kernel
theorem c23_6 : Nc "ready" := by decide +kernel
theorem v23_7 : Vs (defScope (top 23)) "order" := by decide +kernel
theorem d23_7 : Nd "order" := by decide +kernel
theorem c23_7 : Nc "order" := by decide +kernel
theorem l23_8 : Lc (defScope (top 23)) "other" := by decide +kernel
theorem v23_2 : Vs (defScope (top 23)) "wants" := by decide +kernel
theorem d23_2 : Nd "wants" := by decide +kernel
theorem c23_2 : Nc "wants" := by decide +kernel
theorem v23_8 : Vs (defScope (top 23)) "other" := by decide +kernel
theorem d23_8 : Nd "other" := by decide +kernel
theorem c23_8 : Nc "other" := by decide +kernel
def spLO : Sp := fun vs H Q _ => ∃ (kd kd2 : SK) (bl : Addr) (ins : Nat) (bs : List Bk) (ps : List Addr), vs = [.ref bl] ∧ SqX kd H bl (ps.map V.ref) ∧ BsAt kd2 H bs ps ∧ (∀ b ∈ bs, b.ok ins bs.length) ∧ bs.length ≤ 64 ∧
  ∀ p order H', Ch [] H H' → H p = none → H' p = some (.lst (order.map nV)) → Kahn (looseOf bs) (lsOf bs) order [] → Q (.ref p) H'
theorem scLO : FnScope ["blocks", "loose", "wants", "fed", "number", "source", "ready", "order", "other"] ["blocks"] (defScope (top 23)) := ⟨rfl, rfl, rfl, by decide +kernel, rfl, by decide +kernel, by decide +kernel⟩
theorem ok_lo (F : Fun K "loose_order" "loose_order" (top 23) f fd) (Dloose_sources : DefOk P w K mg base CX0 k "loose_sources" ["blocks", "number"] spLS) (z_enumerate : mg "enumerate" = none) (z_len : mg "len" = none) (z_dict : mg "dict" = none) : FnOk P w K mg base CX0 (k + 1) f fd ["blocks"] spLO := by
  have nd := scLO.nd
  refine F.ok scLO (fun vs H Q E h => by obtain ⟨kd, kd2, bl, ins, bs, ps, rfl, _⟩ := h; rfl) (fun cdv A outer s H vs Q E hr h => ?_)
  obtain ⟨kd, kd2, bl, ins, bs, ps, rfl, hb, bt, ok, hl, q⟩ := h
  have hu := hu_of hr
  have lp := Paired.length bt
  refine ⟨_, (Pr.h (qpss_cons (qps_setC (i := 1) nd rfl l23_1 rfl cok23_0 (qpi_enum kd g23_enumerate z_enumerate (qpa_cons (qpe_var (i := 0) rfl v23_0 d23_0 c23_0) qpa_nil se_Name)) (fun _ _ _ _ _ => (qpg_tupK K 2 rfl rfl (qpgs_cons (qpg_name (i := 0) cok23_0.nd rfl (Or.inl kq23_0_0) (Or.inr kq23_0_0)) (qpgs_cons (qpg_name (i := 1) cok23_0.nd rfl (Or.inl kq23_0_1) (Or.inr kq23_0_1)) qpgs_nil)))) (fun _ _ _ _ _ => (qpif_one (qpt_cmpR op_eq (qpe_ix (ixaK_tup K rfl) (qpe_var (i := 1) rfl vq23_0_1 dq23_0_1 cq23_0_1) qpe_int (fun _ _ => rfl)) qpe_int (nomark _)))) (fun _ _ _ _ _ => (qpe_var (i := 0) rfl vq23_0_0 dq23_0_0 cq23_0_0)) rfl)
 (qpss_cons (qps_set (i := 2) nd rfl l23_2 (qpe_callTy (call_dictP rfl) g23_dict z_dict bo_dict (qpa_cons (qpe_comp rfl cok23_1 (qpi_list (qpe_var (i := 1) rfl v23_1 d23_1 c23_1)) (fun _ _ _ _ _ => (qpg_name (i := 0) cok23_1.nd rfl (Or.inl kq23_1_0) (Or.inr kq23_1_0))) (fun _ _ _ _ _ => qpif_nil) (fun _ _ _ _ _ => (qpe_tup (qpa_cons (qpe_var (i := 0) rfl vq23_1_0 dq23_1_0 cq23_1_0) (qpa_cons (qpe_callB (callK_len_seq K rfl) gq23_1_len z_len PySem.boot_len (qpa_cons (qpe_callD Dloose_sources hr gq23_1_loose_sources pass0 (qpa_cons (qpe_var (i := 1) rfl vq23_1_1 dq23_1_1 cq23_1_1) (qpa_cons (qpe_var (i := 0) rfl vq23_1_0 dq23_1_0 cq23_1_0) qpa_nil se_Name) se_Name) gd_loose_sources) qpa_nil se_Call) nn_len gd_len) qpa_nil se_Call) se_Name)))) qpa_nil se_ListComp) nn_dict gd_dict))
 (qpss_cons (qps_set (i := 3) nd rfl l23_3 (qpe_callTy (call_dictP rfl) g23_dict z_dict bo_dict (qpa_cons (qpe_comp rfl cok23_2 (qpi_list (qpe_var (i := 1) rfl v23_1 d23_1 c23_1)) (fun _ _ _ _ _ => (qpg_name (i := 0) cok23_2.nd rfl (Or.inl kq23_2_0) (Or.inr kq23_2_0))) (fun _ _ _ _ _ => qpif_nil) (fun _ _ _ _ _ => (qpe_tup (qpa_cons (qpe_var (i := 0) rfl vq23_2_0 dq23_2_0 cq23_2_0) (qpa_cons (qpe_lst qpa_nil) qpa_nil se_List) se_Name)))) qpa_nil se_ListComp) nn_dict gd_dict))
 (qpss_cons (qps_loop PassesOwn.never rfl (qpi_list (qpe_var (i := 1) rfl v23_1 d23_1 c23_1)) (qpg_name (i := 4) nd rfl l23_4)
  (qpss_one (qps_loop PassesOwn.never rfl (qpi_list (qpe_callD Dloose_sources hr g23_loose_sources pass0 (qpa_cons (qpe_var (i := 0) rfl v23_0 d23_0 c23_0) (qpa_cons (qpe_var (i := 4) rfl v23_4 d23_4 c23_4) qpa_nil se_Name) se_Name) gd_loose_sources)) (qpg_name (i := 5) nd rfl l23_5)
  (qpss_one (qps_expr (qpe_bm PySem.F.plainAttrs_list PySem.F.slot_list_append PySem.F.type_list_append mt_append (qpe_dgetT hu (qpe_var (i := 3) rfl v23_3 d23_3 c23_3) (qpe_var (i := 5) rfl v23_5 d23_5 c23_5) (fun _ _ => rfl)) (qpa_cons (qpe_var (i := 4) rfl v23_4 d23_4 c23_4) qpa_nil se_Name)))))))
 (qpss_cons (qps_setC (i := 6) nd rfl l23_6 rfl cok23_3 (qpi_list (qpe_var (i := 1) rfl v23_1 d23_1 c23_1)) (fun _ _ _ _ _ => (qpg_name (i := 0) cok23_3.nd rfl (Or.inl kq23_3_0) (Or.inr kq23_3_0))) (fun _ _ _ _ _ => (qpif_one (qpt_cmpR op_eq (qpe_dgetT hu (qpe_var (i := 1) rfl vq23_3_1 dq23_3_1 cq23_3_1) (qpe_var (i := 0) rfl vq23_3_0 dq23_3_0 cq23_3_0) (fun _ _ => rfl)) qpe_int (nomark _)))) (fun _ _ _ _ _ => (qpe_var (i := 0) rfl vq23_3_0 dq23_3_0 cq23_3_0)) rfl)
 (qpss_cons (qps_set (i := 7) nd rfl l23_7 (qpe_lst qpa_nil))
 (qpss_cons (qps_while PassesOwn.never (qpt_cmpR op_gt (qpe_callB call_len_seq g23_len z_len PySem.boot_len (qpa_cons (qpe_var (i := 6) rfl v23_6 d23_6 c23_6) qpa_nil se_Name) nn_len gd_len) qpe_int (nomark _))
  (qpss_cons (qps_set (i := 4) nd rfl l23_4 (qpe_pop (qpe_var (i := 6) rfl v23_6 d23_6 c23_6)))
 (qpss_cons (qps_expr (qpe_bm PySem.F.plainAttrs_list PySem.F.slot_list_append PySem.F.type_list_append mt_append (qpe_var (i := 7) rfl v23_7 d23_7 c23_7) (qpa_cons (qpe_var (i := 4) rfl v23_4 d23_4 c23_4) qpa_nil se_Name)))
 (qpss_one (qps_loop PassesOwn.never rfl (qpi_list (qpe_dgetT hu (qpe_var (i := 3) rfl v23_3 d23_3 c23_3) (qpe_var (i := 4) rfl v23_4 d23_4 c23_4) (fun _ _ => rfl))) (qpg_name (i := 8) nd rfl l23_8)
  (qpss_cons (qps_dput hu (qpe_var (i := 2) rfl v23_2 d23_2 c23_2) (qpe_var (i := 8) rfl v23_8 d23_8 c23_8) (qpe_op op_sub (qpe_dgetT hu (qpe_var (i := 2) rfl v23_2 d23_2 c23_2) (qpe_var (i := 8) rfl v23_8 d23_8 c23_8) (fun _ _ => rfl)) qpe_int) rfl)
 (qpss_one (qps_if (qpt_cmpR op_eq (qpe_dgetT hu (qpe_var (i := 2) rfl v23_2 d23_2 c23_2) (qpe_var (i := 8) rfl v23_8 d23_8 c23_8) (fun _ _ => rfl)) qpe_int (nomark _))
  (qpss_one (qps_expr (qpe_bm PySem.F.plainAttrs_list PySem.F.slot_list_append PySem.F.type_list_append mt_append (qpe_var (i := 6) rfl v23_6 d23_6 c23_6) (qpa_cons (qpe_var (i := 8) rfl v23_8 d23_8 c23_8) qpa_nil se_Name))))
  qpss_nil))))))))
 (qpss_one (qps_ret (qpe_var (i := 7) rfl v23_7 d23_7 c23_7))))))))))), ?_⟩
  (try dsimp only [cxOf])
  walk_at "rd"
  refine ⟨⟨_, hb.sq⟩, ?_⟩
  refine comp_enum (ps.map V.ref) (fun i ys σ H' => Ch [] H H' ∧ ys = ((List.range i).filter (loB bs)).map nV ∧ ∃ u v, σ = [u, v]) (by rw [sizeLine_eq, List.length_map]; omega) ⟨Ch.refl _ _, rfl, _, _, rfl⟩ ?_ ?_ ?_
  · rintro i ys σ H' hi ⟨c, rfl, _⟩
    refine ⟨?_, (hb.ch c).sq⟩
    rw [List.length_map]
    exact Nat.le_trans (List.length_filter_le _ _) (by rw [List.length_range]; exact Nat.le_refl _)
  · rintro i ys σ H' z T hz ⟨c, rfl, u, v, rfl⟩ hT
    have hi : i < bs.length := by have := (List.getElem?_eq_some_iff.mp hz).1; rw [List.length_map] at this; omega
    obtain ⟨p, b, e1, e2, ⟨lpp, _, hp, _⟩⟩ := bs_get bt i hi
    rw [e1] at hz
    cases hz
    have hp1 : H' p = some (.tup [.ref lpp, .int b.bits, .int b.kept, .int b.first]) := c.get hp (by simp)
    have lo := loB_of e2
    rw [List.range_succ, List.filter_append, List.map_append]
    walk_at "rd"
    refine ite2 (fun hc => ?_) (fun hc => ?_)
    · have hk : b.kept = 0 := by simpa using hc
      rw [hk] at lo
      exact ⟨_, rfl, c.trans (Ch.new hT _), by simp [lo]; rfl, _, _, rfl⟩
    · have hk : b.kept ≠ 0 := by simpa using hc
      exact ⟨c.trans (Ch.new hT _), by simp [lo, hk], _, _, rfl⟩
  rintro ys σ H' ⟨c0, rfl, _⟩
  rw [List.length_map, ← lp]
  show ∀ p, H' p = none → _
  intro lo hlo
  have nL := loose_nodup bs
  have lL : ∀ n ∈ looseOf bs, n < bs.length := fun n hn => loose_lt hn
  have lsL : ∀ n s, s ∈ lsOf bs n → s ∈ looseOf bs := fun n s h => ls_loose h ins ok
  have c1 : Ch [] H (upd H' lo (.lst ((looseOf bs).map nV))) := c0.trans (Ch.new hlo _)
  have gl1 : (upd H' lo (.lst ((looseOf bs).map nV))) lo = some (.lst ((looseOf bs).map nV)) := upd_same
  have lL64 : (looseOf bs).length ≤ 64 := by
    have := List.length_filter_le (loB bs) (List.range bs.length)
    rw [List.length_range] at this
    exact Nat.le_trans this hl
  show tSeq _ _ _ _ (upd H' lo (.lst ((looseOf bs).map nV)))
  generalize upd H' lo (.lst ((looseOf bs).map nV)) = H1 at c1 gl1 ⊢
  generalize hLL : looseOf bs = loose at *
  clear c0 hlo
  have hb1 : SqX kd H1 bl (ps.map V.ref) := hb.ch c1
  have bt1 := bs_ch c1 bt
  walk_at "rd"
  refine comp_list (loose.map nV) (fun i ys σ H' => WC H1 H' (loose.take i) (fun n => .int ((lsOf bs n).length : Int)) ys ∧ ∃ u, σ = [u, some (.ref bl)]) (by rw [sizeLine_eq, List.length_map]; omega) ⟨⟨Ch.refl _ _, [], rfl, .nil⟩, _, rfl⟩ ?_ ?_ ?_
  · rintro i ys σ H' hi ⟨⟨c, ts, rfl, tt⟩, _⟩
    refine ⟨?_, SqL.of (c.get gl1 (by simp))⟩
    rw [List.length_map, Paired.length tt]
    unfold wD
    rw [List.length_map, List.length_take]
    omega
  · rintro i ys σ H' z hz ⟨⟨c, ts, rfl, tt⟩, u, rfl⟩
    rw [List.getElem?_map] at hz
    obtain ⟨n, hn, rfl⟩ := Option.map_eq_some_iff.mp hz
    have hb2 : SqX kd H' bl (ps.map V.ref) := hb1.ch c
    have bt2 := bs_ch c bt1
    have hn2 := lL n (List.mem_of_getElem? hn)
    walk_at "rd"
    rename_i p2 H2 c2 f2 g2 T hT
    refine ⟨⟨(c.trans c2).trans (Ch.new hT _), ts ++ [T], by simp, ?_⟩, _, rfl⟩
    rw [wD_take _ hn]
    refine ts_snoc ?_ (ts_ch (c2.trans (Ch.new hT _)) tt)
    rw [upd_same, List.length_map]
    rfl
  rintro ys σ H2 ⟨⟨c2, ts, rfl, tt⟩, _⟩
  rw [List.length_map, List.take_length] at tt
  intro D hD
  have cD : Ch [] H2 (upd H2 D (.lst (ts.map V.ref))) := Ch.new hD _
  refine ⟨D, ts, wD loose (fun n => .int ((lsOf bs n).length : Int)), rfl, upd_same, Paired.length tt, ts_at (ts_ch cD tt), wD_keys nL, ?_, fun wd hwd => ?_⟩
  · unfold wD; rw [List.length_map, sizeLine_eq]; omega
  have cW : Ch [] (upd H2 D (.lst (ts.map V.ref))) (upd (upd H2 D (.lst (ts.map V.ref))) wd (.dK (wD loose (fun n => .int ((lsOf bs n).length : Int))))) := Ch.new hwd _
  have c3 := (c2.trans cD).trans cW
  have gw3 : (upd (upd H2 D (.lst (ts.map V.ref))) wd (.dK (wD loose (fun n => .int ((lsOf bs n).length : Int))))) wd = some (.dK (wD loose (fun n => .int ((lsOf bs n).length : Int)))) := upd_same
  have hw0 : H wd = none := chFree (c1.trans (c2.trans cD)) hwd
  show tSeq _ _ _ _ (upd (upd H2 D (.lst (ts.map V.ref))) wd (.dK (wD loose (fun n => .int ((lsOf bs n).length : Int)))))
  generalize upd (upd H2 D (.lst (ts.map V.ref))) wd (.dK (wD loose (fun n => .int ((lsOf bs n).length : Int)))) = H3 at c3 gw3 ⊢
  have gl3 : H3 lo = some (.lst (loose.map nV)) := c3.get gl1 (by simp)
  have hb3 : SqX kd H3 bl (ps.map V.ref) := hb1.ch c3
  have bt3 := bs_ch c3 bt1
  have c03 := c1.trans c3
  clear hwd cW cD hD tt c2 c3 gl1 hb1 bt1 c1
  walk_at "rd"
  refine comp_list (loose.map nV) (fun i ys σ H' => FC H3 H' (loose.take i) ys ∧ ∃ u, σ = [u]) (by rw [sizeLine_eq, List.length_map]; omega) ⟨⟨Ch.refl _ _, [], [], rfl, rfl, .nil, by simp, by simp⟩, _, rfl⟩ ?_ ?_ ?_
  · rintro i ys σ H' hi ⟨⟨c, ts, la, rfl, e1, tt, _⟩, _⟩
    refine ⟨?_, SqL.of (c.get gl3 (by simp))⟩
    have z := congrArg List.length e1
    rw [List.length_map, List.length_take] at z
    rw [List.length_map, Paired.length tt]
    unfold laD
    rw [List.length_map]
    omega
  · rintro i ys σ H' z hz ⟨⟨c, ts, la, rfl, e1, tt, hla, nla⟩, u, rfl⟩
    rw [List.getElem?_map] at hz
    obtain ⟨n, hn, rfl⟩ := Option.map_eq_some_iff.mp hz
    walk_at "rd"
    rename_i q hq T hT
    have cq : Ch [] H' (upd (upd H' q (.lst [])) T (.tup [nV n, .ref q])) := (Ch.new hq _).trans (Ch.new hT _)
    refine ⟨⟨c.trans cq, ts ++ [T], la ++ [(n, q)], by simp, ?_, ?_, fun p hp => ?_, ?_⟩, _, rfl⟩
    · rw [List.map_append, e1, List.take_add_one, hn]; rfl
    · unfold laD
      rw [List.map_append]
      refine ts_snoc ?_ (ts_ch cq tt)
      exact upd_same
    · rcases List.mem_append.mp hp with z | z
      · exact ⟨cq.get (hla p z).1 (by simp), (hla p z).2⟩
      · rw [List.mem_singleton.mp z]
        exact ⟨g_new hT upd_same, chFree c hq⟩
    · rw [List.map_append, List.nodup_append]
      refine ⟨nla, by simp, fun x hx y hy e => ?_⟩
      obtain ⟨p, hp, rfl⟩ := List.mem_map.mp hx
      have : y = q := by simpa using hy
      have h1 := (hla p hp).1
      rw [e, this, hq] at h1
      cases h1
  rintro ys σ H4 ⟨⟨c4, ts, la, rfl, e1, tt, hla, nla⟩, _⟩
  rw [List.length_map, List.take_length] at e1
  intro D hD
  have cD : Ch [] H4 (upd H4 D (.lst (ts.map V.ref))) := Ch.new hD _
  have eD : laD la = wD loose (fun n => ((la.map fun p => (p.1, V.ref p.2)).lookup n).getD .non) ∨ True := .inr trivial
  clear eD
  have kD : ((laD la).map (·.1)).Nodup := by
    have e : (laD la).map (·.1) = (wD loose fun _ => V.non).map (·.1) := by
      unfold laD wD
      rw [← e1, List.map_map, List.map_map, List.map_map]
      rfl
    rw [e]
    exact wD_keys nL
  have lla : la.length = loose.length := by rw [← e1, List.length_map]
  refine ⟨D, ts, laD la, rfl, upd_same, Paired.length tt, ts_at (ts_ch cD tt), kD, ?_, fun fdd hfd => ?_⟩
  · unfold laD; rw [List.length_map, sizeLine_eq]; omega
  have c5 : Ch [] H3 (upd (upd H4 D (.lst (ts.map V.ref))) fdd (.dK (laD la))) := (c4.trans cD).trans (Ch.new hfd _)
  have F5 : Fed H3 (upd (upd H4 D (.lst (ts.map V.ref))) fdd (.dK (laD la))) fdd la (fun _ => []) := ⟨upd_same, fun p hp => ⟨g_new hfd (cD.get (hla p hp).1 (by simp)), (hla p hp).2⟩, by rw [e1]; exact nL, nla⟩
  have f5 : H3 fdd = none := chFree (c4.trans cD) hfd
  show tSeq _ _ _ _ (upd (upd H4 D (.lst (ts.map V.ref))) fdd (.dK (laD la)))
  generalize upd (upd H4 D (.lst (ts.map V.ref))) fdd (.dK (laD la)) = H5 at c5 F5 ⊢
  clear hfd cD hD tt c4 hla kD
  have gl5 : H5 lo = some (.lst (loose.map nV)) := c5.get gl3 (by simp)
  walk_at "rd"
  refine loop_list (xs := loose.map nV) (fun i σ H' => ∃ u4 u5, σ = [some (.ref bl), some (.ref lo), some (.ref wd), some (.ref fdd), u4, u5, none, none, none] ∧ Ch [] H3 H' ∧ Fed H3 H' fdd la (fedOf (prs (lsOf bs) (loose.take i)))) ⟨_, _, rfl, c5, F5⟩ ?_ ?_ ?_
  · rintro i σ H' hi ⟨_, _, rfl, c, _⟩
    exact SqL.of (c.get gl3 (by simp))
  · rintro i z σ H' hz ⟨u4, u5, rfl, c, F⟩
    rw [List.getElem?_map] at hz
    obtain ⟨n, hn, rfl⟩ := Option.map_eq_some_iff.mp hz
    have hb2 : SqX kd H' bl (ps.map V.ref) := hb3.ch c
    have bt2 := bs_ch c bt3
    have hn2 := lL n (List.mem_of_getElem? hn)
    walk_at "rd"
    rename_i sl H6 c6 f6 g6
    have lpr := prs_len (ls_len ok) (loose.take i)
    rw [List.length_take] at lpr
    rw [prs_take hn]
    generalize prs (lsOf bs) (loose.take i) = pr at F lpr ⊢
    have lsn := ls_len ok n
    refine loop_list (xs := (lsOf bs n).map nV) (fun j σ H' => ∃ u5, σ = [some (.ref bl), some (.ref lo), some (.ref wd), some (.ref fdd), some (nV n), u5, none, none, none] ∧ Ch [] H3 H' ∧ Fed H3 H' fdd la (fedOf (pr ++ ((lsOf bs n).take j).map (fun s => (s, n)))) ∧ H' sl = some (.lst ((lsOf bs n).map nV)) ∧ ∀ p ∈ la, p.2 ≠ sl) ⟨_, rfl, c.trans c6, by rw [List.take_zero, List.map_nil, List.append_nil]; exact F.ch c6, g6, fun p hp => ne_of_none (F.ls p hp).1 f6⟩ ?_ ?_ ?_
    · rintro j σ H' hj ⟨_, rfl, _, _, g, _⟩
      exact SqL.of g
    · rintro j z σ H7 hz ⟨u5, rfl, c7, F7, g7, n7⟩
      rw [List.getElem?_map] at hz
      obtain ⟨sr, hs, rfl⟩ := Option.map_eq_some_iff.mp hz
      have et : (lsOf bs n).take (j + 1) = (lsOf bs n).take j ++ [sr] := by rw [List.take_add_one, hs]; rfl
      rw [et, List.map_append, ← List.append_assoc]
      have lq : ((lsOf bs n).take j).length ≤ 4 := by rw [List.length_take]; omega
      have lpq : (pr ++ ((lsOf bs n).take j).map (fun s => (s, n))).length ≤ 300 := by rw [List.length_append, List.length_map]; omega
      generalize pr ++ ((lsOf bs n).take j).map (fun s => (s, n)) = pq at F7 lpq ⊢
      obtain ⟨a, hv, ha, hla⟩ := F7.of (n := sr) (by rw [e1]; exact lsL n sr (List.mem_of_getElem? hs))
      have hfd := F7.at_
      have lz : ((fedOf pq sr).map nV).length < sizeLine := by
        have := fed_len pq sr
        rw [List.length_map, sizeLine_eq]; omega
      clear bt2 hb2 F
      walk_at "rd"
      have F8 := F7.add (x := n) ha
      rw [fed_next] at F8
      exact ⟨Ch.own (F7.ls _ ha).2 c7, F8, g_put (n7 _ ha).symm g7, n7⟩
    · rintro σ H' ⟨u5, rfl, c7, F7, _⟩
      rw [List.length_map, List.take_length] at F7
      exact ⟨_, _, rfl, c7, F7⟩
  · rintro σ H6 ⟨u4, u5, rfl, c6, F6⟩
    rw [List.length_map, List.take_length] at F6
    have gl6 : H6 lo = some (.lst (loose.map nV)) := c6.get gl3 (by simp)
    have gw6 : H6 wd = some (.dK (wD loose (fun n => .int ((lsOf bs n).length : Int)))) := c6.get gw3 (by simp)
    walk_at "rd"
    refine comp_list (loose.map nV) (fun i ys σ H' => H' = H6 ∧ ys = ((loose.take i).filter fun n => decide ((lsOf bs n).length = 0)).map nV ∧ ∃ u, σ = [u, some (.ref wd)]) (by rw [sizeLine_eq, List.length_map]; omega) ⟨rfl, rfl, _, rfl⟩ ?_ ?_ ?_
    · rintro i ys σ H' hi ⟨rfl, rfl, _⟩
      refine ⟨?_, SqL.of gl6⟩
      rw [List.length_map]
      exact Nat.le_trans (List.length_filter_le _ _) (by rw [List.length_take]; omega)
    · rintro i ys σ H' z hz ⟨rfl, rfl, u, rfl⟩
      rw [List.getElem?_map] at hz
      obtain ⟨n, hn, rfl⟩ := Option.map_eq_some_iff.mp hz
      have hv := wD_val (g := fun n => .int ((lsOf bs n).length : Int)) (List.mem_of_getElem? hn)
      rw [List.take_add_one, hn, List.filter_append, List.map_append]
      walk_at "rd"
      refine ite2 (fun hc => ?_) (fun hc => ?_)
      · have hk : (lsOf bs n).length = 0 := by simpa using hc
        have ef : ([n].filter fun n => decide ((lsOf bs n).length = 0)) = [n] := by rw [List.filter_cons, if_pos (decide_eq_true hk)]; rfl
        exact ⟨_, rfl, rfl, by rw [show (some n).toList = [n] from rfl, ef]; rfl, _, rfl⟩
      · have hk : ¬ (lsOf bs n).length = 0 := by simpa using hc
        have ef : ([n].filter fun n => decide ((lsOf bs n).length = 0)) = [] := by rw [List.filter_cons, if_neg (by simpa using hk)]; rfl
        exact ⟨rfl, by rw [show (some n).toList = [n] from rfl, ef, List.map_nil, List.append_nil], _, rfl⟩
    rintro ys σ H' ⟨rfl, rfl, _⟩
    rw [List.length_map, List.take_length]
    have k0 := kahn_start loose (lsOf bs) nL
    generalize hr0 : (loose.filter fun n => decide ((lsOf bs n).length = 0)) = r0 at k0 ⊢
    intro rd hrd
    refine ⟨by rw [sizeLine_eq]; decide, fun od hod => ?_⟩
    have cR : Ch [] H' (upd (upd H' rd (.lst (r0.map nV))) od (.lst [])) := (Ch.new hrd _).trans (Ch.new hod _)
    have c06 := c03.trans c6
    have L0 : LO H (upd (upd H' rd (.lst (r0.map nV))) od (.lst [])) wd fdd rd od loose la (fedOf (prs (lsOf bs) loose)) (fun o => (wt (lsOf bs) [] o : Int)) r0 [] :=
      LO.congr ⟨c06.trans cR, cR.get gw6 (by simp), (F6.rebase c03).ch cR, g_new hod upd_same, upd_same, hw0, chFree c06 hrd, chFree (c06.trans (Ch.new hrd _)) hod, (fun z => by rw [← z, upd_same] at hod; cases hod), ne_of_none gw3 f5, fun p hp => ne_of_none (F6.ls p hp).1 hrd, fun p hp => ne_of_none (g_new hrd (F6.ls p hp).1) hod⟩ fun n _ => by rw [wt_nil]
    have hod0 := L0.ho
    have fb := fun x => fed_by (lsOf bs) nL x
    generalize hF : fedOf (prs (lsOf bs) loose) = F at L0 fb
    show tWhile _ _ _ _ _
    refine while_at (fun m σ H' => ∃ (u4 u5 u8 : Option V) (ready order : List Nat), σ = [some (.ref bl), some (.ref lo), some (.ref wd), some (.ref fdd), u4, u5, some (.ref rd), some (.ref od), u8] ∧ Kahn loose (lsOf bs) order ready ∧ LO H H' wd fdd rd od loose la F (fun o => (wt (lsOf bs) order o : Int)) ready order ∧ m = loose.length - order.length) ⟨_, _, _, _, _, _, rfl, k0, L0, rfl⟩ ?_ ?_
    · clear L0 k0 hr0 r0 hrd hod cR gl6 gw6 F6 c6 c06 F5 c5 gl5 gl3 gw3 hb3 bt3 c03
      rintro m σ H1 ⟨u4, u5, u8, ready, order, rfl, kh, lo1, rfl⟩
      have hrd1 := lo1.r
      walk_at "rd"
      refine ite2 (fun hc => ?_) (fun hc => ?_)
      · have hne : ready ≠ [] := by rintro rfl; simp at hc
        obtain ⟨r', x, rfl⟩ : ∃ r' x, ready = r' ++ [x] := ⟨ready.dropLast, ready.getLast hne, (List.dropLast_concat_getLast hne).symm⟩
        obtain ⟨xl, xo, xz, md⟩ := kh.pop
        have ol := kh.le
        have hla : ((r' ++ [x]).map nV)[((r' ++ [x]).map nV).length - 1]? = some (nV x) := by simp
        have edl : ((r' ++ [x]).map nV).dropLast = r'.map nV := by rw [List.map_append]; exact List.dropLast_concat
        refine ⟨_, rfl, .inl ⟨rfl, _, SqL.of hrd1⟩, rd, _, _, rfl, rfl, hrd1, hla, ?_⟩
        rw [edl]
        have L1 := lo1.setR r'
        generalize upd H1 rd (.lst (r'.map nV)) = H2 at L1 ⊢
        have hod2 := L1.o
        have lod : (order.map nV).length < sizeLine := by rw [List.length_map, sizeLine_eq]; omega
        have L2 : LO H (upd H2 od (.lst (order.map nV ++ [nV x]))) wd fdd rd od loose la F (fun o => (wt (lsOf bs) order o : Int)) r' (order ++ [x]) := by
          have := L1.setO (order ++ [x])
          rw [List.map_append] at this
          exact this
        obtain ⟨a, hv, ha, hga⟩ := L1.f.of (n := x) (by rw [e1]; exact xl)
        have hfd2 := L1.f.at_
        have nao : a ≠ od := L1.oa _ ha
        have nar : a ≠ rd := L1.ra _ ha
        have fbx := fb x
        clear hrd1 hla edl hc lo1 hne
        walk_at "rd"
        refine loop_list (xs := (F x).map nV) (fun j σ H' => ∃ (u8 : Option V) (rj : List Nat), σ = [some (.ref bl), some (.ref lo), some (.ref wd), some (.ref fdd), some (nV x), u5, some (.ref rd), some (.ref od), u8] ∧ Mid loose (lsOf bs) order x ((F x).take j) rj ∧ LO H H' wd fdd rd od loose la F (fun o => (wt (lsOf bs) order o : Int) - (((F x).take j).count o : Int)) rj (order ++ [x])) ⟨_, r', rfl, md, L2.congr fun n _ => by simp⟩ ?_ ?_ ?_
        · rintro j σ H' hj ⟨_, _, rfl, _, l⟩
          exact SqL.of (l.f.ls _ ha).1
        · rintro j z σ H3 hz ⟨u8, rj, rfl, mj, lj⟩
          rw [List.getElem?_map] at hz
          obtain ⟨o, ho, rfl⟩ := Option.map_eq_some_iff.mp hz
          obtain ⟨o1, o2, o3, o4, o5, o6⟩ := mj.step kh.oz xo xz fbx ho
          have hw3 := lj.w
          have hv3 := wD_val (g := fun n => .int ((wt (lsOf bs) order n : Int) - (((F x).take j).count n : Int))) o1
          have lw3 : (wD loose fun n => V.int ((wt (lsOf bs) order n : Int) - (((F x).take j).count n : Int))).length < sizeLine := by unfold wD; rw [List.length_map, sizeLine_eq]; omega
          have hv4 : valV (putK (wD loose fun n => V.int ((wt (lsOf bs) order n : Int) - (((F x).take j).count n : Int))) (.inl (o : Int)) (.int ((wt (lsOf bs) order o : Int) - (((F x).take j).count o : Int) - 1))) (.inl (o : Int)) = some (.int ((wt (lsOf bs) order o : Int) - (((F x).take j).count o : Int) - 1)) := by rw [valV_put, if_pos rfl]
          have hrd3 := lj.r
          have lrj : (rj.map nV).length < sizeLine := by have := mj.le; rw [List.length_map, sizeLine_eq]; omega
          have lW := (lj.setW o1 ((wt (lsOf bs) order o : Int) - (((F x).take j).count o : Int) - 1)).congr (wv' := fun o => (wt (lsOf bs) order o : Int) - (((F x).take (j + 1)).count o : Int)) fun n _ => by
            by_cases e : n = o
            · rw [if_pos e, e, o2]; omega
            · rw [if_neg e, o4 n e]
          clear hod2 hfd2 hga L1 L2 hv
          walk_at "rd"
          refine ite2 (fun hc => ?_) (fun hc => ?_)
          · have hc : (wt (lsOf bs) order o : Int) - (((F x).take j).count o : Int) - 1 = 0 := by simpa using hc
            walk_at "rd"
            have := lW.setR (rj ++ [o])
            rw [List.map_append] at this
            exact ⟨o5 (by omega), this⟩
          · have hc : (wt (lsOf bs) order o : Int) - (((F x).take j).count o : Int) - 1 ≠ 0 := by simpa using hc
            walk_at "rd"
            exact ⟨o6 (by omega), lW⟩
        · rintro σ H3 ⟨u8, rj, rfl, mj, lj⟩
          rw [List.length_map, List.take_length] at mj lj
          have kh2 := Mid.done kh.tp kh.no kh.ol kh.oz xl xo xz fbx mj
          have le2 := kh2.le
          rw [List.length_append, List.length_singleton] at le2
          refine ⟨_, ?_, _, _, _, rj, order ++ [x], rfl, kh2, lj.congr fun n hn => ?_, rfl⟩
          · rw [List.length_append, List.length_singleton]; omega
          · have z1 := wt_snoc (ls := lsOf bs) xo n
            have z2 := fbx.c n hn
            omega
      · have hnil : ready = [] := by
          cases ready with
          | nil => rfl
          | cons _ _ => exact absurd hc (by simp)
        subst hnil
        walk_at "rd"
        exact q od order _ lo1.ch lo1.ho lo1.o kh
    · rintro σ H Q Q' hq ⟨v, h1, p, ys, h2, h3, i, j, h4, h5, k, h6, h7⟩
      exact ⟨v, h1, p, ys, h2, h3, i, j, h4, h5, k, h6, hq _ _ h7⟩
theorem g24_len : Gi (defScope (top 24)) "len" := by decide +kernel
theorem g24_loose_order : Gi (defScope (top 24)) "loose_order" := by decide +kernel
theorem v24_0 : Vs (defScope (top 24)) "blocks" := by decide +kernel
theorem d24_0 : Nd "blocks" := by decide +kernel
theorem c24_0 : Nc "blocks" := by decide +kernel
def csc24_0 : Scope := { kind := PySem.ScopeKind.function, names := [(PySem.Str.ofString ".0", PySem.NameKind.local), (PySem.Str.ofString "block", PySem.NameKind.local)], isGenerator := false, isCoroutine := false, more := [] : PySem.Scope }
theorem cok24_0 : CompOk csc24_0 (defScope (top 24)) (["block"] : List Str) (["blocks"] : List Str) [] (["block"] : List Str) := compOk rfl (by decide +kernel) (by decide +kernel) (by decide +kernel) (by decide +kernel) rfl (by decide +kernel)
theorem kq24_0_0 : (relab csc24_0 (defScope (top 24))).names.lookup (Str.ofString "block") = some NameKind.local := by decide +kernel
theorem vq24_0_0 : Vs (relab csc24_0 (defScope (top 24))) "block" := by decide +kernel
theorem dq24_0_0 : Nd "block" := by decide +kernel
theorem cq24_0_0 : Nc "block" := by decide +kernel
def spRing : Sp := fun vs H Q _ => ∃ (kd kd2 : SK) (bl : Addr) (ins : Nat) (bs : List Bk) (ps : List Addr), vs = [.ref bl] ∧ SqX kd H bl (ps.map V.ref) ∧ BsAt kd2 H bs ps ∧ (∀ b ∈ bs, b.ok ins bs.length) ∧ bs.length ≤ 64 ∧
  (Acy (looseOf bs) (lsOf bs) → ∀ H', Ch [] H H' → Q (.bl false) H') ∧ (¬ Acy (looseOf bs) (lsOf bs) → ∀ H', Ch [] H H' → Q (.bl true) H')
theorem scRing : FnScope ["blocks"] ["blocks"] (defScope (top 24)) := ⟨rfl, rfl, rfl, by decide +kernel, rfl, by decide +kernel, by decide +kernel⟩
theorem ok_ring (F : Fun K "has_ring" "has_ring" (top 24) f fd) (Dloose_order : DefOk P w K mg base CX0 k "loose_order" ["blocks"] spLO) (z_len : mg "len" = none) : FnOk P w K mg base CX0 (k + 1) f fd ["blocks"] spRing := by
  have nd := scRing.nd
  refine F.ok scRing (fun vs H Q E h => by obtain ⟨kd, kd2, bl, ins, bs, ps, rfl, _⟩ := h; rfl) (fun cdv A outer s H vs Q E hr h => ?_)
  obtain ⟨kd, kd2, bl, ins, bs, ps, rfl, hb, bt, ok, hl, q1, q2⟩ := h
  have lp := Paired.length bt
  refine ⟨_, (Pr.h (qpss_one (qps_ret (qpe_cmpR op_ne (qpe_callB call_len_seq g24_len z_len PySem.boot_len (qpa_cons (qpe_callD Dloose_order hr g24_loose_order pass0 (qpa_cons (qpe_var (i := 0) rfl v24_0 d24_0 c24_0) qpa_nil se_Name) gd_loose_order) qpa_nil se_Call) nn_len gd_len) (qpe_callB call_len_seq g24_len z_len PySem.boot_len (qpa_cons (qpe_comp rfl cok24_0 (qpi_sqK K rfl kd (qpe_var (i := 0) rfl v24_0 d24_0 c24_0)) (fun _ _ _ _ _ => (qpg_name (i := 0) cok24_0.nd rfl (Or.inl kq24_0_0) (Or.inr kq24_0_0))) (fun _ _ _ _ _ => (qpif_one (qpt_cmpR op_eq (qpe_ix (ixaK_tup K rfl) (qpe_var (i := 0) rfl vq24_0_0 dq24_0_0 cq24_0_0) qpe_int (fun _ _ => rfl)) qpe_int (nomark _)))) (fun _ _ _ _ _ => (qpe_var (i := 0) rfl vq24_0_0 dq24_0_0 cq24_0_0))) qpa_nil se_ListComp) nn_len gd_len) (nomark _))))), ?_⟩
  (try dsimp only [cxOf])
  walk_at "rd"
  rename_i od order H1 c1 f1 g1 kh
  have hb1 : SqX kd H1 bl (ps.map V.ref) := hb.ch c1
  refine ⟨⟨_, hb1.sq⟩, ?_⟩
  refine comp_sq (ps.map V.ref) (fun i ys σ H' => H' = H1 ∧ ys.length = ((List.range i).filter (loB bs)).length ∧ ∃ u, σ = [u]) (by rw [sizeLine_eq, List.length_map]; omega) ⟨rfl, rfl, _, rfl⟩ ?_ ?_ ?_
  · rintro i ys σ H' hi ⟨rfl, e, _⟩
    refine ⟨?_, hb1.sq⟩
    rw [e]
    exact Nat.le_trans (List.length_filter_le _ _) (by rw [List.length_range]; exact Nat.le_refl _)
  · rintro i ys σ H' z hz ⟨rfl, e, u, rfl⟩
    have hi : i < bs.length := by have := (List.getElem?_eq_some_iff.mp hz).1; rw [List.length_map] at this; omega
    obtain ⟨p, b, e1, e2, ⟨lpp, _, hp, _⟩⟩ := bs_get bt i hi
    rw [e1] at hz
    cases hz
    have hp1 : H' p = some (.tup [.ref lpp, .int b.bits, .int b.kept, .int b.first]) := c1.get hp (by simp)
    have lo := loB_of e2
    rw [List.range_succ, List.filter_append, List.length_append]
    walk_at "rd"
    refine ite2 (fun hc => ?_) (fun hc => ?_)
    · have hk : b.kept = 0 := by simpa using hc
      rw [hk] at lo
      exact ⟨_, rfl, rfl, by simp [lo, e], _, rfl⟩
    · have hk : b.kept ≠ 0 := by simpa using hc
      exact ⟨rfl, by simp [lo, hk, e], _, rfl⟩
  · rintro ys σ H' ⟨rfl, e, _⟩
    intro D hD
    have gD : (upd H' D (.lst ys)) D = some (.lst ys) := upd_same
    have e : ys.length = (looseOf bs).length := by rw [e, List.length_map, ← lp]; rfl
    have lsl : ∀ n s, s ∈ lsOf bs n → s ∈ looseOf bs := fun n s h => ls_loose h ins ok
    walk_at "rd"
    by_cases ac : Acy (looseOf bs) (lsOf bs)
    · have el : (order.map nV).length = ys.length := by rw [e, List.length_map]; exact kh.len (loose_nodup bs) ac
      rw [el, decide_eq_true rfl]
      exact q1 ac _ (c1.trans (Ch.new hD _))
    · rw [decide_eq_false (fun z => ac (kh.acy (by rw [List.length_map, e] at z; have z : (order.length : Int) = ((looseOf bs).length : Int) := (by simpa using z); omega) lsl))]
      exact q2 ac _ (c1.trans (Ch.new hD _))
end
end

section
structure AskAt (kd kd2 kd3 : SK) (H : Hp) (bl ol : Addr) (bgs : List BG) (ogs : List (List V)) : Prop where
  b : ∃ ps, SqX kd H bl (ps.map V.ref) ∧ Paired (BgAt kd2 H) bgs ps
  o : ∃ ps, SqX kd3 H ol (ps.map V.ref) ∧ Paired (PgAt H) ogs ps
  lb : bgs.length ≤ 40
  lo : ogs.length ≤ 40
structure AOk (ins : Nat) (bgs : List BG) (ogs : List (List V)) : Prop where
  b : ∀ x ∈ bgs, bkB ins bgs.length x = true
  o : ∀ x ∈ ogs, plB ins bgs.length x = true
  a : ∀ bs : List Bk, bgs = bs.map Bk.g → Acy (looseOf bs) (lsOf bs)
theorem rm_room {n : Nat} (h : n ≤ 4) : rm n = room n := by
  have e5 : n = 0 ∨ n = 1 ∨ n = 2 ∨ n = 3 ∨ n = 4 := by omega
  rcases e5 with rfl | rfl | rfl | rfl | rfl <;> decide +kernel
theorem plB_w {a c : Nat} {x : Bool} {n : Int} : plB a c [.str (wd x), .int n] = (decide (0 ≤ n) && decide (n < (lim a c x : Int))) := by
  show inB (valV (cntK a c) (.inr (wd x))) n = _
  rw [cnt_val]
  rfl
theorem plB_src {a c : Nat} {xs : List V} (h : plB a c xs = true) : ∃ s : Src, xs = sg s ∧ s.2 < lim a c s.1 := by
  unfold plB at h
  split at h
  case h_2 => cases h
  case h_1 w n =>
    have hw : w = wd false ∨ w = wd true := by
      refine Classical.byContradiction fun z => ?_
      rw [not_or] at z
      have : valV (cntK a c) (.inr w) = none := by
        unfold valV cntK
        rw [List.find?_cons_of_neg (by simpa using fun e => z.1 e.symm), List.find?_cons_of_neg (by simpa using fun e => z.2 e.symm)]
        rfl
      rw [this] at h
      cases h
    rcases hw with rfl | rfl
    · rw [cnt_val] at h
      have h : (decide (0 ≤ n) && decide (n < (lim a c false : Int))) = true := h
      rw [Bool.and_eq_true, decide_eq_true_eq, decide_eq_true_eq] at h
      obtain ⟨m, rfl⟩ := Int.eq_ofNat_of_zero_le h.1
      exact ⟨(false, m), rfl, by show m < lim a c false; omega⟩
    · rw [cnt_val] at h
      have h : (decide (0 ≤ n) && decide (n < (lim a c true : Int))) = true := h
      rw [Bool.and_eq_true, decide_eq_true_eq, decide_eq_true_eq] at h
      obtain ⟨m, rfl⟩ := Int.eq_ofNat_of_zero_le h.1
      exact ⟨(true, m), rfl, by show m < lim a c true; omega⟩
theorem pls_src {a c : Nat} : ∀ {ls : List (List V)}, (∀ x ∈ ls, plB a c x = true) → ∃ ss : List Src, ls = ss.map sg ∧ ∀ s ∈ ss, s.2 < lim a c s.1
  | [], _ => ⟨[], rfl, by simp⟩
  | x :: ls, h => by
    obtain ⟨s, rfl, hs⟩ := plB_src (h x (by simp))
    obtain ⟨ss, rfl, hss⟩ := pls_src (ls := ls) fun y hy => h y (by simp [hy])
    exact ⟨s :: ss, rfl, fun z hz => by
      rcases List.mem_cons.mp hz with rfl | hz
      · exact hs
      · exact hss z hz⟩
theorem belB_iff {i b : Int} : belB (.int i) b = true ↔ 0 ≤ i ∧ i < b := by
  show (decide (0 ≤ i) && decide (i < b)) = true ↔ _
  rw [Bool.and_eq_true, decide_eq_true_eq, decide_eq_true_eq]
theorem bkB_bk {a c : Nat} {g : BG} (h : bkB a c g = true) : ∃ b : Bk, g = b.g ∧ b.ok a c := by
  cases g with
  | odd => cases h
  | bk ls bits kept first =>
    have h : (tgB a c (.tb ls bits) && (belB (.int kept) 2 && belB (.int first) (kept + 1))) = true := h
    rw [Bool.and_eq_true, Bool.and_eq_true, belB_iff, belB_iff] at h
    obtain ⟨h1, ⟨k0, k1⟩, f0, f1⟩ := h
    have h1 : (decide (ls.length ≤ 4) && (belB (.int bits) (rm ls.length) && ls.all (plB a c))) = true := h1
    rw [Bool.and_eq_true, Bool.and_eq_true, decide_eq_true_eq, belB_iff, List.all_eq_true] at h1
    obtain ⟨l4, ⟨b0, b1⟩, al⟩ := h1
    obtain ⟨ss, rfl, hss⟩ := pls_src al
    rw [List.length_map] at l4
    rw [List.length_map, rm_room l4] at b1
    exact ⟨⟨ss, bits, kept, first⟩, rfl, l4, hss, b0, b1, (by omega : kept = 0 ∨ kept = 1), f0, (by omega : first ≤ kept)⟩
theorem bks_bk {a c : Nat} : ∀ {bgs : List BG}, (∀ x ∈ bgs, bkB a c x = true) → ∃ bs : List Bk, bgs = bs.map Bk.g ∧ ∀ b ∈ bs, b.ok a c
  | [], _ => ⟨[], rfl, by simp⟩
  | x :: ls, h => by
    obtain ⟨s, rfl, hs⟩ := bkB_bk (h x (by simp))
    obtain ⟨ss, rfl, hss⟩ := bks_bk (bgs := ls) fun y hy => h y (by simp [hy])
    exact ⟨s :: ss, rfl, fun z hz => by
      rcases List.mem_cons.mp hz with rfl | hz
      · exact hs
      · exact hss z hz⟩
theorem sg_inj {s t : Src} (h : sg s = sg t) : s = t := by
  obtain ⟨a, n⟩ := s
  obtain ⟨b, m⟩ := t
  unfold sg at h
  simp only [List.cons.injEq, V.str.injEq, V.int.injEq, and_true] at h
  have e : n = m := by omega
  subst e
  cases a <;> cases b <;> first | rfl | (exact absurd h.1 (by decide +kernel))
theorem bkg_inj {b c : Bk} (h : b.g = c.g) : b = c := by
  obtain ⟨ss, x, y, z⟩ := b
  obtain ⟨tt, x', y', z'⟩ := c
  unfold Bk.g at h
  simp only [BG.bk.injEq] at h
  obtain ⟨h1, rfl, rfl, rfl⟩ := h
  rw [(List.map_inj_right (fun a b => sg_inj)).mp h1]
theorem bkgs_inj {bs cs : List Bk} (h : bs.map Bk.g = cs.map Bk.g) : bs = cs := (List.map_inj_right (fun a b => bkg_inj)).mp h
theorem paired_unmap {α α' β : Type} {S : α' → β → Prop} {g : α → α'} : ∀ {xs : List α} {ys : List β}, Paired S (xs.map g) ys → Paired (fun x y => S (g x) y) xs ys
  | [], _, .nil => .nil
  | _ :: _, _, .cons a t => .cons a (paired_unmap t)
section
variable {P : Program} {w : World} {K : PySem.W.Frag} {mg : Str → Option Value} {base : Heap} {f : Addr} {fd : FuncData} {k : Nat}
theorem gd_NoPack : Nd "NoPack" := by decide +kernel
theorem gd_is_block : Nd "is_block" := by decide +kernel
theorem gd_has_ring : Nd "has_ring" := by decide +kernel
theorem v25_0 : Vs (defScope (top 25)) "ins" := by decide +kernel
theorem d25_0 : Nd "ins" := by decide +kernel
theorem c25_0 : Nc "ins" := by decide +kernel
theorem g25_is_whole : Gi (defScope (top 25)) "is_whole" := by decide +kernel
theorem g25_NoPack : Gi (defScope (top 25)) "NoPack" := by decide +kernel
theorem g25_is_listed : Gi (defScope (top 25)) "is_listed" := by decide +kernel
theorem v25_2 : Vs (defScope (top 25)) "outs" := by decide +kernel
theorem d25_2 : Nd "outs" := by decide +kernel
theorem c25_2 : Nc "outs" := by decide +kernel
theorem v25_1 : Vs (defScope (top 25)) "blocks" := by decide +kernel
theorem d25_1 : Nd "blocks" := by decide +kernel
theorem c25_1 : Nc "blocks" := by decide +kernel
theorem l25_3 : Lc (defScope (top 25)) "counts" := by decide +kernel
theorem g25_len : Gi (defScope (top 25)) "len" := by decide +kernel
theorem g25_all : Gi (defScope (top 25)) "all" := by decide +kernel
def csc25_0 : Scope := { kind := PySem.ScopeKind.function, names := [ (PySem.Str.ofString ".0", PySem.NameKind.local), (PySem.Str.ofString "block", PySem.NameKind.local), (PySem.Str.ofString "is_block", PySem.NameKind.globalImplicit), (PySem.Str.ofString "counts", PySem.NameKind.free)], isGenerator := false, isCoroutine := false, more := [] : PySem.Scope }
theorem cok25_0 : CompOk csc25_0 (defScope (top 25)) (["block"] : List Str) (["ins", "blocks", "outs", "counts"] : List Str) [3] (["block", "counts"] : List Str) := compOk rfl (by decide +kernel) (by decide +kernel) (by decide +kernel) (by decide +kernel) rfl (by decide +kernel)
theorem kq25_0_0 : (relab csc25_0 (defScope (top 25))).names.lookup (Str.ofString "block") = some NameKind.local := by decide +kernel
theorem gq25_0_is_block : Gi (relab csc25_0 (defScope (top 25))) "is_block" := by decide +kernel
theorem vq25_0_1 : Vs (relab csc25_0 (defScope (top 25))) "counts" := by decide +kernel
theorem dq25_0_1 : Nd "counts" := by decide +kernel
theorem cq25_0_1 : Nc "counts" := by decide +kernel
theorem vq25_0_0 : Vs (relab csc25_0 (defScope (top 25))) "block" := by decide +kernel
theorem dq25_0_0 : Nd "block" := by decide +kernel
theorem cq25_0_0 : Nc "block" := by decide +kernel
def csc25_1 : Scope := { kind := PySem.ScopeKind.function, names := [ (PySem.Str.ofString ".0", PySem.NameKind.local), (PySem.Str.ofString "out", PySem.NameKind.local), (PySem.Str.ofString "is_place", PySem.NameKind.globalImplicit), (PySem.Str.ofString "counts", PySem.NameKind.free)], isGenerator := false, isCoroutine := false, more := [] : PySem.Scope }
theorem cok25_1 : CompOk csc25_1 (defScope (top 25)) (["out"] : List Str) (["ins", "blocks", "outs", "counts"] : List Str) [3] (["out", "counts"] : List Str) := compOk rfl (by decide +kernel) (by decide +kernel) (by decide +kernel) (by decide +kernel) rfl (by decide +kernel)
theorem kq25_1_0 : (relab csc25_1 (defScope (top 25))).names.lookup (Str.ofString "out") = some NameKind.local := by decide +kernel
theorem gq25_1_is_place : Gi (relab csc25_1 (defScope (top 25))) "is_place" := by decide +kernel
theorem vq25_1_1 : Vs (relab csc25_1 (defScope (top 25))) "counts" := by decide +kernel
theorem dq25_1_1 : Nd "counts" := by decide +kernel
theorem cq25_1_1 : Nc "counts" := by decide +kernel
theorem vq25_1_0 : Vs (relab csc25_1 (defScope (top 25))) "out" := by decide +kernel
theorem dq25_1_0 : Nd "out" := by decide +kernel
theorem cq25_1_0 : Nc "out" := by decide +kernel
theorem g25_has_ring : Gi (defScope (top 25)) "has_ring" := by decide +kernel
def spAskX (CE : Addr) : Sp := fun vs H Q E => ∃ (kd kd2 kd3 : SK) (bl ol : Addr) (ins : Int) (bgs : List BG) (ogs : List (List V)), vs = [.int ins, .ref bl, .ref ol] ∧ AskAt kd kd2 kd3 H bl ol bgs ogs ∧ (∀ n : Nat, ins = (n : Int) → AOk n bgs ogs → ∀ H', Ch [] H H' → Q .non H') ∧ ((∀ n : Nat, ins = (n : Int) → ¬ AOk n bgs ogs) → ∀ H', Ch [] H H' → E (.ref CE) none H')
theorem scAsk : FnScope ["ins", "blocks", "outs", "counts"] ["ins", "blocks", "outs"] (defScope (top 25)) := ⟨rfl, rfl, rfl, by decide +kernel, rfl, by decide +kernel, by decide +kernel⟩
theorem ok_askX {CE : Addr} (F : Fun K "ask_pack" "ask_pack" (top 25) f fd) (Dis_whole : DefOk P w K mg base CX0 k "is_whole" ["thing"] spWholeG) (Dis_listed : DefOk P w K mg base CX0 k "is_listed" ["thing"] spListed) (Dis_block : DefOk P w K mg base CX0 k "is_block" ["thing", "counts"] spBlockG) (Dis_place : DefOk P w K mg base CX0 k "is_place" ["thing", "counts"] spPlaceG) (Dhas_ring : DefOk P w K mg base CX0 k "has_ring" ["blocks"] spRing) (z_len : mg "len" = none) (z_all : mg "all" = none) (m_NoPack : mg "NoPack" = some (.ref CE)) (X_NoPack : XC K CE) :
    FnOk P w K mg base (CXE P w) (k + 1) f fd ["ins", "blocks", "outs"] (spAskX CE) := by
  have nd := scAsk.nd
  refine F.okE scAsk (fun vs H Q E h => by obtain ⟨kd, kd2, kd3, bl, ol, ins, bgs, ogs, rfl, _⟩ := h; rfl) (fun cdv A outer s H vs Q E hr h => ?_)
  obtain ⟨kd, kd2, kd3, bl, ol, ins, bgs, ogs, rfl, dr, q1, q2⟩ := h
  have hu := hu_of hr
  obtain ⟨bps, hb, bb⟩ := dr.b
  obtain ⟨ops, ho, oo⟩ := dr.o
  have lb := Paired.length bb
  have lo := Paired.length oo
  have b12 := dr.lb
  have o12 := dr.lo
  have th : Th H (.int ins) := .int ins
  refine ⟨_, (Pr.h (qpss_cons (qps_if (qPW_pt (qpw_or (qpt_not (qpt_val (qpe_callD Dis_whole hr g25_is_whole pass0 (qpa_cons (qpe_var (i := 0) rfl v25_0 d25_0 c25_0) qpa_nil se_Name) gd_is_whole))) (qpw_or1 (qpt_cmpR op_lt (qpe_var (i := 0) rfl v25_0 d25_0 c25_0) qpe_int (nomark _)))))
  (qpss_one (qps_raiseE g25_NoPack m_NoPack X_NoPack (qpa_cons qpe_str qpa_nil se_Constant) gd_NoPack))
  qpss_nil)
 (qpss_cons (qps_if (qPW_pt (qpw_or (qpt_not (qpt_val (qpe_callD Dis_listed hr g25_is_listed pass0 (qpa_cons (qpe_var (i := 1) rfl v25_1 d25_1 c25_1) qpa_nil se_Name) gd_is_listed))) (qpw_or1 (qpt_not (qpt_val (qpe_callD Dis_listed hr g25_is_listed pass0 (qpa_cons (qpe_var (i := 2) rfl v25_2 d25_2 c25_2) qpa_nil se_Name) gd_is_listed))))))
  (qpss_one (qps_raiseE g25_NoPack m_NoPack X_NoPack (qpa_cons qpe_str qpa_nil se_Constant) gd_NoPack))
  qpss_nil)
 (qpss_cons (qps_set (i := 3) nd rfl l25_3 (qpe_disp (qpps_cons qpe_str (qpe_var (i := 0) rfl v25_0 d25_0 c25_0) (qpps_cons qpe_str (qpe_callB call_len_seq g25_len z_len PySem.boot_len (qpa_cons (qpe_var (i := 1) rfl v25_1 d25_1 c25_1) qpa_nil se_Name) nn_len gd_len) qpps_nil)) rfl rfl (by intro z; cases z) (by decide)))
 (qpss_cons (qps_if (qpt_not (qpt_val (qpe_callB (call_all rfl) g25_all z_all bo_all (qpa_cons (qpe_comp rfl cok25_0 (qpi_sqK K rfl kd (qpe_var (i := 1) rfl v25_1 d25_1 c25_1)) (fun _ _ _ _ _ => (qpg_name (i := 0) cok25_0.nd rfl (Or.inl kq25_0_0) (Or.inr kq25_0_0))) (fun _ _ _ _ _ => qpif_nil) (fun _ _ _ _ _ => (qpe_callD Dis_block hr gq25_0_is_block pass0 (qpa_cons (qpe_var (i := 0) rfl vq25_0_0 dq25_0_0 cq25_0_0) (qpa_cons (qpe_var (i := 1) rfl vq25_0_1 dq25_0_1 cq25_0_1) qpa_nil se_Name) se_Name) gd_is_block))) qpa_nil se_ListComp) nn_all gd_all)))
  (qpss_one (qps_raiseE g25_NoPack m_NoPack X_NoPack (qpa_cons qpe_str qpa_nil se_Constant) gd_NoPack))
  qpss_nil)
 (qpss_cons (qps_if (qpt_not (qpt_val (qpe_callB (call_all rfl) g25_all z_all bo_all (qpa_cons (qpe_comp rfl cok25_1 (qpi_sqK K rfl kd3 (qpe_var (i := 2) rfl v25_2 d25_2 c25_2)) (fun _ _ _ _ _ => (qpg_name (i := 0) cok25_1.nd rfl (Or.inl kq25_1_0) (Or.inr kq25_1_0))) (fun _ _ _ _ _ => qpif_nil) (fun _ _ _ _ _ => (qpe_callD Dis_place hr gq25_1_is_place pass0 (qpa_cons (qpe_var (i := 0) rfl vq25_1_0 dq25_1_0 cq25_1_0) (qpa_cons (qpe_var (i := 1) rfl vq25_1_1 dq25_1_1 cq25_1_1) qpa_nil se_Name) se_Name) gd_is_place))) qpa_nil se_ListComp) nn_all gd_all)))
  (qpss_one (qps_raiseE g25_NoPack m_NoPack X_NoPack (qpa_cons qpe_str qpa_nil se_Constant) gd_NoPack))
  qpss_nil)
 (qpss_one (qps_if (qpt_val (qpe_callD Dhas_ring hr g25_has_ring pass0 (qpa_cons (qpe_var (i := 1) rfl v25_1 d25_1 c25_1) qpa_nil se_Name) gd_has_ring))
  (qpss_one (qps_raiseE g25_NoPack m_NoPack X_NoPack (qpa_cons qpe_str qpa_nil se_Constant) gd_NoPack))
  qpss_nil)))))))), ?_⟩
  (try dsimp only [cxOf])
  walk_at "rd"
  by_cases h0 : 0 ≤ ins
  · obtain ⟨n, rfl⟩ := Int.eq_ofNat_of_zero_le h0
    refine ite2 (fun hc => absurd (by simpa using hc) (by omega)) (fun _ => ?_)
    walk_at "rd"
    rename_i H1 c1
    refine ⟨ho.ch c1, fun H3 c3 => ?_⟩
    have c03 := c1.trans c3
    clear c1 c3 th
    walk_at "rd"
    rename_i cd hcd
    have cn : Ch [] H (upd H3 cd (.dK [])) := c03.trans (Ch.new hcd _)
    refine ⟨(hb.ch cn).or, ?_⟩
    walk_at "rd"
    refine ⟨(show _ = List.map (fun kv => (kV kv.1, kv.2)) (cntK n bgs.length) from by rw [List.length_map, ← lb]; rfl), (by show (2 : Nat) ≤ 15; decide), ?_⟩
    have em : mergeK [] (cntK n bgs.length) = cntK n bgs.length := rfl
    rw [em]
    have c4 : Ch [] H3 (upd (upd H3 cd (.dK [])) cd (.dK (cntK n bgs.length))) := Ch.own hcd (Ch.new hcd _)
    have g4 : (upd (upd H3 cd (.dK [])) cd (.dK (cntK n bgs.length))) cd = some (.dK (cntK n bgs.length)) := upd_same
    have c04 := c03.trans c4
    generalize upd (upd H3 cd (.dK [])) cd (.dK (cntK n bgs.length)) = H4 at c4 g4 c04 ⊢
    clear c4 hcd c03 em cn
    have hb4 := hb.ch c04
    have bb4 := paired_imp (fun _ _ e => BgAt.ch c04 e) bb
    walk_at "rd"
    refine ⟨⟨_, hb4.sq⟩, ?_⟩
    refine comp_sq (bps.map V.ref) (fun i ys σ H' => Ch [] H4 H' ∧ ys = ((bgs.take i).map (bkB n bgs.length)).map V.bl ∧ ∃ u, σ = [u, some (.ref cd)]) (by rw [sizeLine_eq, List.length_map]; omega) ⟨Ch.refl _ _, rfl, _, rfl⟩ ?_ ?_ ?_
    · rintro i ys σ H' hi ⟨c, rfl, _⟩
      exact ⟨by simp; omega, (hb4.ch c).sq⟩
    · rintro i ys σ H' z hz ⟨c, rfl, u, rfl⟩
      obtain ⟨p, t, rfl, et, tp⟩ := paired_get bb4 i z hz
      have tp := tp.ch c
      have g5 := c.get g4 (by simp)
      walk_at "rd"
      refine ⟨?_, _, rfl⟩
      rw [List.take_add_one, et]; simp
    rintro ys σ H5 ⟨c5, rfl, _⟩
    rw [List.length_map, ← lb, List.take_length]
    intro D hD
    refine ⟨D, bgs.map (bkB n bgs.length), rfl, by rw [upd_same], ?_⟩
    have c06 : Ch [] H (upd H5 D (.lst ((bgs.map (bkB n bgs.length)).map V.bl))) := (c04.trans c5).trans (Ch.new hD _)
    have g6 : (upd H5 D (.lst ((bgs.map (bkB n bgs.length)).map V.bl))) cd = some (.dK (cntK n bgs.length)) := g_new hD (c5.get g4 (by simp))
    generalize upd H5 D (.lst ((bgs.map (bkB n bgs.length)).map V.bl)) = H6 at c06 g6 ⊢
    clear c04 c5 g4 hb4 hD bb4
    by_cases hA : ∀ x ∈ bgs, bkB n bgs.length x = true
    · rw [show (bgs.map (bkB n bgs.length)).all id = true from by rw [List.all_map]; exact List.all_eq_true.mpr hA]
      have ho6 := ho.ch c06
      have oo6 := paired_imp (fun _ _ e => PgAt.tu (Tu.same c06) e) oo
      walk_at "rd"
      refine ⟨⟨_, ho6.sq⟩, ?_⟩
      refine comp_sq (ops.map V.ref) (fun i ys σ H' => H' = H6 ∧ ys = ((ogs.take i).map (plB n bgs.length)).map V.bl ∧ ∃ u, σ = [u, some (.ref cd)]) (by rw [sizeLine_eq, List.length_map]; omega) ⟨rfl, rfl, _, rfl⟩ ?_ ?_ ?_
      · rintro i ys σ H' hi ⟨rfl, rfl, _⟩
        exact ⟨by simp; omega, ho6.sq⟩
      · rintro i ys σ H' z hz ⟨rfl, rfl, u, rfl⟩
        obtain ⟨p, t, rfl, et, tp⟩ := paired_get oo6 i z hz
        walk_at "rd"
        refine ⟨?_, _, rfl⟩
        rw [List.take_add_one, et]; simp
      rintro ys σ H' ⟨rfl, rfl, _⟩
      rw [List.length_map, ← lo, List.take_length]
      intro D hD
      refine ⟨D, ogs.map (plB n bgs.length), rfl, by rw [upd_same], ?_⟩
      have c07 : Ch [] H (upd H' D (.lst ((ogs.map (plB n bgs.length)).map V.bl))) := c06.trans (Ch.new hD _)
      generalize upd H' D (.lst ((ogs.map (plB n bgs.length)).map V.bl)) = H7 at c07 ⊢
      clear ho6 oo6 hD g6
      by_cases hO : ∀ x ∈ ogs, plB n bgs.length x = true
      · rw [show (ogs.map (plB n bgs.length)).all id = true from by rw [List.all_map]; exact List.all_eq_true.mpr hO]
        obtain ⟨bs, ebs, okb⟩ := bks_bk hA
        have el : bs.length = bgs.length := by rw [ebs, List.length_map]
        have hb7 := hb.ch c07
        have bb7 : BsAt kd2 H7 bs bps := paired_unmap (S := BgAt kd2 H7) (g := Bk.g) (by rw [← ebs]; exact paired_imp (fun _ _ e => BgAt.ch c07 e) bb)
        have okb : ∀ b ∈ bs, b.ok n bs.length := by rw [el]; exact okb
        have l64 : bs.length ≤ 64 := by omega
        walk_at "rd"
        refine ⟨fun ac H8 c8 => ?_, fun ac H8 c8 => ?_⟩
        · walk_at "rd"
          exact q1 n rfl ⟨hA, hO, fun bs' e => by rw [bkgs_inj (e.symm.trans ebs)]; exact ac⟩ _ (c07.trans c8)
        · walk_at "rd"
          exact q2 (fun n' e ok => ac (ok.a bs ebs)) _ (c07.trans c8)
      · rw [show (ogs.map (plB n bgs.length)).all id = false from by rw [List.all_map]; exact Bool.eq_false_iff.mpr fun z => hO (List.all_eq_true.mp z)]
        walk_at "rd"
        exact q2 (fun n' e ok => hO (by have e' : n = n' := by omega
                                        subst e'
                                        exact ok.o)) _ c07
    · rw [show (bgs.map (bkB n bgs.length)).all id = false from by rw [List.all_map]; exact Bool.eq_false_iff.mpr fun z => hA (List.all_eq_true.mp z)]
      walk_at "rd"
      exact q2 (fun n' e ok => hA (by have e' : n = n' := by omega
                                      subst e'
                                      exact ok.b)) _ c06
  · refine ite2 (fun _ => ?_) (fun hc => absurd (by simpa using hc) h0)
    walk_at "rd"
    exact q2 (fun n e => absurd (by omega) h0) _ (Ch.refl _ _)
end
end

section
def fldsP (ins : Nat) (bt ot : Addr) : List (Str × V) := [("ins", .int (ins : Int)), ("blocks", .ref bt), ("outs", .ref ot)]
structure PkT (H : Hp) (bt ot : Addr) (bgs : List BG) (ogs : List (List V)) : Prop where
  b : ∃ ps, H bt = some (.tup (ps.map V.ref)) ∧ Paired (BgAt .tuple H) bgs ps
  o : ∃ ps, H ot = some (.tup (ps.map V.ref)) ∧ Paired (PgAt H) ogs ps
theorem BgAt.tu {H H' : Hp} (k : Tu H H') {t : BG} {p : Addr} (s : BgAt .tuple H t p) : BgAt .tuple H' t p := by
  cases t with
  | odd => obtain ⟨ys, h, n⟩ := s; exact ⟨ys, k _ _ h, n⟩
  | bk ls bits kept first => obtain ⟨lp, ps, h, q, w⟩ := s; exact ⟨lp, ps, k _ _ h, k _ _ q, paired_imp (fun _ _ e => PgAt.tu k e) w⟩
theorem PkT.tu {H H' : Hp} (k : Tu H H') {bt ot : Addr} {bgs : List BG} {ogs : List (List V)} (s : PkT H bt ot bgs ogs) : PkT H' bt ot bgs ogs :=
  ⟨s.b.imp fun _ h => ⟨k _ _ h.1, paired_imp (fun _ _ e => BgAt.tu k e) h.2⟩, s.o.imp fun _ h => ⟨k _ _ h.1, paired_imp (fun _ _ e => PgAt.tu k e) h.2⟩⟩
theorem SqX.ob {kd : SK} {H H' : Hp} {a y C d : Addr} {fs : List (Str × V)} {xs : List V} (h : SqX kd H a xs) (c : Ch [y] H H') (hy : H y = some (.ins C d fs)) : SqX kd H' a xs := by
  cases kd with
  | list => exact c.get h (by simpa using ne_of h hy (by intro z; cases z))
  | tuple => exact c.get h (by simpa using ne_of h hy (by intro z; cases z))
theorem BgAt.ob {kd : SK} {H H' : Hp} {y C d : Addr} {fs : List (Str × V)} {t : BG} {p : Addr} (s : BgAt kd H t p) (c : Ch [y] H H') (hy : H y = some (.ins C d fs)) : BgAt kd H' t p := by
  have k : Tu H H' := Tu.ch c hy (fun _ z => by cases z)
  cases t with
  | odd => obtain ⟨ys, h, n⟩ := s; exact ⟨ys, k _ _ h, n⟩
  | bk ls bits kept first => obtain ⟨lp, ps, h, q, w⟩ := s; exact ⟨lp, ps, k _ _ h, q.ob c hy, paired_imp (fun _ _ e => PgAt.tu k e) w⟩
theorem AskAt.ob {kd kd2 kd3 : SK} {H H' : Hp} {y C d : Addr} {fs : List (Str × V)} {bl ol : Addr} {bgs : List BG} {ogs : List (List V)} (s : AskAt kd kd2 kd3 H bl ol bgs ogs) (c : Ch [y] H H') (hy : H y = some (.ins C d fs)) : AskAt kd kd2 kd3 H' bl ol bgs ogs := by
  have k : Tu H H' := Tu.ch c hy (fun _ z => by cases z)
  exact ⟨s.b.imp fun _ h => ⟨h.1.ob c hy, paired_imp (fun _ _ e => BgAt.ob e c hy) h.2⟩, s.o.imp fun _ h => ⟨h.1.ob c hy, paired_imp (fun _ _ e => PgAt.tu k e) h.2⟩, s.lb, s.lo⟩
theorem AskAt.ch {kd kd2 kd3 : SK} {H H' : Hp} {bl ol : Addr} {bgs : List BG} {ogs : List (List V)} (s : AskAt kd kd2 kd3 H bl ol bgs ogs) (c : Ch [] H H') : AskAt kd kd2 kd3 H' bl ol bgs ogs :=
  ⟨s.b.imp fun _ h => ⟨h.1.ch c, paired_imp (fun _ _ e => BgAt.ch c e) h.2⟩, s.o.imp fun _ h => ⟨h.1.ch c, paired_imp (fun _ _ e => PgAt.tu (Tu.same c) e) h.2⟩, s.lb, s.lo⟩
structure BC (H0 H' : Hp) (ts : List BG) (ys : List V) : Prop where
  c : Ch [] H0 H'
  b : ∃ us : List Addr, ys = us.map V.ref ∧ Paired (BgAt .tuple H') ts us
section
variable {P : Program} {w : World} {K : PySem.W.Frag} {mg : Str → Option Value} {base : Heap} {f : Addr} {fd : FuncData} {k : Nat}
theorem gd_ask_pack : Nd "ask_pack" := by decide +kernel
theorem g26m0_ask_pack : Gi (defScope (inClass (top 26) 0)) "ask_pack" := by decide +kernel
theorem v26m0_3 : Vs (defScope (inClass (top 26) 0)) "outs" := by decide +kernel
theorem d26m0_3 : Nd "outs" := by decide +kernel
theorem c26m0_3 : Nc "outs" := by decide +kernel
theorem v26m0_2 : Vs (defScope (inClass (top 26) 0)) "blocks" := by decide +kernel
theorem d26m0_2 : Nd "blocks" := by decide +kernel
theorem c26m0_2 : Nc "blocks" := by decide +kernel
theorem v26m0_1 : Vs (defScope (inClass (top 26) 0)) "ins" := by decide +kernel
theorem d26m0_1 : Nd "ins" := by decide +kernel
theorem c26m0_1 : Nc "ins" := by decide +kernel
theorem v26m0_0 : Vs (defScope (inClass (top 26) 0)) "self" := by decide +kernel
theorem d26m0_0 : Nd "self" := by decide +kernel
theorem c26m0_0 : Nc "self" := by decide +kernel
theorem g26m0_tuple : Gi (defScope (inClass (top 26) 0)) "tuple" := by decide +kernel
def csc26m0_0 : Scope := { kind := PySem.ScopeKind.function, names := [ (PySem.Str.ofString ".0", PySem.NameKind.local), (PySem.Str.ofString "sources", PySem.NameKind.local), (PySem.Str.ofString "bits", PySem.NameKind.local), (PySem.Str.ofString "kept", PySem.NameKind.local), (PySem.Str.ofString "first", PySem.NameKind.local), (PySem.Str.ofString "tuple", PySem.NameKind.globalImplicit)], isGenerator := false, isCoroutine := false, more := [] : PySem.Scope }
theorem cok26m0_0 : CompOk csc26m0_0 (defScope (inClass (top 26) 0)) (["sources", "bits", "kept", "first"] : List Str) (["self", "ins", "blocks", "outs"] : List Str) [] (["sources", "bits", "kept", "first"] : List Str) := compOk rfl (by decide +kernel) (by decide +kernel) (by decide +kernel) (by decide +kernel) rfl (by decide +kernel)
theorem kq26m0_0_3 : (relab csc26m0_0 (defScope (inClass (top 26) 0))).names.lookup (Str.ofString "first") = some NameKind.local := by decide +kernel
theorem kq26m0_0_2 : (relab csc26m0_0 (defScope (inClass (top 26) 0))).names.lookup (Str.ofString "kept") = some NameKind.local := by decide +kernel
theorem kq26m0_0_1 : (relab csc26m0_0 (defScope (inClass (top 26) 0))).names.lookup (Str.ofString "bits") = some NameKind.local := by decide +kernel
theorem kq26m0_0_0 : (relab csc26m0_0 (defScope (inClass (top 26) 0))).names.lookup (Str.ofString "sources") = some NameKind.local := by decide +kernel
theorem vq26m0_0_3 : Vs (relab csc26m0_0 (defScope (inClass (top 26) 0))) "first" := by decide +kernel
theorem dq26m0_0_3 : Nd "first" := by decide +kernel
theorem cq26m0_0_3 : Nc "first" := by decide +kernel
theorem vq26m0_0_2 : Vs (relab csc26m0_0 (defScope (inClass (top 26) 0))) "kept" := by decide +kernel
theorem dq26m0_0_2 : Nd "kept" := by decide +kernel
theorem cq26m0_0_2 : Nc "kept" := by decide +kernel
theorem vq26m0_0_1 : Vs (relab csc26m0_0 (defScope (inClass (top 26) 0))) "bits" := by decide +kernel
theorem dq26m0_0_1 : Nd "bits" := by decide +kernel
theorem cq26m0_0_1 : Nc "bits" := by decide +kernel
theorem gq26m0_0_tuple : Gi (relab csc26m0_0 (defScope (inClass (top 26) 0))) "tuple" := by decide +kernel
theorem vq26m0_0_0 : Vs (relab csc26m0_0 (defScope (inClass (top 26) 0))) "sources" := by decide +kernel
theorem dq26m0_0_0 : Nd "sources" := by decide +kernel
theorem cq26m0_0_0 : Nc "sources" := by decide +kernel
def spPackX (C CE : Addr) : Sp := fun vs H Q E => ∃ (kd kd2 kd3 : SK) (x dx bl ol : Addr) (ins : Int) (bgs : List BG) (ogs : List (List V)), vs = [.ref x, .int ins, .ref bl, .ref ol] ∧ H x = some (.ins C dx []) ∧ AskAt kd kd2 kd3 H bl ol bgs ogs ∧
  (∀ n : Nat, ins = (n : Int) → AOk n bgs ogs → ∀ bt ot H', Ch [x] H H' → H' x = some (.ins C dx (fldsP n bt ot)) → PkT H' bt ot bgs ogs → Q .non H') ∧ ((∀ n : Nat, ins = (n : Int) → ¬ AOk n bgs ogs) → ∀ H', Ch [x] H H' → E (.ref CE) none H')
theorem scPack : FnScope ["self", "ins", "blocks", "outs"] ["self", "ins", "blocks", "outs"] (defScope (inClass (top 26) 0)) := ⟨rfl, rfl, rfl, by decide +kernel, rfl, by decide +kernel, by decide +kernel⟩
theorem ok_PackX {C CE : Addr} (F : Fun K "__init__" "Pack.__init__" (inClass (top 26) 0) f fd) (cl : Cls K C) (nI : NoAttr K C "ins") (nB : NoAttr K C "blocks") (nO : NoAttr K C "outs") (Dask_pack : DefOk P w K mg base (CXE P w) k "ask_pack" ["ins", "blocks", "outs"] (spAskX CE)) (z_tuple : mg "tuple" = none) :
    FnOk P w K mg base (CXE P w) (k + 1) f fd ["self", "ins", "blocks", "outs"] (spPackX C CE) := by
  have nd := scPack.nd
  refine F.okE scPack (fun vs H Q E h => by obtain ⟨kd, kd2, kd3, x, dx, bl, ol, ins, bgs, ogs, rfl, _⟩ := h; rfl) (fun cdv A outer s H vs Q E hr h => ?_)
  obtain ⟨kd, kd2, kd3, x, dx, bl, ol, ins, bgs, ogs, rfl, hx, dr, q1, q2⟩ := h
  refine ⟨_, (Pr.h (qpss_cons (qps_expr (qpe_callD Dask_pack hr g26m0_ask_pack passE (qpa_cons (qpe_var (i := 1) rfl v26m0_1 d26m0_1 c26m0_1) (qpa_cons (qpe_var (i := 2) rfl v26m0_2 d26m0_2 c26m0_2) (qpa_cons (qpe_var (i := 3) rfl v26m0_3 d26m0_3 c26m0_3) qpa_nil se_Name) se_Name) se_Name) gd_ask_pack))
 (qpss_cons (qps_fld (qpe_var (i := 0) rfl v26m0_0 d26m0_0 c26m0_0) (qpe_var (i := 1) rfl v26m0_1 d26m0_1 c26m0_1) rfl)
 (qpss_cons (qps_fld (qpe_var (i := 0) rfl v26m0_0 d26m0_0 c26m0_0) (qpe_callTy call_tuple_of g26m0_tuple z_tuple bo_tuple (qpa_cons (qpe_comp rfl cok26m0_0 (qpi_sqK K rfl kd (qpe_var (i := 2) rfl v26m0_2 d26m0_2 c26m0_2)) (fun _ _ _ _ _ => (qpg_tupK K 4 rfl rfl (qpgs_cons (qpg_name (i := 0) cok26m0_0.nd rfl (Or.inl kq26m0_0_0) (Or.inr kq26m0_0_0)) (qpgs_cons (qpg_name (i := 1) cok26m0_0.nd rfl (Or.inl kq26m0_0_1) (Or.inr kq26m0_0_1)) (qpgs_cons (qpg_name (i := 2) cok26m0_0.nd rfl (Or.inl kq26m0_0_2) (Or.inr kq26m0_0_2)) (qpgs_cons (qpg_name (i := 3) cok26m0_0.nd rfl (Or.inl kq26m0_0_3) (Or.inr kq26m0_0_3)) qpgs_nil)))))) (fun _ _ _ _ _ => qpif_nil) (fun _ _ _ _ _ => (qpe_tup (qpa_cons (qpe_callTy (callK_tuple_of K rfl) gq26m0_0_tuple z_tuple bo_tuple (qpa_cons (qpe_var (i := 0) rfl vq26m0_0_0 dq26m0_0_0 cq26m0_0_0) qpa_nil se_Name) nn_tuple gd_tuple) (qpa_cons (qpe_var (i := 1) rfl vq26m0_0_1 dq26m0_0_1 cq26m0_0_1) (qpa_cons (qpe_var (i := 2) rfl vq26m0_0_2 dq26m0_0_2 cq26m0_0_2) (qpa_cons (qpe_var (i := 3) rfl vq26m0_0_3 dq26m0_0_3 cq26m0_0_3) qpa_nil se_Name) se_Name) se_Name) se_Call)))) qpa_nil se_ListComp) nn_tuple gd_tuple) rfl)
 (qpss_one (qps_fld (qpe_var (i := 0) rfl v26m0_0 d26m0_0 c26m0_0) (qpe_callTy call_tuple_of g26m0_tuple z_tuple bo_tuple (qpa_cons (qpe_var (i := 3) rfl v26m0_3 d26m0_3 c26m0_3) qpa_nil se_Name) nn_tuple gd_tuple) rfl)))))), ?_⟩
  (try dsimp only [cxOf])
  walk_at "rd"
  refine ⟨fun n en ok H1 c1 => ?_, fun no H1 c1 => q2 no _ c1.wk⟩
  subst en
  have hx1 : H1 x = some (.ins C dx []) := c1.get hx (by simp)
  walk_at "rd"
  have dr2 := (dr.ch c1).ob (Ch.put (o := HO.ins C dx (putF "ins" (.int (n : Int)) []))) hx1
  have hx2 : (upd H1 x (.ins C dx (putF "ins" (.int (n : Int)) []))) x = some (.ins C dx (putF "ins" (.int (n : Int)) [])) := upd_same
  have c2 : Ch [x] H (upd H1 x (.ins C dx (putF "ins" (.int (n : Int)) []))) := c1.wk.trans Ch.put
  obtain ⟨tps, ht, tt⟩ := dr2.b
  refine ⟨⟨_, ht.sq⟩, ?_⟩
  generalize upd H1 x (.ins C dx (putF "ins" (.int (n : Int)) [])) = H2 at hx2 c2 dr2 ht tt ⊢
  clear hx1 c1 dr
  have lt := Paired.length tt
  have t12 := dr2.lb
  refine comp_sq (tps.map V.ref) (fun i ys σ H' => BC H2 H' (bgs.take i) ys ∧ ∃ u0 u1 u2 u3, σ = [u0, u1, u2, u3]) (by rw [sizeLine_eq, List.length_map]; omega) ⟨⟨Ch.refl _ _, [], rfl, .nil⟩, _, _, _, _, rfl⟩ ?_ ?_ ?_
  · rintro i ys σ H' hi ⟨⟨c, us, rfl, uu⟩, _⟩
    refine ⟨?_, (ht.ch c).sq⟩
    rw [List.length_map, ← Paired.length uu, List.length_take]
    omega
  · rintro i ys σ H' z hz ⟨⟨c, us, rfl, uu⟩, u0, u1, u2, u3, rfl⟩
    obtain ⟨p, t, rfl, et, tp⟩ := paired_get tt i z hz
    have okt := ok.b t (List.mem_of_getElem? et)
    cases t with
    | odd => cases okt
    | bk ls bits kept first =>
      obtain ⟨lp, sps, hp, hs, ws⟩ := tp.ch c
      cases kd2 with
      | list =>
        have hs : H' lp = some (.lst (sps.map V.ref)) := hs
        walk_at "rd"
        rename_i T1 h1 T2 h2
        have cT : Ch [] H' (upd (upd H' T1 (.tup (sps.map V.ref))) T2 (.tup [.ref T1, .int bits, .int kept, .int first])) := (Ch.new h1 _).trans (Ch.new h2 _)
        refine ⟨⟨c.trans cT, us ++ [T2], by simp, ?_⟩, _, _, _, _, rfl⟩
        rw [List.take_add_one, et]
        exact paired_snoc ⟨T1, sps, upd_same, g_new h2 upd_same, paired_imp (fun _ _ e => PgAt.tu (Tu.same cT) e) ws⟩ (paired_imp (fun _ _ => BgAt.tu (Tu.same cT)) uu)
      | tuple =>
        have hs : H' lp = some (.tup (sps.map V.ref)) := hs
        walk_at "rd"
        rename_i T2 h2
        have cT : Ch [] H' (upd H' T2 (.tup [.ref lp, .int bits, .int kept, .int first])) := Ch.new h2 _
        refine ⟨⟨c.trans cT, us ++ [T2], by simp, ?_⟩, _, _, _, _, rfl⟩
        rw [List.take_add_one, et]
        exact paired_snoc ⟨lp, sps, upd_same, g_new h2 hs, paired_imp (fun _ _ e => PgAt.tu (Tu.same cT) e) ws⟩ (paired_imp (fun _ _ => BgAt.tu (Tu.same cT)) uu)
  rintro ys σ H3 ⟨⟨c3, us, rfl, uu⟩, _⟩
  rw [List.length_map, ← lt, List.take_length] at uu
  intro D hD
  have hx3 : H3 x = some (.ins C dx (putF "ins" (.int (n : Int)) [])) := c3.get hx2 (by simp)
  have dr3 := dr2.ch c3
  obtain ⟨ops, ho, oo⟩ := dr3.o
  have cA1 : Ch [] H3 (upd H3 D (.lst (us.map V.ref))) := Ch.new hD _
  cases kd3 with
  | list =>
    have ho : H3 ol = some (.lst (ops.map V.ref)) := ho
    have nox : ol ≠ x := ne_of ho hx3 (by intro z; cases z)
    walk_at "rd"
    rename_i tb h1 to h3
    have cA : Ch [] H3 (upd (upd H3 D (.lst (us.map V.ref))) tb (.tup (us.map V.ref))) := cA1.trans (Ch.new h1 _)
    have ntx : tb ≠ x := (ne_of_none (g_new hD hx3) h1).symm
    have nox2 : to ≠ x := fun z => by rw [z, upd_same] at h3; cases h3
    have cF : Ch [x] H3 (upd (upd (upd (upd (upd H3 D (.lst (us.map V.ref))) tb (.tup (us.map V.ref))) x (.ins C dx (putF "blocks" (.ref tb) (putF "ins" (.int (n : Int)) [])))) to (.tup (ops.map V.ref))) x (.ins C dx (putF "outs" (.ref to) (putF "blocks" (.ref tb) (putF "ins" (.int (n : Int)) []))))) :=
      ((cA.wk.trans Ch.put).trans (Ch.new h3 _)).trans Ch.put
    have tu := Tu.ch cF hx3 (fun _ z => by cases z)
    exact q1 n rfl ok tb to _ ((c2.trans c3.wk).trans cF) upd_same ⟨⟨us, g_put ntx (g_new h3 (g_put ntx upd_same)), paired_imp (fun _ _ => BgAt.tu tu) uu⟩, ⟨ops, g_put nox2 upd_same, paired_imp (fun _ _ e => PgAt.tu tu e) oo⟩⟩
  | tuple =>
    have ho : H3 ol = some (.tup (ops.map V.ref)) := ho
    have nox : ol ≠ x := ne_of ho hx3 (by intro z; cases z)
    walk_at "rd"
    rename_i tb h1
    have cA : Ch [] H3 (upd (upd H3 D (.lst (us.map V.ref))) tb (.tup (us.map V.ref))) := cA1.trans (Ch.new h1 _)
    have ntx : tb ≠ x := (ne_of_none (g_new hD hx3) h1).symm
    have cF : Ch [x] H3 (upd (upd (upd (upd H3 D (.lst (us.map V.ref))) tb (.tup (us.map V.ref))) x (.ins C dx (putF "blocks" (.ref tb) (putF "ins" (.int (n : Int)) [])))) x (.ins C dx (putF "outs" (.ref ol) (putF "blocks" (.ref tb) (putF "ins" (.int (n : Int)) []))))) :=
      (cA.wk.trans Ch.put).trans Ch.put
    have tu := Tu.ch cF hx3 (fun _ z => by cases z)
    exact q1 n rfl ok tb ol _ ((c2.trans c3.wk).trans cF) upd_same ⟨⟨us, g_put ntx (g_put ntx upd_same), paired_imp (fun _ _ => BgAt.tu tu) uu⟩, ⟨ops, tu _ _ ho, paired_imp (fun _ _ e => PgAt.tu tu e) oo⟩⟩
end
end

section
def spNext (K : PySem.W.Frag) : Sp := fun vs H Q _ => ∃ (a b : Addr) (ns : List Int) (c : Int), vs = [.ref a, .ref b] ∧ Scr K H a ns ∧ H b = some (.lst [.int c]) ∧ 0 ≤ c ∧ c < 2 ^ 60 ∧
  ∀ (n : Int) (H' : Hp), 0 ≤ n → n < 2147483629 → Ch [b] H H' → H' b = some (.lst [.int (c + 1)]) → Q (.int n) H'
section
variable {P : Program} {w : World} {K : PySem.W.Frag} {mg : Str → Option Value} {base : Heap} {f : Addr} {fd : FuncData} {k : Nat}
theorem v28_1 : Vs (defScope (top 28)) "_law_at" := by decide +kernel
theorem d28_1 : Nd "_law_at" := by decide +kernel
theorem c28_1 : Nc "_law_at" := by decide +kernel
theorem l28_2 : Lc (defScope (top 28)) "_law_cell" := by decide +kernel
theorem g28_len : Gi (defScope (top 28)) "len" := by decide +kernel
theorem v28_0 : Vs (defScope (top 28)) "_law_script" := by decide +kernel
theorem d28_0 : Nd "_law_script" := by decide +kernel
theorem c28_0 : Nc "_law_script" := by decide +kernel
theorem l28_3 : Lc (defScope (top 28)) "_law_figures" := by decide +kernel
theorem v28_2 : Vs (defScope (top 28)) "_law_cell" := by decide +kernel
theorem d28_2 : Nd "_law_cell" := by decide +kernel
theorem c28_2 : Nc "_law_cell" := by decide +kernel
theorem g28_range : Gi (defScope (top 28)) "range" := by decide +kernel
theorem l28_4 : Lc (defScope (top 28)) "_law_k" := by decide +kernel
theorem v28_3 : Vs (defScope (top 28)) "_law_figures" := by decide +kernel
theorem d28_3 : Nd "_law_figures" := by decide +kernel
theorem c28_3 : Nc "_law_figures" := by decide +kernel
theorem l28_5 : Lc (defScope (top 28)) "_law_m" := by decide +kernel
theorem v28_5 : Vs (defScope (top 28)) "_law_m" := by decide +kernel
theorem d28_5 : Nd "_law_m" := by decide +kernel
theorem c28_5 : Nc "_law_m" := by decide +kernel
theorem scNext : FnScope ["_law_script", "_law_at", "_law_cell", "_law_figures", "_law_k", "_law_m"] ["_law_script", "_law_at"] (defScope (top 28)) := ⟨rfl, rfl, rfl, by decide +kernel, rfl, by decide +kernel, by decide +kernel⟩
theorem ok_next (F : Fun K "_law_next" "_law_next" (top 28) f fd) (z_len : mg "len" = none) (z_range : mg "range" = none) :
    FnOk P w K mg base CX0 (k + 1) f fd ["_law_script", "_law_at"] (spNext K) := by
  have nd := scNext.nd
  refine F.ok scNext (fun vs H Q E h => ?_) (fun cdv A outer s H vs Q E hr h => ?_)
  · obtain ⟨a, b, ns, c, rfl, _⟩ := h
    rfl
  obtain ⟨a, b, ns, c, rfl, hS, hb, h0, h1, q⟩ := h
  refine ⟨_, (Pr.h (qpss_cons (qps_asg (qpe_op op_add (qpe_ix ixa_list (qpe_var (i := 1) rfl v28_1 d28_1 c28_1) qpe_int (fun _ _ => rfl)) qpe_int) (qpg_sub (qpe_var (i := 1) rfl v28_1 d28_1 c28_1) qpe_int set_list))
 (qpss_cons (qps_set (i := 2) nd rfl l28_2 qpe_int)
 (qpss_cut (qps_if (qpt_cmpR op_gt (qpe_callB call_len_seq g28_len z_len PySem.boot_len (qpa_cons (qpe_var (i := 0) rfl v28_0 d28_0 c28_0) qpa_nil se_Name) nn_len gd_len) qpe_int (nomark _))
  (qpss_one (qps_set (i := 2) nd rfl l28_2 (qpe_ix ixa_list (qpe_var (i := 0) rfl v28_0 d28_0 c28_0) (qpe_op op_mod (qpe_ix ixa_list (qpe_var (i := 1) rfl v28_1 d28_1 c28_1) qpe_int (fun _ _ => rfl)) (qpe_callB call_len_seq g28_len z_len PySem.boot_len (qpa_cons (qpe_var (i := 0) rfl v28_0 d28_0 c28_0) qpa_nil se_Name) nn_len gd_len)) (fun _ _ => rfl))))
  qpss_nil)
 (qpss_cut (qps_if (qPW_pt (qpw_and (qpt_cmpR op_gt (qpe_callB call_len_seq g28_len z_len PySem.boot_len (qpa_cons (qpe_var (i := 0) rfl v28_0 d28_0 c28_0) qpa_nil se_Name) nn_len gd_len) qpe_int (nomark _)) (qpw_and1 (qpt_cmpR op_eq (qpe_op op_mod (qpe_ix ixa_list (qpe_var (i := 0) rfl v28_0 d28_0 c28_0) qpe_int (fun _ _ => rfl)) qpe_int) qpe_int (nomark _)))))
  (qpss_cons (qps_set (i := 3) nd rfl l28_3 (qpe_var (i := 2) rfl v28_2 d28_2 c28_2))
 (qpss_cons (qps_loop PassesOwn.never rfl (qpi_range1 g28_range z_range (qpa_cons (qpe_op op_mod (qpe_op op_fdivW (qpe_ix ixa_list (qpe_var (i := 1) rfl v28_1 d28_1 c28_1) qpe_int (fun _ _ => rfl)) (qpe_callB call_len_seq g28_len z_len PySem.boot_len (qpa_cons (qpe_var (i := 0) rfl v28_0 d28_0 c28_0) qpa_nil se_Name) nn_len gd_len)) qpe_int) qpa_nil se_BinOp)) (qpg_name (i := 4) nd rfl l28_4)
  (qpss_one (qps_set (i := 3) nd rfl l28_3 (qpe_op op_fdivW (qpe_var (i := 3) rfl v28_3 d28_3 c28_3) qpe_int))))
 (qpss_one (qps_if (qPW_pt (qpw_or (qpt_cmpR op_notIn_seq (qpe_var (i := 3) rfl v28_3 d28_3 c28_3) (qpe_tup (qpa_cons qpe_int (qpa_cons (qpe_un un_neg qpe_int) qpa_nil se_UnaryOp) se_Constant)) rfl) (qpw_or1 (qpt_cmpR op_lt (qpe_ix ixa_list (qpe_var (i := 1) rfl v28_1 d28_1 c28_1) qpe_int (fun _ _ => rfl)) (qpe_callB call_len_seq g28_len z_len PySem.boot_len (qpa_cons (qpe_var (i := 0) rfl v28_0 d28_0 c28_0) qpa_nil se_Name) nn_len gd_len) (nomark _)))))
  (qpss_one (qps_ret (qpe_op op_mod (qpe_var (i := 3) rfl v28_3 d28_3 c28_3) qpe_int)))
  qpss_nil))))
  qpss_nil)
 (qpss_cons (qps_set (i := 5) nd rfl l28_5 (qpe_op op_mod (qpe_op op_mul (qpe_op op_add (qpe_op op_add (qpe_op op_mod (qpe_var (i := 2) rfl v28_2 d28_2 c28_2) qpe_int) (qpe_op op_mul (qpe_op op_mul (qpe_ix ixa_list (qpe_var (i := 1) rfl v28_1 d28_1 c28_1) qpe_int (fun _ _ => rfl)) (qpe_ix ixa_list (qpe_var (i := 1) rfl v28_1 d28_1 c28_1) qpe_int (fun _ _ => rfl))) qpe_int)) qpe_int) qpe_int) qpe_int))
 (qpss_cons (qps_set (i := 5) nd rfl l28_5 (qpe_op op_mod (qpe_op op_mul (qpe_var (i := 5) rfl v28_5 d28_5 c28_5) (qpe_var (i := 5) rfl v28_5 d28_5 c28_5)) qpe_int))
 (qpss_one (qps_ret (qpe_op op_mod (qpe_op op_mul (qpe_op op_add (qpe_var (i := 5) rfl v28_5 d28_5 c28_5) (qpe_op op_mul (qpe_ix ixa_list (qpe_var (i := 1) rfl v28_1 d28_1 c28_1) qpe_int (fun _ _ => rfl)) qpe_int)) qpe_int) qpe_int)))))))))), ?_⟩
  have h63 : ns.length ≤ 63 := hS.1
  (try dsimp only [cxOf])
  walk_at "rd"
  refine cut_by (fun σ H' => ∃ n : Int, σ = [some (.ref a), some (.ref b), some (.int n), none, none, none] ∧ Ch [b] H H' ∧ H' b = some (.lst [.int (c + 1)])) ?_ ?_
  · walk_at "rd"
    refine ite2 (fun hc => ?_) (fun hc => ?_)
    · have hc' : 0 < (ns.length : Int) := by simpa using hc
      have e1 : 0 ≤ (c + 1) % (ns.length : Int) := Int.emod_nonneg _ (by omega)
      have e2 : (c + 1) % (ns.length : Int) < (ns.length : Int) := Int.emod_lt_of_pos _ hc'
      obtain ⟨n, hn⟩ := atI_ints e1 e2
      walk_at "rd"
    · walk_at "rd"
  · rintro σ H1 ⟨n, rfl, c1, b1⟩
    have hS1 : Scr K H1 a ns := hS.ch hb c1
    refine cut_by (fun σ H' => ∃ u v w, σ = [some (.ref a), some (.ref b), some (.int n), u, v, w] ∧ Ch [b] H H' ∧ H' b = some (.lst [.int (c + 1)])) ?_ ?_
    · walk_at "rd"
      refine ite2 (fun hc => ?_) (fun hc => iteF ?_)
      · have hc' : 0 < (ns.length : Int) := by simpa using hc
        obtain ⟨n0, hn0⟩ := atI_ints (ns := ns) (i := 0) (by omega) hc'
        walk_at "rd"
        refine ite2 (fun hd => ?_) (fun hd => ?_)
        · walk_at "rd"
          refine loop_range (fun i σ H' => H' = H1 ∧ ∃ g kk, σ = [some (.ref a), some (.ref b), some (.int n), some (.int g), kk, none]) ⟨rfl, _, _, rfl⟩ ?_ ?_
          · rintro i σ H' hi ⟨rfl, g, kk, rfl⟩
            walk_at "rd"
          · rintro σ H' ⟨rfl, g, kk, rfl⟩
            walk_at "rd"
            refine ite2 (fun hd => iteT ?_) (fun hd => ?_)
            · walk_at "rd"
              exact q _ _ (Int.emod_nonneg _ (by decide)) (Int.lt_of_lt_of_le (Int.emod_lt_of_pos _ (by decide)) (by decide)) (c1.trans (Ch.new (by assumption) _)) (by walk_at "get")
            · walk_at "rd"
              refine ite2 (fun he => ?_) (fun he => ?_)
              · walk_at "rd"
                exact q _ _ (Int.emod_nonneg _ (by decide)) (Int.lt_of_lt_of_le (Int.emod_lt_of_pos _ (by decide)) (by decide)) (c1.trans (Ch.new (by assumption) _)) (by walk_at "get")
              · walk_at "rd"
        · walk_at "rd"
      · walk_at "rd"
    · rintro σ H2 ⟨u, v, w, rfl, c2, b2⟩
      walk_at "rd"
      exact q _ _ (Int.emod_nonneg _ (by decide)) (Int.emod_lt_of_pos _ (by decide)) c2 b2
end
end

section
def Eqv : Nat → Hp → V → V → Prop
  | 0, _, _, _ => False
  | n + 1, H, x, y => (∃ k : Key, x = kV k ∧ y = kV k) ∨ ∃ (p r : Addr) (xs ys : List V), x = .ref p ∧ y = .ref r ∧ H p = some (.tup xs) ∧ H r = some (.tup ys) ∧ Paired (Eqv n H) xs ys ∧ xs.length ≤ 300
theorem Eqv.ch {H H' : Hp} (c : Ch [] H H') : ∀ {n : Nat} {x y : V}, Eqv n H x y → Eqv n H' x y
  | 0, _, _, h => h
  | n + 1, x, y, h => by
    rcases h with h | ⟨p, r, xs, ys, e1, e2, g1, g2, pr, l⟩
    · exact .inl h
    · exact .inr ⟨p, r, xs, ys, e1, e2, c.get g1 (by simp), c.get g2 (by simp), paired_imp (fun _ _ => Eqv.ch c) pr, l⟩
inductive Dt
  | sc (k : Key)
  | seq (l : List Dt)
def DAt (tp : Bool) : Nat → Hp → Dt → V → Prop
  | 0, _, _, _ => False
  | n + 1, H, d, v => (∃ k : Key, d = .sc k ∧ v = kV k) ∨ ∃ (ds : List Dt) (p : Addr) (xs : List V) (kd : SK), d = .seq ds ∧ v = .ref p ∧ (tp = true → kd = .tuple) ∧ SqX kd H p xs ∧ Paired (DAt tp n H) ds xs ∧ xs.length ≤ 300
theorem DAt.ch {tp : Bool} {H H' : Hp} (c : Ch [] H H') : ∀ {n : Nat} {d : Dt} {v : V}, DAt tp n H d v → DAt tp n H' d v
  | 0, _, _, h => h
  | n + 1, d, v, h => by
    rcases h with h | ⟨ds, p, xs, kd, e1, e2, t, s, pr, l⟩
    · exact .inl h
    · exact .inr ⟨ds, p, xs, kd, e1, e2, t, s.ch c, paired_imp (fun _ _ => DAt.ch c) pr, l⟩
theorem paired_join {α β γ : Type} {R : α → β → Prop} {S : α → γ → Prop} {T : β → γ → Prop} (h : ∀ a b c, R a b → S a c → T b c) : ∀ {xs : List α} {ys : List β} {zs : List γ}, Paired R xs ys → Paired S xs zs → Paired T ys zs
  | _, _, _, .nil, .nil => .nil
  | _, _, _, .cons a t, .cons b u => .cons (h _ _ _ a b) (paired_join h t u)
theorem DAt.eqv {H : Hp} : ∀ {n : Nat} {d : Dt} {x y : V}, DAt true n H d x → DAt true n H d y → Eqv n H x y
  | 0, _, _, _, h, _ => h
  | n + 1, d, x, y, h, g => by
    rcases h with ⟨k, rfl, rfl⟩ | ⟨ds, p, xs, kd, rfl, rfl, t, s, pr, l⟩
    · rcases g with ⟨k', e, rfl⟩ | ⟨ds, p, xs, kd, e, _⟩
      · cases e; exact .inl ⟨_, rfl, rfl⟩
      · cases e
    · rcases g with ⟨k', e, rfl⟩ | ⟨ds', p', xs', kd', e, rfl, t', s', pr', l'⟩
      · cases e
      · cases e
        cases t rfl
        cases t' rfl
        exact .inr ⟨p, p', xs, xs', rfl, rfl, s, s', paired_join (fun a b c (x : DAt true n H a b) (y : DAt true n H a c) => DAt.eqv x y) pr pr', l⟩
section
variable {P : Program} {w : World} {K : PySem.W.Frag} {mg : Str → Option Value} {base : Heap} {f : Addr} {fd : FuncData} {k : Nat}
theorem gd__law_same : Nd "_law_same" := by decide +kernel
theorem v30_1 : Vs (defScope (top 30)) "_law_due" := by decide +kernel
theorem d30_1 : Nd "_law_due" := by decide +kernel
theorem c30_1 : Nc "_law_due" := by decide +kernel
theorem v30_0 : Vs (defScope (top 30)) "_law_found" := by decide +kernel
theorem d30_0 : Nd "_law_found" := by decide +kernel
theorem c30_0 : Nc "_law_found" := by decide +kernel
theorem g30_isinstance : Gi (defScope (top 30)) "isinstance" := by decide +kernel
theorem g30_dict : Gi (defScope (top 30)) "dict" := by decide +kernel
theorem g30_len : Gi (defScope (top 30)) "len" := by decide +kernel
theorem g30_all : Gi (defScope (top 30)) "all" := by decide +kernel
def csc30_0 : Scope := { kind := PySem.ScopeKind.function, names := [ (PySem.Str.ofString ".0", PySem.NameKind.local), (PySem.Str.ofString "_law_name", PySem.NameKind.local), (PySem.Str.ofString "_law_same", PySem.NameKind.globalImplicit), (PySem.Str.ofString "_law_due", PySem.NameKind.free), (PySem.Str.ofString "_law_found", PySem.NameKind.free)], isGenerator := false, isCoroutine := false, more := [] : PySem.Scope }
theorem cok30_0 : CompOk csc30_0 (defScope (top 30)) (["_law_name"] : List Str) (["_law_found", "_law_due"] : List Str) [0, 1] (["_law_name", "_law_found", "_law_due"] : List Str) := compOk rfl (by decide +kernel) (by decide +kernel) (by decide +kernel) (by decide +kernel) rfl (by decide +kernel)
theorem kq30_0_0 : (relab csc30_0 (defScope (top 30))).names.lookup (Str.ofString "_law_name") = some NameKind.local := by decide +kernel
theorem gq30_0__law_same : Gi (relab csc30_0 (defScope (top 30))) "_law_same" := by decide +kernel
theorem vq30_0_2 : Vs (relab csc30_0 (defScope (top 30))) "_law_due" := by decide +kernel
theorem dq30_0_2 : Nd "_law_due" := by decide +kernel
theorem cq30_0_2 : Nc "_law_due" := by decide +kernel
theorem vq30_0_0 : Vs (relab csc30_0 (defScope (top 30))) "_law_name" := by decide +kernel
theorem dq30_0_0 : Nd "_law_name" := by decide +kernel
theorem cq30_0_0 : Nc "_law_name" := by decide +kernel
theorem vq30_0_1 : Vs (relab csc30_0 (defScope (top 30))) "_law_found" := by decide +kernel
theorem dq30_0_1 : Nd "_law_found" := by decide +kernel
theorem cq30_0_1 : Nc "_law_found" := by decide +kernel
theorem g30_tuple : Gi (defScope (top 30)) "tuple" := by decide +kernel
theorem g30_list : Gi (defScope (top 30)) "list" := by decide +kernel
theorem g30_zip : Gi (defScope (top 30)) "zip" := by decide +kernel
def csc30_1 : Scope := { kind := PySem.ScopeKind.function, names := [ (PySem.Str.ofString ".0", PySem.NameKind.local), (PySem.Str.ofString "_law_one", PySem.NameKind.local), (PySem.Str.ofString "_law_other", PySem.NameKind.local), (PySem.Str.ofString "_law_same", PySem.NameKind.globalImplicit)], isGenerator := false, isCoroutine := false, more := [] : PySem.Scope }
theorem cok30_1 : CompOk csc30_1 (defScope (top 30)) (["_law_one", "_law_other"] : List Str) (["_law_found", "_law_due"] : List Str) [] (["_law_one", "_law_other"] : List Str) := compOk rfl (by decide +kernel) (by decide +kernel) (by decide +kernel) (by decide +kernel) rfl (by decide +kernel)
theorem kq30_1_1 : (relab csc30_1 (defScope (top 30))).names.lookup (Str.ofString "_law_other") = some NameKind.local := by decide +kernel
theorem kq30_1_0 : (relab csc30_1 (defScope (top 30))).names.lookup (Str.ofString "_law_one") = some NameKind.local := by decide +kernel
theorem gq30_1__law_same : Gi (relab csc30_1 (defScope (top 30))) "_law_same" := by decide +kernel
theorem vq30_1_1 : Vs (relab csc30_1 (defScope (top 30))) "_law_other" := by decide +kernel
theorem dq30_1_1 : Nd "_law_other" := by decide +kernel
theorem cq30_1_1 : Nc "_law_other" := by decide +kernel
theorem vq30_1_0 : Vs (relab csc30_1 (defScope (top 30))) "_law_one" := by decide +kernel
theorem dq30_1_0 : Nd "_law_one" := by decide +kernel
theorem cq30_1_0 : Nc "_law_one" := by decide +kernel
theorem g30_str : Gi (defScope (top 30)) "str" := by decide +kernel
theorem g30_bool : Gi (defScope (top 30)) "bool" := by decide +kernel
theorem g30_int : Gi (defScope (top 30)) "int" := by decide +kernel
structure EqvS (n : Nat) (H : Hp) (x y : V) : Prop where
  h : Eqv n H x y
def spSame (n : Nat) : Sp := fun vs H Q _ => ∃ (x y : V), vs = [x, y] ∧ EqvS n H x y ∧ ∀ H', Ch [] H H' → Q (.bl true) H'
theorem scSame : FnScope ["_law_found", "_law_due"] ["_law_found", "_law_due"] (defScope (top 30)) := ⟨rfl, rfl, rfl, by decide +kernel, rfl, by decide +kernel, by decide +kernel⟩
theorem ok_sameF (F : Fun K "_law_same" "_law_same" (top 30) f fd) : FnOk P w K mg base CX0 (k + 1) f fd ["_law_found", "_law_due"] (spSame 0) :=
  F.ok scSame (fun vs H Q E h => by obtain ⟨x, y, rfl, _⟩ := h; rfl) (fun cdv A outer s H vs Q E hr h => by obtain ⟨_, _, _, e, _⟩ := h; exact e.h.elim)
theorem ok_same (n : Nat) (F : Fun K "_law_same" "_law_same" (top 30) f fd) (D_law_same : DefOk P w K mg base CX0 k "_law_same" ["_law_found", "_law_due"] (spSame n)) (z_isinstance : mg "isinstance" = none) (z_dict : mg "dict" = none) (z_list : mg "list" = none) (z_tuple : mg "tuple" = none) (z_str : mg "str" = none) (z_int : mg "int" = none) (z_bool : mg "bool" = none) (z_len : mg "len" = none) (z_all : mg "all" = none) (z_zip : mg "zip" = none) :
    FnOk P w K mg base CX0 (k + 1) f fd ["_law_found", "_law_due"] (spSame (n + 1)) := by
  have nd := scSame.nd
  refine F.ok scSame (fun vs H Q E h => by obtain ⟨x, y, rfl, _⟩ := h; rfl) (fun cdv A outer s H vs Q E hr h => ?_)
  obtain ⟨x, y, rfl, ⟨e⟩, q⟩ := h
  rcases e with ⟨kk, rfl, rfl⟩ | ⟨p, r, xs, ys, rfl, rfl, g1, g2, pr, l⟩
  · refine ⟨_, (Pr.h (qpss_cons (qps_if (qpt_cmpR op_isN (qpe_var (i := 1) rfl v30_1 d30_1 c30_1) qpe_non (nomark _))
  (qpss_one (qps_ret (qpe_cmpR op_isN (qpe_var (i := 0) rfl v30_0 d30_0 c30_0) qpe_non (nomark _))))
  qpss_nil)
 (qpss_cons (qps_if (qpt_val (qpe_callB call_isT g30_isinstance z_isinstance bo_isinstance (qpa_cons (qpe_var (i := 1) rfl v30_1 d30_1 c30_1) (qpa_cons (qpe_bltn (v := .ty "dict") g30_dict z_dict bo_dict rfl nn_dict gd_dict) qpa_nil)) nn_isinstance gd_isinstance))
  (qpss_cons (qps_if (qPW_pt (qpw_or (qpt_not (qpt_val (qpe_callB call_isT g30_isinstance z_isinstance bo_isinstance (qpa_cons (qpe_var (i := 0) rfl v30_0 d30_0 c30_0) (qpa_cons (qpe_bltn (v := .ty "dict") g30_dict z_dict bo_dict rfl nn_dict gd_dict) qpa_nil)) nn_isinstance gd_isinstance))) (qpw_or1 (qpt_cmpR op_ne (qpe_callB call_len_seq g30_len z_len PySem.boot_len (qpa_cons (qpe_var (i := 0) rfl v30_0 d30_0 c30_0) qpa_nil se_Name) nn_len gd_len) (qpe_callB call_len_seq g30_len z_len PySem.boot_len (qpa_cons (qpe_var (i := 1) rfl v30_1 d30_1 c30_1) qpa_nil se_Name) nn_len gd_len) (nomark _)))))
  (qpss_one (qps_ret qpe_bl))
  qpss_nil)
 (qpss_one (qps_ret (qpe_callB (call_all rfl) g30_all z_all bo_all (qpa_cons (qpe_comp rfl cok30_0 (qpi_list (qpe_var (i := 1) rfl v30_1 d30_1 c30_1)) (fun _ _ _ _ _ => (qpg_name (i := 0) cok30_0.nd rfl (Or.inl kq30_0_0) (Or.inr kq30_0_0))) (fun _ _ _ _ _ => qpif_nil) (fun _ _ _ _ _ => (qpe_and (qpe_cmpR (opK_in_seq K rfl) (qpe_var (i := 0) rfl vq30_0_0 dq30_0_0 cq30_0_0) (qpe_var (i := 1) rfl vq30_0_1 dq30_0_1 cq30_0_1) rfl) (qpe_one (qpe_callD D_law_same hr gq30_0__law_same pass0 (qpa_cons (qpe_ix (ixaK_list K rfl) (qpe_var (i := 1) rfl vq30_0_1 dq30_0_1 cq30_0_1) (qpe_var (i := 0) rfl vq30_0_0 dq30_0_0 cq30_0_0) (fun _ _ => rfl)) (qpa_cons (qpe_ix (ixaK_list K rfl) (qpe_var (i := 2) rfl vq30_0_2 dq30_0_2 cq30_0_2) (qpe_var (i := 0) rfl vq30_0_0 dq30_0_0 cq30_0_0) (fun _ _ => rfl)) qpa_nil se_Subscript) se_Subscript) gd__law_same))))) qpa_nil se_ListComp) nn_all gd_all))))
  qpss_nil)
 (qpss_cons (qps_if (qPW_pt (qpw_or (qpt_val (qpe_callB call_isT g30_isinstance z_isinstance bo_isinstance (qpa_cons (qpe_var (i := 1) rfl v30_1 d30_1 c30_1) (qpa_cons (qpe_bltn (v := .ty "list") g30_list z_list bo_list rfl nn_list gd_list) qpa_nil)) nn_isinstance gd_isinstance)) (qpw_or1 (qpt_val (qpe_callB call_isT g30_isinstance z_isinstance bo_isinstance (qpa_cons (qpe_var (i := 1) rfl v30_1 d30_1 c30_1) (qpa_cons (qpe_bltn (v := .ty "tuple") g30_tuple z_tuple bo_tuple rfl nn_tuple gd_tuple) qpa_nil)) nn_isinstance gd_isinstance)))))
  (qpss_cons (qps_if (qpt_cmpR op_ne (qpe_callB call_isT g30_isinstance z_isinstance bo_isinstance (qpa_cons (qpe_var (i := 0) rfl v30_0 d30_0 c30_0) (qpa_cons (qpe_bltn (v := .ty "list") g30_list z_list bo_list rfl nn_list gd_list) qpa_nil)) nn_isinstance gd_isinstance) (qpe_callB call_isT g30_isinstance z_isinstance bo_isinstance (qpa_cons (qpe_var (i := 1) rfl v30_1 d30_1 c30_1) (qpa_cons (qpe_bltn (v := .ty "list") g30_list z_list bo_list rfl nn_list gd_list) qpa_nil)) nn_isinstance gd_isinstance) (nomark _))
  (qpss_one (qps_ret qpe_bl))
  qpss_nil)
 (qpss_cons (qps_if (qPW_pt (qpw_or (qpt_cmpR op_ne (qpe_callB call_isT g30_isinstance z_isinstance bo_isinstance (qpa_cons (qpe_var (i := 0) rfl v30_0 d30_0 c30_0) (qpa_cons (qpe_bltn (v := .ty "tuple") g30_tuple z_tuple bo_tuple rfl nn_tuple gd_tuple) qpa_nil)) nn_isinstance gd_isinstance) (qpe_callB call_isT g30_isinstance z_isinstance bo_isinstance (qpa_cons (qpe_var (i := 1) rfl v30_1 d30_1 c30_1) (qpa_cons (qpe_bltn (v := .ty "tuple") g30_tuple z_tuple bo_tuple rfl nn_tuple gd_tuple) qpa_nil)) nn_isinstance gd_isinstance) (nomark _)) (qpw_or1 (qpt_cmpR op_ne (qpe_callB call_len_seq g30_len z_len PySem.boot_len (qpa_cons (qpe_var (i := 0) rfl v30_0 d30_0 c30_0) qpa_nil se_Name) nn_len gd_len) (qpe_callB call_len_seq g30_len z_len PySem.boot_len (qpa_cons (qpe_var (i := 1) rfl v30_1 d30_1 c30_1) qpa_nil se_Name) nn_len gd_len) (nomark _)))))
  (qpss_one (qps_ret qpe_bl))
  qpss_nil)
 (qpss_one (qps_ret (qpe_callB (call_all rfl) g30_all z_all bo_all (qpa_cons (qpe_comp rfl cok30_1 (qpi_zip .list .list g30_zip z_zip (qpa_cons (qpe_var (i := 0) rfl v30_0 d30_0 c30_0) (qpa_cons (qpe_var (i := 1) rfl v30_1 d30_1 c30_1) qpa_nil se_Name) se_Name)) (fun _ _ _ _ _ => (qpg_tupK K 2 rfl rfl (qpgs_cons (qpg_name (i := 0) cok30_1.nd rfl (Or.inl kq30_1_0) (Or.inr kq30_1_0)) (qpgs_cons (qpg_name (i := 1) cok30_1.nd rfl (Or.inl kq30_1_1) (Or.inr kq30_1_1)) qpgs_nil)))) (fun _ _ _ _ _ => qpif_nil) (fun _ _ _ _ _ => (qpe_callD D_law_same hr gq30_1__law_same pass0 (qpa_cons (qpe_var (i := 0) rfl vq30_1_0 dq30_1_0 cq30_1_0) (qpa_cons (qpe_var (i := 1) rfl vq30_1_1 dq30_1_1 cq30_1_1) qpa_nil se_Name) se_Name) gd__law_same))) qpa_nil se_ListComp) nn_all gd_all)))))
  qpss_nil)
 (qpss_cons (qps_if (qpt_val (qpe_callB call_isT g30_isinstance z_isinstance bo_isinstance (qpa_cons (qpe_var (i := 1) rfl v30_1 d30_1 c30_1) (qpa_cons (qpe_bltn (v := .ty "str") g30_str z_str bo_str rfl nn_str gd_str) qpa_nil)) nn_isinstance gd_isinstance))
  (qpss_one (qps_ret (qpe_and (qpe_callB call_isT g30_isinstance z_isinstance bo_isinstance (qpa_cons (qpe_var (i := 0) rfl v30_0 d30_0 c30_0) (qpa_cons (qpe_bltn (v := .ty "str") g30_str z_str bo_str rfl nn_str gd_str) qpa_nil)) nn_isinstance gd_isinstance) (qpe_one (qpe_cmpR op_eq (qpe_var (i := 0) rfl v30_0 d30_0 c30_0) (qpe_var (i := 1) rfl v30_1 d30_1 c30_1) (nomark _))))))
  qpss_nil)
 (qpss_one (qps_ret (qpe_and (qpe_callB call_isT g30_isinstance z_isinstance bo_isinstance (qpa_cons (qpe_var (i := 0) rfl v30_0 d30_0 c30_0) (qpa_cons (qpe_bltn (v := .ty "int") g30_int z_int bo_int rfl nn_int gd_int) qpa_nil)) nn_isinstance gd_isinstance) (qpe_and (qpe_not (qpe_callB call_isT g30_isinstance z_isinstance bo_isinstance (qpa_cons (qpe_var (i := 0) rfl v30_0 d30_0 c30_0) (qpa_cons (qpe_bltn (v := .ty "bool") g30_bool z_bool bo_bool rfl nn_bool gd_bool) qpa_nil)) nn_isinstance gd_isinstance)) (qpe_one (qpe_cmpR op_eq (qpe_var (i := 0) rfl v30_0 d30_0 c30_0) (qpe_var (i := 1) rfl v30_1 d30_1 c30_1) (nomark _)))))))))))), ?_⟩
    (try dsimp only [cxOf])
    cases kk with
    | inl b =>
      dsimp only [kV]
      walk_at "rd"
      rw [decide_eq_true rfl]
      exact q _ (Ch.refl _ _)
    | inr b =>
      dsimp only [kV]
      walk_at "rd"
      rw [decide_eq_true rfl]
      exact q _ (Ch.refl _ _)
  · have el := Paired.length pr
    refine ⟨_, (Pr.h (qpss_cons (qps_if (qpt_cmpR op_isN (qpe_var (i := 1) rfl v30_1 d30_1 c30_1) qpe_non (nomark _))
  (qpss_one (qps_ret (qpe_cmpR op_isN (qpe_var (i := 0) rfl v30_0 d30_0 c30_0) qpe_non (nomark _))))
  qpss_nil)
 (qpss_cons (qps_if (qpt_val (qpe_callB call_isT g30_isinstance z_isinstance bo_isinstance (qpa_cons (qpe_var (i := 1) rfl v30_1 d30_1 c30_1) (qpa_cons (qpe_bltn (v := .ty "dict") g30_dict z_dict bo_dict rfl nn_dict gd_dict) qpa_nil)) nn_isinstance gd_isinstance))
  (qpss_cons (qps_if (qPW_pt (qpw_or (qpt_not (qpt_val (qpe_callB call_isT g30_isinstance z_isinstance bo_isinstance (qpa_cons (qpe_var (i := 0) rfl v30_0 d30_0 c30_0) (qpa_cons (qpe_bltn (v := .ty "dict") g30_dict z_dict bo_dict rfl nn_dict gd_dict) qpa_nil)) nn_isinstance gd_isinstance))) (qpw_or1 (qpt_cmpR op_ne (qpe_callB call_len_seq g30_len z_len PySem.boot_len (qpa_cons (qpe_var (i := 0) rfl v30_0 d30_0 c30_0) qpa_nil se_Name) nn_len gd_len) (qpe_callB call_len_seq g30_len z_len PySem.boot_len (qpa_cons (qpe_var (i := 1) rfl v30_1 d30_1 c30_1) qpa_nil se_Name) nn_len gd_len) (nomark _)))))
  (qpss_one (qps_ret qpe_bl))
  qpss_nil)
 (qpss_one (qps_ret (qpe_callB (call_all rfl) g30_all z_all bo_all (qpa_cons (qpe_comp rfl cok30_0 (qpi_tup (qpe_var (i := 1) rfl v30_1 d30_1 c30_1)) (fun _ _ _ _ _ => (qpg_name (i := 0) cok30_0.nd rfl (Or.inl kq30_0_0) (Or.inr kq30_0_0))) (fun _ _ _ _ _ => qpif_nil) (fun _ _ _ _ _ => (qpe_and (qpe_cmpR (opK_in_seq K rfl) (qpe_var (i := 0) rfl vq30_0_0 dq30_0_0 cq30_0_0) (qpe_var (i := 1) rfl vq30_0_1 dq30_0_1 cq30_0_1) rfl) (qpe_one (qpe_callD D_law_same hr gq30_0__law_same pass0 (qpa_cons (qpe_ix (ixaK_tup K rfl) (qpe_var (i := 1) rfl vq30_0_1 dq30_0_1 cq30_0_1) (qpe_var (i := 0) rfl vq30_0_0 dq30_0_0 cq30_0_0) (fun _ _ => rfl)) (qpa_cons (qpe_ix (ixaK_tup K rfl) (qpe_var (i := 2) rfl vq30_0_2 dq30_0_2 cq30_0_2) (qpe_var (i := 0) rfl vq30_0_0 dq30_0_0 cq30_0_0) (fun _ _ => rfl)) qpa_nil se_Subscript) se_Subscript) gd__law_same))))) qpa_nil se_ListComp) nn_all gd_all))))
  qpss_nil)
 (qpss_cons (qps_if (qPW_pt (qpw_or (qpt_val (qpe_callB call_isT g30_isinstance z_isinstance bo_isinstance (qpa_cons (qpe_var (i := 1) rfl v30_1 d30_1 c30_1) (qpa_cons (qpe_bltn (v := .ty "list") g30_list z_list bo_list rfl nn_list gd_list) qpa_nil)) nn_isinstance gd_isinstance)) (qpw_or1 (qpt_val (qpe_callB call_isT g30_isinstance z_isinstance bo_isinstance (qpa_cons (qpe_var (i := 1) rfl v30_1 d30_1 c30_1) (qpa_cons (qpe_bltn (v := .ty "tuple") g30_tuple z_tuple bo_tuple rfl nn_tuple gd_tuple) qpa_nil)) nn_isinstance gd_isinstance)))))
  (qpss_cons (qps_if (qpt_cmpR op_ne (qpe_callB call_isT g30_isinstance z_isinstance bo_isinstance (qpa_cons (qpe_var (i := 0) rfl v30_0 d30_0 c30_0) (qpa_cons (qpe_bltn (v := .ty "list") g30_list z_list bo_list rfl nn_list gd_list) qpa_nil)) nn_isinstance gd_isinstance) (qpe_callB call_isT g30_isinstance z_isinstance bo_isinstance (qpa_cons (qpe_var (i := 1) rfl v30_1 d30_1 c30_1) (qpa_cons (qpe_bltn (v := .ty "list") g30_list z_list bo_list rfl nn_list gd_list) qpa_nil)) nn_isinstance gd_isinstance) (nomark _))
  (qpss_one (qps_ret qpe_bl))
  qpss_nil)
 (qpss_cons (qps_if (qPW_pt (qpw_or (qpt_cmpR op_ne (qpe_callB call_isT g30_isinstance z_isinstance bo_isinstance (qpa_cons (qpe_var (i := 0) rfl v30_0 d30_0 c30_0) (qpa_cons (qpe_bltn (v := .ty "tuple") g30_tuple z_tuple bo_tuple rfl nn_tuple gd_tuple) qpa_nil)) nn_isinstance gd_isinstance) (qpe_callB call_isT g30_isinstance z_isinstance bo_isinstance (qpa_cons (qpe_var (i := 1) rfl v30_1 d30_1 c30_1) (qpa_cons (qpe_bltn (v := .ty "tuple") g30_tuple z_tuple bo_tuple rfl nn_tuple gd_tuple) qpa_nil)) nn_isinstance gd_isinstance) (nomark _)) (qpw_or1 (qpt_cmpR op_ne (qpe_callB call_len_seq g30_len z_len PySem.boot_len (qpa_cons (qpe_var (i := 0) rfl v30_0 d30_0 c30_0) qpa_nil se_Name) nn_len gd_len) (qpe_callB call_len_seq g30_len z_len PySem.boot_len (qpa_cons (qpe_var (i := 1) rfl v30_1 d30_1 c30_1) qpa_nil se_Name) nn_len gd_len) (nomark _)))))
  (qpss_one (qps_ret qpe_bl))
  qpss_nil)
 (qpss_one (qps_ret (qpe_callB (call_all rfl) g30_all z_all bo_all (qpa_cons (qpe_comp rfl cok30_1 (qpi_zip .tuple .tuple g30_zip z_zip (qpa_cons (qpe_var (i := 0) rfl v30_0 d30_0 c30_0) (qpa_cons (qpe_var (i := 1) rfl v30_1 d30_1 c30_1) qpa_nil se_Name) se_Name)) (fun _ _ _ _ _ => (qpg_tupK K 2 rfl rfl (qpgs_cons (qpg_name (i := 0) cok30_1.nd rfl (Or.inl kq30_1_0) (Or.inr kq30_1_0)) (qpgs_cons (qpg_name (i := 1) cok30_1.nd rfl (Or.inl kq30_1_1) (Or.inr kq30_1_1)) qpgs_nil)))) (fun _ _ _ _ _ => qpif_nil) (fun _ _ _ _ _ => (qpe_callD D_law_same hr gq30_1__law_same pass0 (qpa_cons (qpe_var (i := 0) rfl vq30_1_0 dq30_1_0 cq30_1_0) (qpa_cons (qpe_var (i := 1) rfl vq30_1_1 dq30_1_1 cq30_1_1) qpa_nil se_Name) se_Name) gd__law_same))) qpa_nil se_ListComp) nn_all gd_all)))))
  qpss_nil)
 (qpss_cons (qps_if (qpt_val (qpe_callB call_isT g30_isinstance z_isinstance bo_isinstance (qpa_cons (qpe_var (i := 1) rfl v30_1 d30_1 c30_1) (qpa_cons (qpe_bltn (v := .ty "str") g30_str z_str bo_str rfl nn_str gd_str) qpa_nil)) nn_isinstance gd_isinstance))
  (qpss_one (qps_ret (qpe_and (qpe_callB call_isT g30_isinstance z_isinstance bo_isinstance (qpa_cons (qpe_var (i := 0) rfl v30_0 d30_0 c30_0) (qpa_cons (qpe_bltn (v := .ty "str") g30_str z_str bo_str rfl nn_str gd_str) qpa_nil)) nn_isinstance gd_isinstance) (qpe_one (qpe_cmpR (op_eqT hr.units) (qpe_var (i := 0) rfl v30_0 d30_0 c30_0) (qpe_var (i := 1) rfl v30_1 d30_1 c30_1) (nomark _))))))
  qpss_nil)
 (qpss_one (qps_ret (qpe_and (qpe_callB call_isT g30_isinstance z_isinstance bo_isinstance (qpa_cons (qpe_var (i := 0) rfl v30_0 d30_0 c30_0) (qpa_cons (qpe_bltn (v := .ty "int") g30_int z_int bo_int rfl nn_int gd_int) qpa_nil)) nn_isinstance gd_isinstance) (qpe_and (qpe_not (qpe_callB call_isT g30_isinstance z_isinstance bo_isinstance (qpa_cons (qpe_var (i := 0) rfl v30_0 d30_0 c30_0) (qpa_cons (qpe_bltn (v := .ty "bool") g30_bool z_bool bo_bool rfl nn_bool gd_bool) qpa_nil)) nn_isinstance gd_isinstance)) (qpe_one (qpe_cmpR (op_eqT hr.units) (qpe_var (i := 0) rfl v30_0 d30_0 c30_0) (qpe_var (i := 1) rfl v30_1 d30_1 c30_1) (nomark _)))))))))))), ?_⟩
    (try dsimp only [cxOf])
    walk_at "rd"
    refine iteNn (by rw [el]) ?_
    walk_at "rd"
    refine comp_zip xs ys (fun j zs σ H' => Ch [] H H' ∧ zs = List.replicate j (V.bl true) ∧ ∃ u v, σ = [u, v]) (by rw [sizeLine_eq]; omega) el ⟨Ch.refl _ _, rfl, _, _, rfl⟩ ?_ ?_ ?_
    · rintro j zs σ H' hj ⟨c, rfl, _⟩
      exact ⟨by simp, SqT.of (c.get g1 (by simp)), SqT.of (c.get g2 (by simp))⟩
    · rintro j zs σ H' x z T hx hz ⟨c, rfl, u, v, rfl⟩ hT
      obtain ⟨j1, rfl⟩ := List.getElem?_eq_some_iff.mp hx
      obtain ⟨j2, rfl⟩ := List.getElem?_eq_some_iff.mp hz
      have ee : EqvS n (upd H' T (.tup [xs[j], ys[j]])) xs[j] ys[j] := ⟨Eqv.ch (c.trans (Ch.new hT _)) (paired_at pr j j1 j2)⟩
      walk_at "rd"
      exact ⟨by rw [← List.replicate_succ'], _, _, rfl⟩
    · rintro zs σ H' ⟨c, rfl, _⟩
      intro D hD
      refine ⟨D, List.replicate xs.length true, rfl, by rw [upd_same, List.map_replicate], ?_⟩
      rw [show (List.replicate xs.length true).all id = true from by simp [List.all_replicate]]
      exact q _ (c.trans (Ch.new hD _))
end
end

section
theorem tb_bi (z : Int) : V.int (z % 2) = bV (decide (z % 2 = 1)) := by
  have : z % 2 = 0 ∨ z % 2 = 1 := by omega
  rcases this with h | h <;> rw [h] <;> rfl
theorem free_b {H H2 : Hp} {b p : Addr} {o : HO} (c : Ch [b] H H2) (hb : H2 b = some o) (h : H2 p = none) : H p = none := by
  cases e : H p with
  | none => rfl
  | some o' =>
    by_cases z : p = b
    · rw [z, hb] at h; cases h
    · rw [c.get e (by simpa using z)] at h; cases h
structure DQ (K : PySem.W.Frag) (H H' : Hp) (a b : Addr) (ns : List Int) (c : Int) : Prop where
  ch : Ch [b] H H'
  hS : Scr K H' a ns
  hb : H' b = some (.lst [.int c])
section
variable {K : PySem.W.Frag} {H H' H'' : Hp} {a b q : Addr} {ns : List Int} {c c' : Int}
theorem DQ.next (d : DQ K H H' a b ns c) (e : Ch [b] H' H'') (h : H'' b = some (.lst [.int c'])) : DQ K H H'' a b ns c' := ⟨d.ch.trans e, d.hS.ch d.hb e, h⟩
theorem DQ.new (d : DQ K H H' a b ns c) (e : Ch [] H' H'') : DQ K H H'' a b ns c := ⟨d.ch.trans e.wk, d.hS.same e, e.get d.hb (by simp)⟩
theorem DQ.own {xs zs : List V} (d : DQ K H H' a b ns c) (h0 : H q = none) (hq : H' q = some (.lst xs)) (nb : b ≠ q) : DQ K H (upd H' q (.lst zs)) a b ns c := ⟨Ch.own h0 d.ch, d.hS.ch hq Ch.put, g_put nb d.hb⟩
theorem DQ.free (d : DQ K H H' a b ns c) (h : H' q = none) : H q = none := free_b d.ch d.hb h
theorem DQ.nb (d : DQ K H H' a b ns c) (h : H' q = none) : b ≠ q := ne_of_none d.hb h
theorem DQ.trans (d : DQ K H H' a b ns c) (e : DQ K H' H'' a b ns c') : DQ K H H'' a b ns c' := ⟨d.ch.trans e.ch, e.hS, e.hb⟩
end
structure CI (c c' : Int) (j : Int) : Prop where
  lo : c' ≤ c
  hi : c ≤ c' + j
section
variable {P : Program} {w : World} {K : PySem.W.Frag} {mg : Str → Option Value} {base : Heap} {f : Addr} {fd : FuncData} {k : Nat}
theorem gd__law_next : Nd "_law_next" := by decide +kernel
theorem l29_3 : Lc (defScope (top 29)) "_law_m" := by decide +kernel
theorem g29__law_next : Gi (defScope (top 29)) "_law_next" := by decide +kernel
theorem v29_1 : Vs (defScope (top 29)) "_law_at" := by decide +kernel
theorem d29_1 : Nd "_law_at" := by decide +kernel
theorem c29_1 : Nc "_law_at" := by decide +kernel
theorem v29_0 : Vs (defScope (top 29)) "_law_script" := by decide +kernel
theorem d29_0 : Nd "_law_script" := by decide +kernel
theorem c29_0 : Nc "_law_script" := by decide +kernel
theorem l29_4 : Lc (defScope (top 29)) "_law_bits" := by decide +kernel
theorem g29_range : Gi (defScope (top 29)) "range" := by decide +kernel
theorem v29_2 : Vs (defScope (top 29)) "_law_many" := by decide +kernel
theorem d29_2 : Nd "_law_many" := by decide +kernel
theorem c29_2 : Nc "_law_many" := by decide +kernel
theorem l29_5 : Lc (defScope (top 29)) "_law_k" := by decide +kernel
theorem v29_5 : Vs (defScope (top 29)) "_law_k" := by decide +kernel
theorem d29_5 : Nd "_law_k" := by decide +kernel
theorem c29_5 : Nc "_law_k" := by decide +kernel
theorem v29_4 : Vs (defScope (top 29)) "_law_bits" := by decide +kernel
theorem d29_4 : Nd "_law_bits" := by decide +kernel
theorem c29_4 : Nc "_law_bits" := by decide +kernel
theorem v29_3 : Vs (defScope (top 29)) "_law_m" := by decide +kernel
theorem d29_3 : Nd "_law_m" := by decide +kernel
theorem c29_3 : Nc "_law_m" := by decide +kernel
structure SB (K : PySem.W.Frag) (H H' : Hp) (a b : Addr) (ns : List Int) (c : Int) (l : Addr) (bs : List Bool) : Prop where
  d : ∃ c', DQ K H H' a b ns c' ∧ c ≤ c' ∧ c' ≤ c + 100
  f : H l = none
  g : H' l = some (.lst (bs.map bV))
def spBits (K : PySem.W.Frag) : Sp := fun vs H Q _ => ∃ (a b : Addr) (ns : List Int) (c : Int) (many : Nat), vs = [.ref a, .ref b, .int (many : Int)] ∧ Scr K H a ns ∧ H b = some (.lst [.int c]) ∧ 0 ≤ c ∧ c < 2 ^ 55 ∧ many ≤ 60 ∧ ∀ (l : Addr) (bs : List Bool) (H' : Hp), SB K H H' a b ns c l bs → bs.length = many → Q (.ref l) H'
theorem scBits : FnScope ["_law_script", "_law_at", "_law_many", "_law_m", "_law_bits", "_law_k"] ["_law_script", "_law_at", "_law_many"] (defScope (top 29)) := ⟨rfl, rfl, rfl, by decide +kernel, rfl, by decide +kernel, by decide +kernel⟩
theorem ok_bits (F : Fun K "_law_some_bits" "_law_some_bits" (top 29) f fd) (D_law_next : DefOk P w K mg base CX0 k "_law_next" ["_law_script", "_law_at"] (spNext K)) (z_range : mg "range" = none) : FnOk P w K mg base CX0 (k + 1) f fd ["_law_script", "_law_at", "_law_many"] (spBits K) := by
  have nd := scBits.nd
  refine F.ok scBits (fun vs H Q E h => by obtain ⟨a, b, ns, c, many, rfl, _⟩ := h; rfl) (fun cdv A outer s H vs Q E hr h => ?_)
  obtain ⟨a, b, ns, c, many, rfl, hS, hb, h0, h1, hm, q⟩ := h
  refine ⟨_, (Pr.h (qpss_cons (qps_set (i := 3) nd rfl l29_3 (qpe_callD D_law_next hr g29__law_next pass0 (qpa_cons (qpe_var (i := 0) rfl v29_0 d29_0 c29_0) (qpa_cons (qpe_var (i := 1) rfl v29_1 d29_1 c29_1) qpa_nil se_Name) se_Name) gd__law_next))
 (qpss_cons (qps_set (i := 4) nd rfl l29_4 (qpe_lst qpa_nil))
 (qpss_cons (qps_loop PassesOwn.never rfl (qpi_range1 g29_range z_range (qpa_cons (qpe_var (i := 2) rfl v29_2 d29_2 c29_2) qpa_nil se_Name)) (qpg_name (i := 5) nd rfl l29_5)
  (qpss_cut (qps_if (qpt_cmpR op_eq (qpe_op op_mod (qpe_var (i := 5) rfl v29_5 d29_5 c29_5) qpe_int) qpe_int (nomark _))
  (qpss_one (qps_set (i := 3) nd rfl l29_3 (qpe_callD D_law_next hr g29__law_next pass0 (qpa_cons (qpe_var (i := 0) rfl v29_0 d29_0 c29_0) (qpa_cons (qpe_var (i := 1) rfl v29_1 d29_1 c29_1) qpa_nil se_Name) se_Name) gd__law_next)))
  qpss_nil)
 (qpss_cons (qps_expr (qpe_bm PySem.F.plainAttrs_list PySem.F.slot_list_append PySem.F.type_list_append mt_append (qpe_var (i := 4) rfl v29_4 d29_4 c29_4) (qpa_cons (qpe_op op_mod (qpe_var (i := 3) rfl v29_3 d29_3 c29_3) qpe_int) qpa_nil se_BinOp)))
 (qpss_one (qps_set (i := 3) nd rfl l29_3 (qpe_op op_fdivW (qpe_var (i := 3) rfl v29_3 d29_3 c29_3) qpe_int))))))
 (qpss_one (qps_ret (qpe_var (i := 4) rfl v29_4 d29_4 c29_4))))))), ?_⟩
  (try dsimp only [cxOf])
  walk_at "rd"
  rename_i m H1 m0 m1 c1 b1 l hl
  have nbl : b ≠ l := ne_of_none b1 hl
  have d1 : DQ K H H1 a b ns (c + 1) := ⟨c1, hS.ch hb c1, b1⟩
  have fl : H l = none := d1.free hl
  refine loop_range (fun i σ H' => ∃ (m' c' : Int) (bs : List Bool) (u : Option V), σ = [some (.ref a), some (.ref b), some (.int (many : Int)), some (.int m'), some (.ref l), u] ∧ 0 ≤ m' ∧ DQ K H H' a b ns c' ∧ H' l = some (.lst (bs.map bV)) ∧ bs.length = i ∧ CI c' (c + 1) (i : Nat)) ⟨m, c + 1, [], _, rfl, m0, d1.new (Ch.new hl _), upd_same, rfl, by omega, by simp⟩ ?_ ?_
  · rintro i σ H' hi ⟨m', c', bs, u, rfl, m0', d, g, lb, ci⟩
    have hi : i < many := by simpa using hi
    have ci1 := ci.lo
    have ci2 := ci.hi
    have hS' := d.hS
    have hb' := d.hb
    walk_at "rd"
    refine cut_by (fun σ H2 => ∃ (m' c' : Int), σ = [some (.ref a), some (.ref b), some (.int (many : Int)), some (.int m'), some (.ref l), some (.int (0 + (i : Int)))] ∧ 0 ≤ m' ∧ DQ K H H2 a b ns c' ∧ H2 l = some (.lst (bs.map bV)) ∧ CI c' (c + 1) (i + 1 : Nat)) ?_ ?_
    · walk_at "rd"
      refine ite2 (fun hc => ?_) (fun hc => ?_)
      · have e29 : (0 + (i : Int)) % 30 = 29 := by simpa using hc
        walk_at "rd"
        rename_i m2 H2 n0 n1 c2 b2
        exact ⟨d.next c2 b2, c2.get g (by simpa using nbl.symm), by omega, by omega⟩
      · walk_at "rd"
        exact ⟨by omega, by omega⟩
    · rintro σ H2 ⟨m2, c2, rfl, m20, d2, g2, ci'⟩
      have lb2 : (bs.map bV).length ≤ 60 := by rw [List.length_map]; omega
      walk_at "rd"
      refine ⟨d2.own fl g2 nbl, (show _ = some (HO.lst ((bs ++ [decide (m2 % 2 = 1)]).map bV)) from by rw [upd_same, List.map_append, List.map_singleton, ← tb_bi]), by simp [lb], ci'⟩
  · rintro σ H' ⟨m', c', bs, u, rfl, m0', d, g, lb, ci⟩
    have lb : bs.length = many := by simpa using lb
    have ci1 := ci.lo
    have ci2 := ci.hi
    walk_at "rd"
    exact q l bs _ ⟨⟨c', d, by omega, by omega⟩, fl, g⟩ lb
end
end

section
structure Box (Pd : Prop) : Prop where
  h : Pd
theorem Box.share {G : Prop} (h : ∃ T : Prop, (Box T → G) ∧ T) : G := let ⟨_, a, b⟩ := h; a ⟨b⟩
structure Kl (ex : List Addr) (H H' : Hp) : Prop where
  t : Tu H H'
  l : ∀ p xs, p ∉ ex → H p = some (.lst xs) → H' p = some (.lst xs)
theorem Kl.new {ex : List Addr} {H H' : Hp} (c : Ch [] H H') : Kl ex H H' := ⟨Tu.same c, fun p xs _ h => c.get h (by simp)⟩
theorem Kl.one {ex : List Addr} {H H' : Hp} {b : Addr} {zs : List V} (c : Ch [b] H H') (hb : H b = some (.lst zs)) (m : b ∈ ex) : Kl ex H H' := ⟨Tu.lst c hb, fun p xs n h => c.get h (fun z => n (by rw [List.mem_singleton.mp z]; exact m))⟩
theorem Kl.trans {ex : List Addr} {H H1 H2 : Hp} (a : Kl ex H H1) (b : Kl ex H1 H2) : Kl ex H H2 := ⟨a.t.trans b.t, fun p xs n h => b.l p xs n (a.l p xs n h)⟩
theorem DQ.kl {K : PySem.W.Frag} {H H' : Hp} {a b : Addr} {ns : List Int} {c c' : Int} {ex : List Addr} (d : DQ K H H' a b ns c) (h : H b = some (.lst [.int c'])) (m : b ∈ ex) : Kl ex H H' := Kl.one d.ch h m
theorem idx_of {row : List Nat} {n : Nat} (h : n ∈ row) : row.idxOf? n = some (row.idxOf n) := by
  induction row with
  | nil => cases h
  | cons a row ih =>
    rw [List.idxOf?_cons, List.idxOf_cons]
    by_cases e : a = n
    · subst e; simp
    · have ne : (a == n) = false := by simpa using e
      rcases List.mem_cons.mp h with z | z
      · exact absurd z.symm e
      · rw [ne, ih z]; rfl
def BkL (ex : List Addr) (H : Hp) (t : Bk) (p : Addr) : Prop := ∃ (lp : Addr) (ps : List Addr), lp ∉ ex ∧ H p = some (.tup [.ref lp, .int t.bits, .int t.kept, .int t.first]) ∧ H lp = some (.lst (ps.map V.ref)) ∧ Paired (PgAt H) (t.ss.map sg) ps
theorem BkL.kl {ex : List Addr} {H H' : Hp} (k : Kl ex H H') {t : Bk} {p : Addr} (s : BkL ex H t p) : BkL ex H' t p := let ⟨lp, ps, n, a, b, w⟩ := s; ⟨lp, ps, n, k.t _ _ a, k.l _ _ n b, paired_imp (fun _ _ e => PgAt.tu k.t e) w⟩
theorem BkL.weak {b t : Addr} {H : Hp} {x : Bk} {p : Addr} (s : BkL [b, t] H x p) : BkL [b] H x p := let ⟨lp, ps, n, a, b, w⟩ := s; ⟨lp, ps, by simp only [List.mem_cons, List.not_mem_nil, or_false, not_or] at n ⊢; exact n.1, a, b, w⟩
theorem BkL.at_ {ex : List Addr} {H : Hp} {x : Bk} {p : Addr} (s : BkL ex H x p) : BkAt .list H x p := let ⟨lp, ps, _, a, b, w⟩ := s; ⟨lp, ps, a, b, w⟩
theorem pg_sg {H : Hp} {x : Src} {p : Addr} (h : H p = some (.tup (sg x))) : PgAt H (sg x) p := ⟨h, .inr ⟨_, _, rfl⟩⟩
structure Fr (row : List Nat) (kinds : List Bool) (n : Nat) (s : Src) : Prop where
  h : kinds[n]? = some false → s.1 = true → kinds[s.2]? = some true ∨ row.idxOf s.2 < row.idxOf n
structure BL (K : PySem.W.Frag) (H H' : Hp) (a b : Addr) (ns : List Int) (bl : Addr) (ins many : Nat) (row : List Nat) (kinds : List Bool) (bs : List Bk) (c : Int) : Prop where
  d : DQ K H H' a b ns c
  tb : ∃ ps, H' bl = some (.lst (ps.map V.ref)) ∧ Paired (BkL [b, bl] H') bs ps
  ok : ∀ x ∈ bs, x.ok ins many
  fr : ∀ (n : Nat) (x : Bk), bs[n]? = some x → (∃ kb, kinds[n]? = some kb ∧ x.kept = bi kb) ∧ ∀ s ∈ x.ss, Fr row kinds n s
structure LL (K : PySem.W.Frag) (H H' : Hp) (a b : Addr) (ns : List Int) (lp : Addr) (ins many n : Nat) (row : List Nat) (kinds : List Bool) (ss : List Src) (c : Int) : Prop where
  d : DQ K H H' a b ns c
  ex : ∃ qs, H' lp = some (.lst (qs.map V.ref)) ∧ Paired (PgAt H') (ss.map sg) qs
  lo : ∀ s ∈ ss, s.2 < lim ins many s.1 ∧ Fr row kinds n s
def OpAt (H : Hp) (o : Option Src) (v : V) : Prop := match o with
  | none => v = .non
  | some x => ∃ p, v = .ref p ∧ H p = some (.tup (sg x))
theorem OpAt.tu {H H' : Hp} (t : Tu H H') {o : Option Src} {v : V} (s : OpAt H o v) : OpAt H' o v := by
  cases o with
  | none => exact s
  | some x => obtain ⟨p, e, h⟩ := s; exact ⟨p, e, t _ _ h⟩
structure OL (K : PySem.W.Frag) (H H' : Hp) (a b : Addr) (ns : List Int) (ins many : Nat) (os : List (Option Src)) (ys : List V) (c : Int) : Prop where
  d : DQ K H H' a b ns c
  ex : Paired (OpAt H') os ys
  lo : ∀ x, some x ∈ os → x.2 < lim ins many x.1
theorem opget {H : Hp} : ∀ {os : List (Option Src)} {ys : List V}, Paired (OpAt H) os ys → ∀ (i : Nat) (v : V), ys[i]? = some v → ∃ o, os[i]? = some o ∧ OpAt H o v
  | _, _, .nil, i, x, h => by simp at h
  | k :: ws, p :: ps, .cons a t, 0, x, h => ⟨k, rfl, by cases h; exact a⟩
  | k :: ws, p :: ps, .cons a t, i + 1, x, h => by
    obtain ⟨o, e1, e2⟩ := opget t i x (by simpa using h)
    exact ⟨o, by simpa using e1, e2⟩
theorem room_at {n : Nat} (h : n ≤ 4) : atI [V.int 2, V.int 4, V.int 16, V.int 256, V.int 65536] (n : Int) = some (.int (room n)) := by
  have e5 : n = 0 ∨ n = 1 ∨ n = 2 ∨ n = 3 ∨ n = 4 := by omega
  rcases e5 with rfl | rfl | rfl | rfl | rfl <;> rfl
theorem room_pos {n : Nat} (h : n ≤ 4) : 0 < room n ∧ room n ≤ 65536 := by
  have e5 : n = 0 ∨ n = 1 ∨ n = 2 ∨ n = 3 ∨ n = 4 := by omega
  rcases e5 with rfl | rfl | rfl | rfl | rfl <;> decide
section
variable {P : Program} {w : World} {K : PySem.W.Frag} {mg : Str → Option Value} {base : Heap} {f : Addr} {fd : FuncData} {k : Nat}
theorem gd__law_some_bits : Nd "_law_some_bits" := by decide +kernel
theorem gd__law_drawn_source : Nd "_law_drawn_source" := by decide +kernel
theorem l31_4 : Lc (defScope (top 31)) "_law_m" := by decide +kernel
theorem g31__law_next : Gi (defScope (top 31)) "_law_next" := by decide +kernel
theorem v31_1 : Vs (defScope (top 31)) "_law_at" := by decide +kernel
theorem d31_1 : Nd "_law_at" := by decide +kernel
theorem c31_1 : Nc "_law_at" := by decide +kernel
theorem v31_0 : Vs (defScope (top 31)) "_law_script" := by decide +kernel
theorem d31_0 : Nd "_law_script" := by decide +kernel
theorem c31_0 : Nc "_law_script" := by decide +kernel
theorem v31_2 : Vs (defScope (top 31)) "_law_ins" := by decide +kernel
theorem d31_2 : Nd "_law_ins" := by decide +kernel
theorem c31_2 : Nc "_law_ins" := by decide +kernel
theorem v31_3 : Vs (defScope (top 31)) "_law_blocks" := by decide +kernel
theorem d31_3 : Nd "_law_blocks" := by decide +kernel
theorem c31_3 : Nc "_law_blocks" := by decide +kernel
theorem l31_5 : Lc (defScope (top 31)) "_law_k" := by decide +kernel
theorem v31_4 : Vs (defScope (top 31)) "_law_m" := by decide +kernel
theorem d31_4 : Nd "_law_m" := by decide +kernel
theorem c31_4 : Nc "_law_m" := by decide +kernel
theorem v31_5 : Vs (defScope (top 31)) "_law_k" := by decide +kernel
theorem d31_5 : Nd "_law_k" := by decide +kernel
theorem c31_5 : Nc "_law_k" := by decide +kernel
def spSrc (K : PySem.W.Frag) : Sp := fun vs H Q _ => ∃ (a b : Addr) (ns : List Int) (c : Int) (ins many : Nat), vs = [.ref a, .ref b, .int (ins : Int), .int (many : Int)] ∧ Scr K H a ns ∧ H b = some (.lst [.int c]) ∧ 0 ≤ c ∧ c < 2 ^ 60 ∧
  (ins + many = 0 → ∀ H', Ch [b] H H' → H' b = some (.lst [.int (c + 1)]) → Q .non H') ∧ ∀ (p : Addr) (x : Src) (H' : Hp), Ch [b] H H' → H' b = some (.lst [.int (c + 1)]) → x.2 < lim ins many x.1 → H' p = some (.tup (sg x)) → Q (.ref p) H'
theorem scSrc : FnScope ["_law_script", "_law_at", "_law_ins", "_law_blocks", "_law_m", "_law_k"] ["_law_script", "_law_at", "_law_ins", "_law_blocks"] (defScope (top 31)) := ⟨rfl, rfl, rfl, by decide +kernel, rfl, by decide +kernel, by decide +kernel⟩
theorem ok_src (F : Fun K "_law_drawn_source" "_law_drawn_source" (top 31) f fd) (D_law_next : DefOk P w K mg base CX0 k "_law_next" ["_law_script", "_law_at"] (spNext K)) : FnOk P w K mg base CX0 (k + 1) f fd ["_law_script", "_law_at", "_law_ins", "_law_blocks"] (spSrc K) := by
  have nd := scSrc.nd
  refine F.ok scSrc (fun vs H Q E h => by obtain ⟨a, b, ns, c, ins, many, rfl, _⟩ := h; rfl) (fun cdv A outer s H vs Q E hr h => ?_)
  obtain ⟨a, b, ns, c, ins, many, rfl, hS, hb, h0, h1, q1, q2⟩ := h
  refine ⟨_, (Pr.h (qpss_cons (qps_set (i := 4) nd rfl l31_4 (qpe_callD D_law_next hr g31__law_next pass0 (qpa_cons (qpe_var (i := 0) rfl v31_0 d31_0 c31_0) (qpa_cons (qpe_var (i := 1) rfl v31_1 d31_1 c31_1) qpa_nil se_Name) se_Name) gd__law_next))
 (qpss_cons (qps_if (qpt_cmpR op_eq (qpe_op op_add (qpe_var (i := 2) rfl v31_2 d31_2 c31_2) (qpe_var (i := 3) rfl v31_3 d31_3 c31_3)) qpe_int (nomark _))
  (qpss_one (qps_ret qpe_non))
  qpss_nil)
 (qpss_cons (qps_set (i := 5) nd rfl l31_5 (qpe_op op_mod (qpe_var (i := 4) rfl v31_4 d31_4 c31_4) (qpe_op op_add (qpe_var (i := 2) rfl v31_2 d31_2 c31_2) (qpe_var (i := 3) rfl v31_3 d31_3 c31_3))))
 (qpss_cons (qps_if (qpt_cmpR op_lt (qpe_var (i := 5) rfl v31_5 d31_5 c31_5) (qpe_var (i := 2) rfl v31_2 d31_2 c31_2) (nomark _))
  (qpss_one (qps_ret (qpe_tup (qpa_cons qpe_str (qpa_cons (qpe_var (i := 5) rfl v31_5 d31_5 c31_5) qpa_nil se_Name) se_Constant))))
  qpss_nil)
 (qpss_one (qps_ret (qpe_tup (qpa_cons qpe_str (qpa_cons (qpe_op op_sub (qpe_var (i := 5) rfl v31_5 d31_5 c31_5) (qpe_var (i := 2) rfl v31_2 d31_2 c31_2)) qpa_nil se_BinOp) se_Constant))))))))), ?_⟩
  (try dsimp only [cxOf])
  walk_at "rd"
  rename_i m H1 m0 m1 c1 b1
  refine ite2 (fun hc => ?_) (fun hc => ?_)
  · have hz : (ins : Int) + (many : Int) = 0 := by simpa using hc
    walk_at "rd"
    exact q1 (by omega) _ c1 b1
  · have hz : ¬ ((ins : Int) + (many : Int) = 0) := by simpa using hc
    have hp : 0 < (ins : Int) + (many : Int) := by omega
    have e0 : 0 ≤ m % ((ins : Int) + (many : Int)) := Int.emod_nonneg _ hz
    have e1 := Int.emod_lt_of_pos m hp
    obtain ⟨n, en⟩ := Int.eq_ofNat_of_zero_le e0
    walk_at "rd"
    refine ite2 (fun hc => ?_) (fun hc => ?_)
    · have hl : m % ((ins : Int) + (many : Int)) < (ins : Int) := by simpa using hc
      walk_at "rd"
      rename_i T hT
      exact q2 T (false, n) _ (c1.trans (Ch.new hT _)) (g_new hT b1) (by show n < ins; omega) (by rw [upd_same]; show some (HO.tup [V.str "in", V.int (m % ((ins : Int) + (many : Int)))]) = _; rw [en]; rfl)
    · have hl : ¬ m % ((ins : Int) + (many : Int)) < (ins : Int) := by simpa using hc
      walk_at "rd"
      rename_i T hT
      refine q2 T (true, n - ins) _ (c1.trans (Ch.new hT _)) (g_new hT b1) (by show n - ins < many; omega) ?_
      rw [upd_same]
      show some (HO.tup [V.str "block", V.int (m % ((ins : Int) + (many : Int)) - (ins : Int))]) = some (HO.tup [V.str "block", V.int ((n - ins : Nat) : Int)])
      rw [show ((n - ins : Nat) : Int) = m % ((ins : Int) + (many : Int)) - (ins : Int) from by omega]
theorem l32_5 : Lc (defScope (top 32)) "_law_row" := by decide +kernel
theorem g32_range : Gi (defScope (top 32)) "range" := by decide +kernel
theorem v32_3 : Vs (defScope (top 32)) "_law_many" := by decide +kernel
theorem d32_3 : Nd "_law_many" := by decide +kernel
theorem c32_3 : Nc "_law_many" := by decide +kernel
theorem l32_6 : Lc (defScope (top 32)) "_law_k" := by decide +kernel
theorem v32_5 : Vs (defScope (top 32)) "_law_row" := by decide +kernel
theorem d32_5 : Nd "_law_row" := by decide +kernel
theorem c32_5 : Nc "_law_row" := by decide +kernel
theorem v32_6 : Vs (defScope (top 32)) "_law_k" := by decide +kernel
theorem d32_6 : Nd "_law_k" := by decide +kernel
theorem c32_6 : Nc "_law_k" := by decide +kernel
theorem g32__law_next : Gi (defScope (top 32)) "_law_next" := by decide +kernel
theorem v32_1 : Vs (defScope (top 32)) "_law_at" := by decide +kernel
theorem d32_1 : Nd "_law_at" := by decide +kernel
theorem c32_1 : Nc "_law_at" := by decide +kernel
theorem v32_0 : Vs (defScope (top 32)) "_law_script" := by decide +kernel
theorem d32_0 : Nd "_law_script" := by decide +kernel
theorem c32_0 : Nc "_law_script" := by decide +kernel
theorem g32_len : Gi (defScope (top 32)) "len" := by decide +kernel
theorem l32_7 : Lc (defScope (top 32)) "_law_kinds" := by decide +kernel
theorem g32__law_some_bits : Gi (defScope (top 32)) "_law_some_bits" := by decide +kernel
theorem l32_8 : Lc (defScope (top 32)) "_law_blocks" := by decide +kernel
theorem l32_9 : Lc (defScope (top 32)) "_law_m" := by decide +kernel
theorem l32_10 : Lc (defScope (top 32)) "_law_sources" := by decide +kernel
theorem v32_9 : Vs (defScope (top 32)) "_law_m" := by decide +kernel
theorem d32_9 : Nd "_law_m" := by decide +kernel
theorem c32_9 : Nc "_law_m" := by decide +kernel
theorem l32_11 : Lc (defScope (top 32)) "_law_j" := by decide +kernel
theorem l32_12 : Lc (defScope (top 32)) "_law_source" := by decide +kernel
theorem g32__law_drawn_source : Gi (defScope (top 32)) "_law_drawn_source" := by decide +kernel
theorem v32_2 : Vs (defScope (top 32)) "_law_ins" := by decide +kernel
theorem d32_2 : Nd "_law_ins" := by decide +kernel
theorem c32_2 : Nc "_law_ins" := by decide +kernel
theorem v32_12 : Vs (defScope (top 32)) "_law_source" := by decide +kernel
theorem d32_12 : Nd "_law_source" := by decide +kernel
theorem c32_12 : Nc "_law_source" := by decide +kernel
theorem l32_13 : Lc (defScope (top 32)) "_law_free" := by decide +kernel
theorem v32_7 : Vs (defScope (top 32)) "_law_kinds" := by decide +kernel
theorem d32_7 : Nd "_law_kinds" := by decide +kernel
theorem c32_7 : Nc "_law_kinds" := by decide +kernel
theorem v32_13 : Vs (defScope (top 32)) "_law_free" := by decide +kernel
theorem d32_13 : Nd "_law_free" := by decide +kernel
theorem c32_13 : Nc "_law_free" := by decide +kernel
theorem v32_10 : Vs (defScope (top 32)) "_law_sources" := by decide +kernel
theorem d32_10 : Nd "_law_sources" := by decide +kernel
theorem c32_10 : Nc "_law_sources" := by decide +kernel
theorem l32_14 : Lc (defScope (top 32)) "_law_bits" := by decide +kernel
theorem v32_8 : Vs (defScope (top 32)) "_law_blocks" := by decide +kernel
theorem d32_8 : Nd "_law_blocks" := by decide +kernel
theorem c32_8 : Nc "_law_blocks" := by decide +kernel
theorem v32_14 : Vs (defScope (top 32)) "_law_bits" := by decide +kernel
theorem d32_14 : Nd "_law_bits" := by decide +kernel
theorem c32_14 : Nc "_law_bits" := by decide +kernel
theorem l32_15 : Lc (defScope (top 32)) "_law_ends" := by decide +kernel
theorem v32_4 : Vs (defScope (top 32)) "_law_outs" := by decide +kernel
theorem d32_4 : Nd "_law_outs" := by decide +kernel
theorem c32_4 : Nc "_law_outs" := by decide +kernel
def csc32_0 : Scope := { kind := PySem.ScopeKind.function, names := [ (PySem.Str.ofString ".0", PySem.NameKind.local), (PySem.Str.ofString "_law_k", PySem.NameKind.local), (PySem.Str.ofString "_law_drawn_source", PySem.NameKind.globalImplicit), (PySem.Str.ofString "_law_at", PySem.NameKind.free), (PySem.Str.ofString "_law_ins", PySem.NameKind.free), (PySem.Str.ofString "_law_many", PySem.NameKind.free), (PySem.Str.ofString "_law_script", PySem.NameKind.free)], isGenerator := false, isCoroutine := false, more := [] : PySem.Scope }
theorem cok32_0 : CompOk csc32_0 (defScope (top 32)) (["_law_k"] : List Str) (["_law_script", "_law_at", "_law_ins", "_law_many", "_law_outs", "_law_row", "_law_k", "_law_kinds", "_law_blocks", "_law_m", "_law_sources", "_law_j", "_law_source", "_law_free", "_law_bits", "_law_ends"] : List Str) [0, 1, 2, 3] (["_law_k", "_law_script", "_law_at", "_law_ins", "_law_many"] : List Str) := compOk rfl (by decide +kernel) (by decide +kernel) (by decide +kernel) (by decide +kernel) rfl (by decide +kernel)
theorem kq32_0_0 : (relab csc32_0 (defScope (top 32))).names.lookup (Str.ofString "_law_k") = some NameKind.local := by decide +kernel
theorem gq32_0__law_drawn_source : Gi (relab csc32_0 (defScope (top 32))) "_law_drawn_source" := by decide +kernel
theorem vq32_0_4 : Vs (relab csc32_0 (defScope (top 32))) "_law_many" := by decide +kernel
theorem dq32_0_4 : Nd "_law_many" := by decide +kernel
theorem cq32_0_4 : Nc "_law_many" := by decide +kernel
theorem vq32_0_3 : Vs (relab csc32_0 (defScope (top 32))) "_law_ins" := by decide +kernel
theorem dq32_0_3 : Nd "_law_ins" := by decide +kernel
theorem cq32_0_3 : Nc "_law_ins" := by decide +kernel
theorem vq32_0_2 : Vs (relab csc32_0 (defScope (top 32))) "_law_at" := by decide +kernel
theorem dq32_0_2 : Nd "_law_at" := by decide +kernel
theorem cq32_0_2 : Nc "_law_at" := by decide +kernel
theorem vq32_0_1 : Vs (relab csc32_0 (defScope (top 32))) "_law_script" := by decide +kernel
theorem dq32_0_1 : Nd "_law_script" := by decide +kernel
theorem cq32_0_1 : Nc "_law_script" := by decide +kernel
theorem v32_15 : Vs (defScope (top 32)) "_law_ends" := by decide +kernel
theorem d32_15 : Nd "_law_ends" := by decide +kernel
theorem c32_15 : Nc "_law_ends" := by decide +kernel
def csc32_1 : Scope := { kind := PySem.ScopeKind.function, names := [(PySem.Str.ofString ".0", PySem.NameKind.local), (PySem.Str.ofString "_law_source", PySem.NameKind.local)], isGenerator := false, isCoroutine := false, more := [] : PySem.Scope }
theorem cok32_1 : CompOk csc32_1 (defScope (top 32)) (["_law_source"] : List Str) (["_law_script", "_law_at", "_law_ins", "_law_many", "_law_outs", "_law_row", "_law_k", "_law_kinds", "_law_blocks", "_law_m", "_law_sources", "_law_j", "_law_source", "_law_free", "_law_bits", "_law_ends"] : List Str) [] (["_law_source"] : List Str) := compOk rfl (by decide +kernel) (by decide +kernel) (by decide +kernel) (by decide +kernel) rfl (by decide +kernel)
theorem kq32_1_0 : (relab csc32_1 (defScope (top 32))).names.lookup (Str.ofString "_law_source") = some NameKind.local := by decide +kernel
theorem vq32_1_0 : Vs (relab csc32_1 (defScope (top 32))) "_law_source" := by decide +kernel
theorem dq32_1_0 : Nd "_law_source" := by decide +kernel
theorem cq32_1_0 : Nc "_law_source" := by decide +kernel
structure DP (K : PySem.W.Frag) (H H' : Hp) (a b : Addr) (ns : List Int) (c : Int) (bl ol : Addr) (ins : Nat) (bs : List Bk) (os : List Src) : Prop where
  d : ∃ c', DQ K H H' a b ns c' ∧ c ≤ c' ∧ c' ≤ c + 1000
  tb : ∃ ps, H' bl = some (.lst (ps.map V.ref)) ∧ Paired (BkL [b] H') bs ps
  to : ∃ ps, H' ol = some (.lst (ps.map V.ref)) ∧ Paired (PgAt H') (os.map sg) ps
  ok : ∀ x ∈ bs, x.ok ins bs.length
  oo : ∀ s ∈ os, s.2 < lim ins bs.length s.1
  ac : Acy (looseOf bs) (lsOf bs)
  nb : bl ≠ b ∧ ol ≠ b
def spPL (K : PySem.W.Frag) : Sp := fun vs H Q _ => ∃ (a b : Addr) (ns : List Int) (c : Int) (ins many outs : Nat), vs = [.ref a, .ref b, .int (ins : Int), .int (many : Int), .int (outs : Int)] ∧ Scr K H a ns ∧ H b = some (.lst [.int c]) ∧ 0 ≤ c ∧ c < 2 ^ 50 ∧ ins ≤ 20 ∧ many ≤ 20 ∧ outs ≤ 20 ∧
  ∀ (R bl ol : Addr) (bs : List Bk) (os : List Src) (H' : Hp), DP K H H' a b ns c bl ol ins bs os → bs.length = many → os.length ≤ outs → H' R = some (.tup [.ref bl, .ref ol]) → Q (.ref R) H'
theorem scPL : FnScope ["_law_script", "_law_at", "_law_ins", "_law_many", "_law_outs", "_law_row", "_law_k", "_law_kinds", "_law_blocks", "_law_m", "_law_sources", "_law_j", "_law_source", "_law_free", "_law_bits", "_law_ends"] ["_law_script", "_law_at", "_law_ins", "_law_many", "_law_outs"] (defScope (top 32)) := ⟨rfl, rfl, rfl, by decide +kernel, rfl, by decide +kernel, by decide +kernel⟩
theorem ok_pl (F : Fun K "_law_pack_lists" "_law_pack_lists" (top 32) f fd) (D_law_next : DefOk P w K mg base CX0 k "_law_next" ["_law_script", "_law_at"] (spNext K)) (D_law_some_bits : DefOk P w K mg base CX0 k "_law_some_bits" ["_law_script", "_law_at", "_law_many"] (spBits K)) (D_law_drawn_source : DefOk P w K mg base CX0 k "_law_drawn_source" ["_law_script", "_law_at", "_law_ins", "_law_blocks"] (spSrc K)) (z_range : mg "range" = none) (z_len : mg "len" = none) : FnOk P w K mg base CX0 (k + 1) f fd ["_law_script", "_law_at", "_law_ins", "_law_many", "_law_outs"] (spPL K) := by
  have nd := scPL.nd
  refine F.ok scPL (fun vs H Q E h => by obtain ⟨a, b, ns, c, ins, many, outs, rfl, _⟩ := h; rfl) (fun cdv A outer s H vs Q E hr h => ?_)
  obtain ⟨a, b, ns, c, ins, many, outs, rfl, hS, hb, h0, h1, i20, m20, o20, q⟩ := h
  refine ⟨_, (Pr.h (qpss_cons (qps_set (i := 5) nd rfl l32_5 (qpe_lst qpa_nil))
 (qpss_cons (qps_loop PassesOwn.never rfl (qpi_range1 g32_range z_range (qpa_cons (qpe_var (i := 3) rfl v32_3 d32_3 c32_3) qpa_nil se_Name)) (qpg_name (i := 6) nd rfl l32_6)
  (qpss_one (qps_expr (qpe_bm PySem.F.plainAttrs_list PySem.F.slot_list_insert PySem.F.type_list_insert mt_insert (qpe_var (i := 5) rfl v32_5 d32_5 c32_5) (qpa_cons (qpe_op op_mod (qpe_callD D_law_next hr g32__law_next pass0 (qpa_cons (qpe_var (i := 0) rfl v32_0 d32_0 c32_0) (qpa_cons (qpe_var (i := 1) rfl v32_1 d32_1 c32_1) qpa_nil se_Name) se_Name) gd__law_next) (qpe_op op_add (qpe_callB call_len_seq g32_len z_len PySem.boot_len (qpa_cons (qpe_var (i := 5) rfl v32_5 d32_5 c32_5) qpa_nil se_Name) nn_len gd_len) qpe_int)) (qpa_cons (qpe_var (i := 6) rfl v32_6 d32_6 c32_6) qpa_nil se_Name) se_BinOp)))))
 (qpss_cons (qps_set (i := 7) nd rfl l32_7 (qpe_callD D_law_some_bits hr g32__law_some_bits pass0 (qpa_cons (qpe_var (i := 0) rfl v32_0 d32_0 c32_0) (qpa_cons (qpe_var (i := 1) rfl v32_1 d32_1 c32_1) (qpa_cons (qpe_var (i := 3) rfl v32_3 d32_3 c32_3) qpa_nil se_Name) se_Name) se_Name) gd__law_some_bits))
 (qpss_cons (qps_set (i := 8) nd rfl l32_8 (qpe_lst qpa_nil))
 (qpss_cons (qps_loop PassesOwn.never rfl (qpi_range1 g32_range z_range (qpa_cons (qpe_var (i := 3) rfl v32_3 d32_3 c32_3) qpa_nil se_Name)) (qpg_name (i := 6) nd rfl l32_6)
  (qpss_cons (qps_set (i := 9) nd rfl l32_9 (qpe_callD D_law_next hr g32__law_next pass0 (qpa_cons (qpe_var (i := 0) rfl v32_0 d32_0 c32_0) (qpa_cons (qpe_var (i := 1) rfl v32_1 d32_1 c32_1) qpa_nil se_Name) se_Name) gd__law_next))
 (qpss_cons (qps_set (i := 10) nd rfl l32_10 (qpe_lst qpa_nil))
 (qpss_cons (qps_loop PassesOwn.never rfl (qpi_range1 g32_range z_range (qpa_cons (qpe_op op_mod (qpe_var (i := 9) rfl v32_9 d32_9 c32_9) qpe_int) qpa_nil se_BinOp)) (qpg_name (i := 11) nd rfl l32_11)
  (qpss_cons (qps_set (i := 12) nd rfl l32_12 (qpe_callD D_law_drawn_source hr g32__law_drawn_source pass0 (qpa_cons (qpe_var (i := 0) rfl v32_0 d32_0 c32_0) (qpa_cons (qpe_var (i := 1) rfl v32_1 d32_1 c32_1) (qpa_cons (qpe_var (i := 2) rfl v32_2 d32_2 c32_2) (qpa_cons (qpe_var (i := 3) rfl v32_3 d32_3 c32_3) qpa_nil se_Name) se_Name) se_Name) se_Name) gd__law_drawn_source))
 (qpss_cons (qps_if (qpt_cmpR op_isN (qpe_var (i := 12) rfl v32_12 d32_12 c32_12) qpe_non (nomark _))
  (qpss_one qps_continue)
  qpss_nil)
 (qpss_cons (qps_set (i := 13) nd rfl l32_13 (qpe_or (qpe_cmpR op_eq (qpe_ix ixa_tup (qpe_var (i := 12) rfl v32_12 d32_12 c32_12) qpe_int (fun _ _ => rfl)) qpe_str (nomark _)) (qpe_one (qpe_cmpR op_eq (qpe_ix ixa_list (qpe_var (i := 7) rfl v32_7 d32_7 c32_7) (qpe_var (i := 6) rfl v32_6 d32_6 c32_6) (fun _ _ => rfl)) qpe_int (nomark _)))))
 (qpss_cut (qps_if (qpt_not (qpt_val (qpe_var (i := 13) rfl v32_13 d32_13 c32_13)))
  (qpss_one (qps_set (i := 13) nd rfl l32_13 (qpe_or (qpe_cmpR op_eq (qpe_ix ixa_list (qpe_var (i := 7) rfl v32_7 d32_7 c32_7) (qpe_ix ixa_tup (qpe_var (i := 12) rfl v32_12 d32_12 c32_12) qpe_int (fun _ _ => rfl)) (fun _ _ => rfl)) qpe_int (nomark _)) (qpe_one (qpe_cmpR op_lt (qpe_bm PySem.F.plainAttrs_list PySem.F.slot_list_index PySem.F.type_list_index mt_index (qpe_var (i := 5) rfl v32_5 d32_5 c32_5) (qpa_cons (qpe_ix ixa_tup (qpe_var (i := 12) rfl v32_12 d32_12 c32_12) qpe_int (fun _ _ => rfl)) qpa_nil se_Subscript)) (qpe_bm PySem.F.plainAttrs_list PySem.F.slot_list_index PySem.F.type_list_index mt_index (qpe_var (i := 5) rfl v32_5 d32_5 c32_5) (qpa_cons (qpe_var (i := 6) rfl v32_6 d32_6 c32_6) qpa_nil se_Name)) (nomark _))))))
  qpss_nil)
 (qpss_one (qps_if (qpt_val (qpe_var (i := 13) rfl v32_13 d32_13 c32_13))
  (qpss_one (qps_expr (qpe_bm PySem.F.plainAttrs_list PySem.F.slot_list_append PySem.F.type_list_append mt_append (qpe_var (i := 10) rfl v32_10 d32_10 c32_10) (qpa_cons (qpe_var (i := 12) rfl v32_12 d32_12 c32_12) qpa_nil se_Name))))
  qpss_nil)))))))
 (qpss_cons (qps_set (i := 14) nd rfl l32_14 (qpe_op op_mod (qpe_callD D_law_next hr g32__law_next pass0 (qpa_cons (qpe_var (i := 0) rfl v32_0 d32_0 c32_0) (qpa_cons (qpe_var (i := 1) rfl v32_1 d32_1 c32_1) qpa_nil se_Name) se_Name) gd__law_next) (qpe_ix ixa_list (qpe_lst (qpa_cons qpe_int (qpa_cons qpe_int (qpa_cons qpe_int (qpa_cons qpe_int (qpa_cons qpe_int qpa_nil se_Constant) se_Constant) se_Constant) se_Constant) se_Constant)) (qpe_callB call_len_seq g32_len z_len PySem.boot_len (qpa_cons (qpe_var (i := 10) rfl v32_10 d32_10 c32_10) qpa_nil se_Name) nn_len gd_len) (fun _ _ => rfl))))
 (qpss_one (qps_expr (qpe_bm PySem.F.plainAttrs_list PySem.F.slot_list_append PySem.F.type_list_append mt_append (qpe_var (i := 8) rfl v32_8 d32_8 c32_8) (qpa_cons (qpe_tup (qpa_cons (qpe_var (i := 10) rfl v32_10 d32_10 c32_10) (qpa_cons (qpe_var (i := 14) rfl v32_14 d32_14 c32_14) (qpa_cons (qpe_ix ixa_list (qpe_var (i := 7) rfl v32_7 d32_7 c32_7) (qpe_var (i := 6) rfl v32_6 d32_6 c32_6) (fun _ _ => rfl)) (qpa_cons (qpe_op op_mul (qpe_op op_mod (qpe_op op_fdivW (qpe_var (i := 9) rfl v32_9 d32_9 c32_9) qpe_int) qpe_int) (qpe_ix ixa_list (qpe_var (i := 7) rfl v32_7 d32_7 c32_7) (qpe_var (i := 6) rfl v32_6 d32_6 c32_6) (fun _ _ => rfl))) qpa_nil se_BinOp) se_Subscript) se_Name) se_Name)) qpa_nil se_Tuple)))))))))
 (qpss_cons (qps_setC (i := 15) nd rfl l32_15 rfl cok32_0 (qpi_range1 g32_range z_range (qpa_cons (qpe_var (i := 4) rfl v32_4 d32_4 c32_4) qpa_nil se_Name)) (fun _ _ _ _ _ => (qpg_name (i := 0) cok32_0.nd rfl (Or.inl kq32_0_0) (Or.inr kq32_0_0))) (fun _ _ _ _ _ => qpif_nil) (fun _ _ _ _ _ => (qpe_callD D_law_drawn_source hr gq32_0__law_drawn_source pass0 (qpa_cons (qpe_var (i := 1) rfl vq32_0_1 dq32_0_1 cq32_0_1) (qpa_cons (qpe_var (i := 2) rfl vq32_0_2 dq32_0_2 cq32_0_2) (qpa_cons (qpe_var (i := 3) rfl vq32_0_3 dq32_0_3 cq32_0_3) (qpa_cons (qpe_var (i := 4) rfl vq32_0_4 dq32_0_4 cq32_0_4) qpa_nil se_Name) se_Name) se_Name) se_Name) gd__law_drawn_source)) rfl)
 (qpss_one (qps_ret (qpe_tup (qpa_cons (qpe_var (i := 8) rfl v32_8 d32_8 c32_8) (qpa_cons (qpe_comp rfl cok32_1 (qpi_list (qpe_var (i := 15) rfl v32_15 d32_15 c32_15)) (fun _ _ _ _ _ => (qpg_name (i := 0) cok32_1.nd rfl (Or.inl kq32_1_0) (Or.inr kq32_1_0))) (fun _ _ _ _ _ => (qpif_one (qpt_cmpR op_notN (qpe_var (i := 0) rfl vq32_1_0 dq32_1_0 cq32_1_0) qpe_non (nomark _)))) (fun _ _ _ _ _ => (qpe_var (i := 0) rfl vq32_1_0 dq32_1_0 cq32_1_0))) qpa_nil se_ListComp) se_Name))))))))))), ?_⟩
  (try dsimp only [cxOf])
  walk_at "rd"
  rename_i rw hrw
  have nbr : b ≠ rw := ne_of_none hb hrw
  have d0 : DQ K H H a b ns c := ⟨Ch.refl _ _, hS, hb⟩
  refine loop_range (fun i σ H' => ∃ (c' : Int) (row : List Nat) (u : Option V), σ = [some (.ref a), some (.ref b), some (.int (ins : Int)), some (.int (many : Int)), some (.int (outs : Int)), some (.ref rw), u, none, none, none, none, none, none, none, none, none] ∧ DQ K H H' a b ns c' ∧ H' rw = some (.lst (row.map nV)) ∧ row.length = i ∧ (∀ n, n < i → n ∈ row) ∧ CI c' c (i : Nat)) ⟨c, [], _, rfl, d0.new (Ch.new hrw _), upd_same, rfl, by simp, by omega, by simp⟩ ?_ ?_
  · rintro i σ H' hi ⟨c', row, u, rfl, d, g, lr, mr, ci⟩
    have hi : i < many := by simpa using hi
    have ci1 := ci.lo
    have ci2 := ci.hi
    have hS' := d.hS
    have hb' := d.hb
    have lr2 : (row.map nV).length = i := by rw [List.length_map, lr]
    have e0 : ∀ z : Int, 0 ≤ z % ((row.map nV).length + 1 : Int) := fun z => Int.emod_nonneg _ (by omega)
    have e1 : ∀ z : Int, z % ((row.map nV).length + 1 : Int) < ((row.map nV).length + 1 : Int) := fun z => Int.emod_lt_of_pos _ (by omega)
    walk_at "rd"
    rename_i n H1 n0 n1 c1 b1
    have g1 : H1 rw = some (.lst (row.map nV)) := c1.get g (by simpa using nbr.symm)
    refine ⟨e0 n, by have := e1 n; omega, by omega, ?_⟩
    have z0 := e0 n
    obtain ⟨t, et⟩ : ∃ t : Nat, (n % ((row.map nV).length + 1 : Int)).toNat = t := ⟨_, rfl⟩
    have eR : (row.map nV).take t ++ V.int (0 + (i : Int)) :: (row.map nV).drop t = (row.take t ++ i :: row.drop t).map nV := by
      rw [List.map_append, List.map_cons, List.map_take, List.map_drop]
      show _ ++ V.int (0 + (i : Int)) :: _ = _ ++ V.int (i : Int) :: _
      rw [Int.zero_add]
    have hput : (upd H1 rw (.lst ((row.map nV).take t ++ V.int (0 + (i : Int)) :: (row.map nV).drop t))) rw = some (.lst ((row.take t ++ i :: row.drop t).map nV)) := by rw [upd_same, eR]
    walk_at "rd"
    rw [et]
    refine ⟨(d.next c1 b1).own hrw g1 nbr, hput, ?_, fun m hm => ?_, by omega, by omega⟩
    · rw [List.length_append, List.length_cons, List.length_take, List.length_drop]; omega
    · by_cases em : m = i
      · subst em; simp
      · have := mr m (by omega)
        rw [← List.take_append_drop t row] at this
        rcases List.mem_append.mp this with z | z
        · exact List.mem_append_left _ z
        · exact List.mem_append_right _ (List.mem_cons_of_mem _ z)
  · rintro σ H2 ⟨c2, row, u, rfl, d2, g2, lr, mr, ci⟩
    have lr : row.length = many := by simpa using lr
    have mr : ∀ n, n < many → n ∈ row := by simpa using mr
    have ci1 := ci.lo
    have ci2 : c2 ≤ c + 20 := by have := ci.hi; omega
    have hS2 := d2.hS
    have hb2 := d2.hb
    walk_at "rd"
    rename_i kl kinds H3 sb lkd bl hbl
    obtain ⟨⟨c3, d3, c3a, c3b⟩, fk, gk⟩ := sb
    have nbl : b ≠ bl := ne_of_none d3.hb hbl
    have nbk : b ≠ kl := ne_of_none hb2 fk
    have gr3 : H3 rw = some (.lst (row.map nV)) := d3.ch.get g2 (by simpa using nbr.symm)
    have d03 : DQ K H H3 a b ns c3 := d2.trans d3
    have z3 : DQ K H3 H3 a b ns c3 := ⟨Ch.refl _ _, d3.hS, d3.hb⟩
    clear d2 g2 d3 hS2 hb2
    refine loop_range (fun i σ H' => ∃ (c' : Int) (bs : List Bk) (u6 u9 u10 u11 u12 u13 u14 : Option V), σ = [some (.ref a), some (.ref b), some (.int (ins : Int)), some (.int (many : Int)), some (.int (outs : Int)), some (.ref rw), u6, some (.ref kl), some (.ref bl), u9, u10, u11, u12, u13, u14, none] ∧ BL K H3 H' a b ns bl ins many row kinds bs c' ∧ bs.length = i ∧ CI c' c3 (12 * i)) ⟨c3, [], _, _, _, _, _, _, _, rfl, ⟨z3.new (Ch.new hbl _), ⟨[], upd_same, .nil⟩, by simp, by simp⟩, rfl, by omega, by simp⟩ ?_ ?_
    · clear z3
      rintro i σ H' hi ⟨c', bs, u6, u9, u10, u11, u12, u13, u14, rfl, bL, lb, ci⟩
      have hi : i < many := by simpa using hi
      obtain ⟨kb, ek⟩ : ∃ kb, kinds[i]? = some kb := ⟨_, List.getElem?_eq_getElem (by omega)⟩
      have ci1 := ci.lo
      have ci2 := ci.hi
      have hS' := bL.d.hS
      have hb' := bL.d.hb
      walk_at "rd"
      rename_i m5 H5 m50 m51 c5 b5 lp hlp
      have d5 : DQ K H' H5 a b ns (c' + 1) := (⟨Ch.refl _ _, hS', hb'⟩ : DQ K H' H' a b ns c').next c5 b5
      have nbp : b ≠ lp := ne_of_none b5 hlp
      have flp : H' lp = none := d5.free hlp
      refine loop_range (fun j σ H'' => ∃ (c'' : Int) (ss : List Src) (u11 u12 u13 : Option V), σ = [some (.ref a), some (.ref b), some (.int (ins : Int)), some (.int (many : Int)), some (.int (outs : Int)), some (.ref rw), some (.int (0 + (i : Int))), some (.ref kl), some (.ref bl), some (.int m5), some (.ref lp), u11, u12, u13, u14, none] ∧ LL K H' H'' a b ns lp ins many i row kinds ss c'' ∧ ss.length ≤ j ∧ CI c'' (c' + 1) j) ⟨c' + 1, [], _, _, _, rfl, ⟨d5.new (Ch.new hlp _), ⟨[], upd_same, .nil⟩, by simp⟩, Nat.le_refl _, by omega, by omega⟩ ?_ ?_
      · clear d5 c5 b5
        rintro j σ H'' hj ⟨c'', ss, v11, v12, v13, rfl, lL, lj, cj⟩
        have hj : j < 5 := by have : j < (m5 % 5).toNat := hj; omega
        have cj1 := cj.lo
        have cj2 := cj.hi
        walk_at "rd"
        refine ⟨lL.d.hS, lL.d.hb, by omega, by omega, fun z => absurd z (by omega), fun p x H6 c6 b6 lx hx => ?_⟩
        have d6 := lL.d.next c6 b6
        have gk6 : H6 kl = some (.lst (kinds.map bV)) := d6.ch.get (bL.d.ch.get gk (by simpa using nbk.symm)) (by simpa using nbk.symm)
        have gr6 : H6 rw = some (.lst (row.map nV)) := d6.ch.get (bL.d.ch.get gr3 (by simpa using nbr.symm)) (by simpa using nbr.symm)
        obtain ⟨xb, xn⟩ := x
        have ak : atI (kinds.map bV) (0 + (i : Int)) = some (bV kb) := by rw [Int.zero_add]; exact atI_nat (by rw [List.getElem?_map, ek]; rfl)
        apply Box.share
        apply Exists.intro
        apply And.intro
        · intro after
          cases exb : xb with
          | false =>
            have hx : H6 p = some (.tup [.str "in", .int (xn : Int)]) := by rw [exb] at hx; exact hx
            walk_at "rd"
            refine cut_by (fun σ H7 => ∃ (fb : Bool), σ = [some (.ref a), some (.ref b), some (.int (ins : Int)), some (.int (many : Int)), some (.int (outs : Int)), some (.ref rw), some (.int (0 + (i : Int))), some (.ref kl), some (.ref bl), some (.int m5), some (.ref lp), some (.int (0 + (j : Int))), some (.ref p), some (.bl fb), u14, none] ∧ H7 = H6 ∧ (fb = true → Fr row kinds i (xb, xn))) ?_ after.h
            walk_at "rd"
            exact ⟨fun _ z => by have z : xb = true := z; rw [exb] at z; cases z⟩
          | true =>
            have hx : H6 p = some (.tup [.str "block", .int (xn : Int)]) := by rw [exb] at hx; exact hx
            have xl : xn < many := by rw [exb] at lx; exact lx
            obtain ⟨kx, ekx⟩ : ∃ kx, kinds[xn]? = some kx := ⟨_, List.getElem?_eq_getElem (by omega)⟩
            have akx : atI (kinds.map bV) (xn : Int) = some (bV kx) := atI_nat (by rw [List.getElem?_map, ekx]; rfl)
            have ix1 : row.idxOf? (xn : Int).toNat = some (row.idxOf xn) := by rw [Int.toNat_natCast]; exact idx_of (mr xn xl)
            have ix2 : row.idxOf? (0 + (i : Int)).toNat = some (row.idxOf i) := by rw [Int.zero_add, Int.toNat_natCast]; exact idx_of (mr i hi)
            cases ekb : kb with
            | true =>
              have ak : atI (kinds.map bV) (0 + (i : Int)) = some (V.int 1) := by rw [ak, ekb]; rfl
              walk_at "rd"
              refine cut_by (fun σ H7 => ∃ (fb : Bool), σ = [some (.ref a), some (.ref b), some (.int (ins : Int)), some (.int (many : Int)), some (.int (outs : Int)), some (.ref rw), some (.int (0 + (i : Int))), some (.ref kl), some (.ref bl), some (.int m5), some (.ref lp), some (.int (0 + (j : Int))), some (.ref p), some (.bl fb), u14, none] ∧ H7 = H6 ∧ (fb = true → Fr row kinds i (xb, xn))) ?_ after.h
              walk_at "rd"
              exact ⟨fun z _ => by rw [ek, ekb] at z; cases z⟩
            | false =>
              have ak : atI (kinds.map bV) (0 + (i : Int)) = some (V.int 0) := by rw [ak, ekb]; rfl
              have gr7 : H6 rw = some (.lst (row.map fun n : Nat => V.int (n : Int))) := gr6
              have lrw : row.length < 1000 := by omega
              walk_at "rd"
              refine cut_by (fun σ H7 => ∃ (fb : Bool), σ = [some (.ref a), some (.ref b), some (.int (ins : Int)), some (.int (many : Int)), some (.int (outs : Int)), some (.ref rw), some (.int (0 + (i : Int))), some (.ref kl), some (.ref bl), some (.int m5), some (.ref lp), some (.int (0 + (j : Int))), some (.ref p), some (.bl fb), u14, none] ∧ H7 = H6 ∧ (fb = true → Fr row kinds i (xb, xn))) ?_ after.h
              walk_at "rd"
              refine ite2 (fun hk => ?_) (fun hk => ?_)
              · have hk : kx = true := by cases kx with
                  | true => rfl
                  | false => exact absurd hk (by decide)
                walk_at "rd"
                exact ⟨fun _ _ => .inl (by show kinds[xn]? = _; rw [ekx, hk])⟩
              · walk_at "rd"
                rename_i hz
                exact ⟨fun _ _ => .inr (by show row.idxOf xn < row.idxOf i; have := of_decide_eq_true hz; omega)⟩
        · rintro σ H7 ⟨fb, rfl, rfl, hfb⟩
          obtain ⟨qs, gq, ws⟩ := lL.ex
          have gq7 : H7 lp = some (.lst (qs.map V.ref)) := c6.get gq (by simpa using nbp.symm)
          have ws7 := paired_imp (fun _ _ e => PgAt.tu (Tu.lst c6 lL.d.hb) e) ws
          have lw := Paired.length ws
          rw [List.length_map] at lw
          cases fb with
          | true =>
            have lq : (qs.map V.ref).length ≤ 5 := by rw [List.length_map]; omega
            walk_at "rd"
            have tu8 : Tu H7 (upd H7 lp (.lst (qs.map V.ref ++ [.ref p]))) := Tu.lst Ch.put gq7
            refine ⟨⟨d6.own flp gq7 nbp, ⟨qs ++ [p], by rw [upd_same, List.map_append]; rfl, ?_⟩, fun y hy => ?_⟩, (by simp; omega : (ss ++ [(xb, xn)]).length ≤ j + 1), by omega, by omega⟩
            · rw [List.map_append]
              exact paired_snoc (pg_sg (tu8 _ _ hx)) (paired_imp (fun _ _ e => PgAt.tu tu8 e) ws7)
            · rcases List.mem_append.mp hy with z | z
              · exact lL.lo y z
              · rw [List.mem_singleton.mp z]; exact ⟨lx, hfb rfl⟩
          | false =>
            walk_at "rd"
            exact ⟨⟨d6, ⟨qs, gq7, ws7⟩, lL.lo⟩, by omega, by omega, by omega⟩
      · clear d5 c5 b5
        rintro σ H'' ⟨c'', ss, v11, v12, v13, rfl, lL, lj, cj⟩
        have lj : ss.length ≤ 4 := by have : ss.length ≤ (m5 % 5).toNat := lj; omega
        have cj1 := cj.lo
        have cj2 : c'' ≤ c' + 1 + 4 := by have := cj.hi; omega
        have hS2 := lL.d.hS
        have hb2 := lL.d.hb
        obtain ⟨qs, gq, ws⟩ := lL.ex
        have lw := Paired.length ws
        rw [List.length_map] at lw
        have ra : atI [V.int 2, V.int 4, V.int 16, V.int 256, V.int 65536] ((qs.map V.ref).length : Int) = some (.int (room ss.length)) := by rw [List.length_map, ← lw]; exact room_at lj
        obtain ⟨rp, rp2⟩ := room_pos lj
        have gk2 : H'' kl = some (.lst (kinds.map bV)) := lL.d.ch.get (bL.d.ch.get gk (by simpa using nbk.symm)) (by simpa using nbk.symm)
        have ak : atI (kinds.map bV) (0 + (i : Int)) = some (.int (bi kb)) := by rw [Int.zero_add]; exact atI_nat (by rw [List.getElem?_map, ek]; rfl)
        obtain ⟨bps, gb, bb⟩ := bL.tb
        have lbb := Paired.length bb
        have b12 : (bps.map V.ref).length ≤ 20 := by rw [List.length_map]; omega
        have gb2 : H'' bl = some (.lst (bps.map V.ref)) := lL.d.ch.get gb (by simpa using nbl.symm)
        have lpl : lp ≠ bl := (ne_of_none gb flp).symm
        walk_at "rd"
        rename_i n8 H8 n80 n81 c8 b8 p9 hp9 T hT
        dsimp only at *
        have d8 : DQ K H3 H8 a b ns (c'' + 1) := (bL.d.trans lL.d).next c8 b8
        have gb8 : H8 bl = some (.lst (bps.map V.ref)) := c8.get gb2 (by simpa using nbl.symm)
        have cc : Ch [] H8 (upd (upd H8 p9 (.lst [V.int 2, V.int 4, V.int 16, V.int 256, V.int 65536])) T (.tup [.ref lp, .int (n8 % room ss.length), .int (bi kb), .int (m5 / 5 % 2 * bi kb)])) := (Ch.new hp9 _).trans (Ch.new hT _)
        have gT : (upd (upd H8 p9 (.lst [V.int 2, V.int 4, V.int 16, V.int 256, V.int 65536])) T (.tup [.ref lp, .int (n8 % room ss.length), .int (bi kb), .int (m5 / 5 % 2 * bi kb)])) bl = some (.lst (bps.map V.ref)) := cc.get gb8 (by simp)
        have tT : (upd (upd H8 p9 (.lst [V.int 2, V.int 4, V.int 16, V.int 256, V.int 65536])) T (.tup [.ref lp, .int (n8 % room ss.length), .int (bi kb), .int (m5 / 5 % 2 * bi kb)])) T = some (.tup [.ref lp, .int (n8 % room ss.length), .int (bi kb), .int (m5 / 5 % 2 * bi kb)]) := upd_same
        have nTl : T ≠ bl := (ne_of_none (g_new hp9 gb8) hT).symm
        generalize upd (upd H8 p9 (.lst [V.int 2, V.int 4, V.int 16, V.int 256, V.int 65536])) T (.tup [.ref lp, .int (n8 % room ss.length), .int (bi kb), .int (m5 / 5 % 2 * bi kb)]) = H9 at cc gT tT ⊢
        have dJ := (d8.new cc).own (zs := bps.map V.ref ++ [.ref T]) hbl gT nbl
        have kT : Kl [b, bl] H'' (upd H9 bl (.lst (bps.map V.ref ++ [.ref T]))) := ((Kl.one c8 hb2 (by simp)).trans (Kl.new cc)).trans (Kl.one Ch.put gT (by simp))
        have kA : Kl [b, bl] H' (upd H9 bl (.lst (bps.map V.ref ++ [.ref T]))) := (lL.d.kl hb' (by simp)).trans kT
        have nex : lp ∉ [b, bl] := by simp [nbp.symm, lpl]
        have k01 := bi01 kb
        have okn : Bk.ok ins many ⟨ss, n8 % room ss.length, bi kb, m5 / 5 % 2 * bi kb⟩ := ⟨lj, fun s hs => (lL.lo s hs).1, Int.emod_nonneg _ (by omega), Int.emod_lt_of_pos _ rp, by show bi kb = 0 ∨ bi kb = 1; omega, by show 0 ≤ m5 / 5 % 2 * bi kb; cases kb <;> simp [bi] <;> omega, by show m5 / 5 % 2 * bi kb ≤ bi kb; cases kb <;> simp [bi] <;> omega⟩
        refine ⟨⟨dJ, ⟨bps ++ [T], by rw [upd_same, List.map_append]; rfl, paired_snoc (x := ⟨ss, n8 % room ss.length, bi kb, m5 / 5 % 2 * bi kb⟩) ⟨lp, qs, nex, g_put nTl tT, kT.l _ _ nex gq, paired_imp (fun _ _ e => PgAt.tu kT.t e) ws⟩ (paired_imp (fun _ _ z => BkL.kl kA z) bb)⟩, fun x hx => ?_, fun n x h => ?_⟩, by simp [lb], by omega, by omega⟩
        · rcases List.mem_append.mp hx with z | z
          · exact bL.ok x z
          · rw [List.mem_singleton.mp z]; exact okn
        · by_cases hn : n < bs.length
          · rw [List.getElem?_append_left hn] at h
            exact bL.fr n x h
          · have h2 := (List.getElem?_eq_some_iff.mp h).1
            rw [List.length_append, List.length_singleton] at h2
            have en : n = bs.length := by omega
            subst en
            rw [List.getElem?_append_right (Nat.le_refl _), Nat.sub_self] at h
            cases h
            rw [lb]
            exact ⟨⟨kb, ek, rfl⟩, fun s hs => (lL.lo s hs).2⟩
    · clear z3
      rintro σ H5 ⟨c', bs, u6, u9, u10, u11, u12, u13, u14, rfl, bL, lb, ci⟩
      have lb : bs.length = many := by simpa using lb
      have ci1 := ci.lo
      have ci2 : c' ≤ c3 + 240 := by have := ci.hi; omega
      have dz : DQ K H5 H5 a b ns c' := ⟨Ch.refl _ _, bL.d.hS, bL.d.hb⟩
      have hb5 := bL.d.hb
      obtain ⟨bps, gb, bb⟩ := bL.tb
      walk_at "rd"
      refine comp_range (fun j ys σ H' => ∃ (os : List (Option Src)) (c4 : Int), OL K H5 H' a b ns ins many os ys c4 ∧ os.length = j ∧ CI c4 c' j ∧ ∃ u, σ = [u, some (.ref a), some (.ref b), some (.int (ins : Int)), some (.int (many : Int))]) (by rw [sizeLine_eq]; omega) ⟨[], c', ⟨dz, .nil, by simp⟩, rfl, ⟨by omega, by omega⟩, _, rfl⟩ ?_ ?_ ?_
      · rintro j ys σ H' hj ⟨os, c4, oL, lj, _⟩
        rw [← Paired.length oL.ex]
        omega
      · clear dz
        rintro j ys σ H' hj ⟨os, c4, oL, lj, cj, u, rfl⟩
        have hj : j < 20 := by have : j < (outs : Int).toNat := hj; omega
        have cj1 := cj.lo
        have cj2 := cj.hi
        walk_at "rd"
        refine ⟨oL.d.hS, oL.d.hb, by omega, by omega, fun z H8 c8 b8 => ?_, fun p x H8 c8 b8 lx hx => ?_⟩
        · refine ⟨os ++ [none], c4 + 1, ⟨oL.d.next c8 b8, paired_snoc (R := OpAt H8) (x := none) (y := V.non) rfl (paired_imp (fun _ _ => OpAt.tu (Tu.lst c8 oL.d.hb)) oL.ex), fun y hy => oL.lo y (by simpa using hy)⟩, by simp [lj], ⟨by omega, by omega⟩, _, rfl⟩
        · refine ⟨os ++ [some x], c4 + 1, ⟨oL.d.next c8 b8, paired_snoc (R := OpAt H8) (x := some x) (y := V.ref p) ⟨p, rfl, hx⟩ (paired_imp (fun _ _ => OpAt.tu (Tu.lst c8 oL.d.hb)) oL.ex), fun y hy => ?_⟩, by simp [lj], ⟨by omega, by omega⟩, _, rfl⟩
          rcases List.mem_append.mp hy with z | z
          · exact oL.lo y z
          · cases List.mem_singleton.mp z; exact lx
      · clear dz
        rintro ys σ H7 ⟨os, c4, oL, lj, cj, _⟩
        have lj : os.length = outs := by have : os.length = (outs : Int).toNat := lj; omega
        have cj1 := cj.lo
        have cj2 : c4 ≤ c' + 20 := by have := cj.hi; omega
        have lo := Paired.length oL.ex
        intro ol' hol'
        have tk7 : Kl [b, bl] H5 (upd H7 ol' (.lst ys)) := (oL.d.kl hb5 (by simp)).trans (Kl.new (Ch.new hol' _))
        have g8 : (upd H7 ol' (.lst ys)) ol' = some (.lst ys) := upd_same
        have d8 : DQ K H (upd H7 ol' (.lst ys)) a b ns c4 := ((d03.trans bL.d).trans oL.d).new (Ch.new hol' _)
        have oo8 := paired_imp (fun _ _ => OpAt.tu (Tu.new (HO.lst ys) hol')) oL.ex
        have gb8 : (upd H7 ol' (.lst ys)) bl = some (.lst (bps.map V.ref)) := g_new hol' (oL.d.ch.get gb (by simpa using nbl.symm))
        generalize upd H7 ol' (.lst ys) = H8 at tk7 g8 d8 oo8 gb8 ⊢
        clear hol'
        walk_at "rd"
        refine comp_list ys (fun j zs σ H' => H' = H8 ∧ (∃ ps, zs = ps.map V.ref ∧ Paired (PgAt H8) (((os.take j).filterMap id).map sg) ps) ∧ ∃ u, σ = [u]) (by rw [sizeLine_eq]; omega) ⟨rfl, ⟨[], rfl, .nil⟩, _, rfl⟩ ?_ ?_ ?_
        · rintro j zs σ H' hj ⟨rfl, ⟨ps, rfl, ws⟩, _⟩
          refine ⟨?_, SqL.of g8⟩
          have e := Paired.length ws
          rw [List.length_map] at e
          rw [List.length_map, ← e]
          exact Nat.le_trans (List.length_filterMap_le _ _) (by rw [List.length_take]; omega)
        · rintro j zs σ H' z hz ⟨rfl, ⟨ps, rfl, ws⟩, u, rfl⟩
          obtain ⟨o, eo, hz2⟩ := opget oo8 j z hz
          have tk : (os.take (j + 1)).filterMap id = (os.take j).filterMap id ++ [o].filterMap id := by rw [List.take_add_one, eo, List.filterMap_append]; rfl
          rw [tk]
          cases o with
          | none =>
            obtain rfl : z = .non := hz2
            walk_at "rd"
            exact ⟨⟨ps, rfl, by simpa using ws⟩, _, rfl⟩
          | some x =>
            obtain ⟨p, rfl, hp⟩ := hz2
            walk_at "rd"
            refine ⟨⟨ps ++ [p], by simp, ?_⟩, _, rfl⟩
            rw [List.map_append]
            exact paired_snoc (pg_sg hp) ws
        · rintro zs σ H' ⟨rfl, ⟨ps, rfl, ws⟩, _⟩
          intro ol hol
          rw [← lo, List.take_length] at ws
          walk_at "rd"
          rename_i R hR
          have cR : Ch [] H' (upd (upd H' ol (.lst (ps.map V.ref))) R (.tup [.ref bl, .ref ol])) := (Ch.new hol _).trans (Ch.new hR _)
          have kF := tk7.trans (Kl.new cR)
          have nbo : b ≠ ol := d8.nb hol
          have olo := oL.lo
          have lf : (os.filterMap id).length ≤ outs := Nat.le_trans (List.length_filterMap_le _ _) (by omega)
          have fr := bL.fr
          have okb := bL.ok
          refine q R bl ol bs (os.filterMap id) _ ⟨⟨c4, d8.new cR, by omega, by omega⟩, ⟨bps, cR.get gb8 (by simp), paired_imp (fun _ _ z => (BkL.kl kF z).weak) bb⟩, ⟨ps, g_new hR upd_same, paired_imp (fun _ _ e => PgAt.tu (Tu.same cR) e) ws⟩, by rw [lb]; exact okb, fun s hs => by rw [lb]; exact olo s (by simpa using hs), ⟨fun n => row.idxOf n, fun n hn s hs => ?_⟩, ⟨nbl.symm, nbo.symm⟩⟩ lb lf upd_same
          have sl : s ∈ looseOf bs := ls_loose hs ins (by rw [lb]; exact okb)
          refine ⟨sl, ?_⟩
          have nl := loose_lt hn
          have e1 : bs[n]? = some bs[n] := List.getElem?_eq_getElem nl
          have n0 : loB bs n = true := (List.mem_filter.mp hn).2
          have s0 : loB bs s = true := (List.mem_filter.mp sl).2
          rw [lsOf_of e1] at hs
          obtain ⟨x, hx, rfl⟩ := List.mem_map.mp hs
          obtain ⟨hx1, hx2⟩ := List.mem_filter.mp hx
          rw [Bool.and_eq_true] at hx2
          obtain ⟨⟨kb, k1, k2⟩, hf⟩ := fr n _ e1
          have kf : kb = false := by
            rw [loB_of e1, k2] at n0
            cases kb with
            | false => rfl
            | true => exact absurd n0 (by decide)
          subst kf
          rcases (hf x hx1).h k1 hx2.1 with z | z
          · have sl2 := loose_lt sl
            have e2 : bs[x.2]? = some bs[x.2] := List.getElem?_eq_getElem sl2
            obtain ⟨⟨kx, k3, k4⟩, _⟩ := fr x.2 _ e2
            rw [z] at k3
            cases k3
            rw [loB_of e2, k4] at s0
            exact absurd s0 (by decide)
          · exact z
end
end

section
local macro_rules | `(tactic| walk_at "user") => `(tactic| first | (refine Or.inl (Exists.intro _ (And.intro rfl ?_)); with_reducible assumption) | (refine Or.inr (Exists.intro _ (And.intro rfl ?_)); with_reducible assumption))
theorem Ch.inst {H : Hp} {x dx C : Addr} (hx : H x = none) (hd : H dx = none) (n : dx ≠ x) : Ch [] H (upd (upd H dx (.own x)) x (.ins C dx [])) := (Ch.new hd _).trans (Ch.new (by rw [upd_ne n.symm]; exact hx) _)
theorem Ch.forget {W : List Addr} {H H' : Hp} (c : Ch W H H') (h : ∀ w ∈ W, H w = none) : Ch [] H H' := fun a o e _ => c a o e fun z => by rw [h a z] at e; cases e
theorem Ch.made {H H' : Hp} {x dx C : Addr} (hx : H x = none) (hd : H dx = none) (n : dx ≠ x) (c : Ch [x] (upd (upd H dx (.own x)) x (.ins C dx [])) H') : Ch [] H H' :=
  Ch.forget ((Ch.inst (C := C) hx hd n).wk.trans c) (fun w hw => by rw [List.mem_singleton.mp hw]; exact hx)
structure WP (K : PySem.W.Frag) (CE c0 c1 c2 c3 c4 c6 c7 c8 c9 c10 : Addr) : Prop where
  xa : XA K CE
  k0 : PySem.W.kitOne K (.ref CE) (.ref c0) = some false
  k1 : PySem.W.kitOne K (.ref CE) (.ref c1) = some false
  k2 : PySem.W.kitOne K (.ref CE) (.ref c2) = some false
  k3 : PySem.W.kitOne K (.ref CE) (.ref c3) = some false
  k4 : PySem.W.kitOne K (.ref CE) (.ref c4) = some false
  k5 : PySem.W.kitOne K (.ref CE) (.ref CE) = some true
  k6 : PySem.W.kitOne K (.ref CE) (.ref c6) = some false
  k7 : PySem.W.kitOne K (.ref CE) (.ref c7) = some false
  k8 : PySem.W.kitOne K (.ref CE) (.ref c8) = some false
  k9 : PySem.W.kitOne K (.ref CE) (.ref c9) = some false
  k10 : PySem.W.kitOne K (.ref CE) (.ref c10) = some false
  kv : PySem.W.kitOne K (.ref CE) (.type "ValueError") = some true
def only5 : List Bool := [false, false, false, false, false, true, false, false, false, false, false]
section
variable {P : Program} {w : World} {K : PySem.W.Frag} {mg : Str → Option Value} {base : Heap} {f : Addr} {fd : FuncData} {k : Nat}
theorem gd_NoNet : Nd "NoNet" := by decide +kernel
theorem gd_NoSense : Nd "NoSense" := by decide +kernel
theorem gd_NoText : Nd "NoText" := by decide +kernel
theorem gd_NoTables : Nd "NoTables" := by decide +kernel
theorem gd_NoRow : Nd "NoRow" := by decide +kernel
theorem gd_NoRoom : Nd "NoRoom" := by decide +kernel
theorem gd_OutOfFloor : Nd "OutOfFloor" := by decide +kernel
theorem gd_NoFloor : Nd "NoFloor" := by decide +kernel
theorem gd_NoBits : Nd "NoBits" := by decide +kernel
theorem gd_NoWays : Nd "NoWays" := by decide +kernel
theorem bo_ValueError : bootBuiltins "ValueError" = some (.type "ValueError") := by decide +kernel
theorem nn_ValueError : ("ValueError" : Str) ≠ "__name__" := by decide +kernel
theorem gd_ValueError : Nd "ValueError" := by decide +kernel
theorem gd_Pack : Nd "Pack" := by decide +kernel
theorem gd_FloorError : Nd "FloorError" := by decide +kernel
theorem gd__law_only : Nd "_law_only" := by decide +kernel
theorem l33_2 : Lc (defScope (top 33)) "_law_found" := by decide +kernel
theorem g33_isinstance : Gi (defScope (top 33)) "isinstance" := by decide +kernel
theorem v33_0 : Vs (defScope (top 33)) "_law_caught" := by decide +kernel
theorem d33_0 : Nd "_law_caught" := by decide +kernel
theorem c33_0 : Nc "_law_caught" := by decide +kernel
theorem g33_NoNet : Gi (defScope (top 33)) "NoNet" := by decide +kernel
theorem g33_NoSense : Gi (defScope (top 33)) "NoSense" := by decide +kernel
theorem g33_NoText : Gi (defScope (top 33)) "NoText" := by decide +kernel
theorem v33_2 : Vs (defScope (top 33)) "_law_found" := by decide +kernel
theorem d33_2 : Nd "_law_found" := by decide +kernel
theorem c33_2 : Nc "_law_found" := by decide +kernel
theorem g33_NoPack : Gi (defScope (top 33)) "NoPack" := by decide +kernel
theorem g33_NoTables : Gi (defScope (top 33)) "NoTables" := by decide +kernel
theorem g33_NoRow : Gi (defScope (top 33)) "NoRow" := by decide +kernel
theorem g33_NoRoom : Gi (defScope (top 33)) "NoRoom" := by decide +kernel
theorem g33_OutOfFloor : Gi (defScope (top 33)) "OutOfFloor" := by decide +kernel
theorem g33_NoFloor : Gi (defScope (top 33)) "NoFloor" := by decide +kernel
theorem g33_NoBits : Gi (defScope (top 33)) "NoBits" := by decide +kernel
theorem g33_NoWays : Gi (defScope (top 33)) "NoWays" := by decide +kernel
theorem g33_len : Gi (defScope (top 33)) "len" := by decide +kernel
def csc33_0 : Scope := { kind := PySem.ScopeKind.function, names := [(PySem.Str.ofString ".0", PySem.NameKind.local), (PySem.Str.ofString "_law_one", PySem.NameKind.local)], isGenerator := false, isCoroutine := false, more := [] : PySem.Scope }
theorem cok33_0 : CompOk csc33_0 (defScope (top 33)) (["_law_one"] : List Str) (["_law_caught", "_law_kind", "_law_found"] : List Str) [] (["_law_one"] : List Str) := compOk rfl (by decide +kernel) (by decide +kernel) (by decide +kernel) (by decide +kernel) rfl (by decide +kernel)
theorem kq33_0_0 : (relab csc33_0 (defScope (top 33))).names.lookup (Str.ofString "_law_one") = some NameKind.local := by decide +kernel
theorem vq33_0_0 : Vs (relab csc33_0 (defScope (top 33))) "_law_one" := by decide +kernel
theorem dq33_0_0 : Nd "_law_one" := by decide +kernel
theorem cq33_0_0 : Nc "_law_one" := by decide +kernel
theorem g33_ValueError : Gi (defScope (top 33)) "ValueError" := by decide +kernel
theorem v33_1 : Vs (defScope (top 33)) "_law_kind" := by decide +kernel
theorem d33_1 : Nd "_law_kind" := by decide +kernel
theorem c33_1 : Nc "_law_kind" := by decide +kernel
def spOnly (CE : Addr) : Sp := fun vs H Q _ => ∃ (ea : Addr), vs = [.ref ea, .int 5] ∧ H ea = some (exO ea CE) ∧ ∀ H', Ch [] H H' → Q (.bl true) H'
theorem scOnly : FnScope ["_law_caught", "_law_kind", "_law_found"] ["_law_caught", "_law_kind"] (defScope (top 33)) := ⟨rfl, rfl, rfl, by decide +kernel, rfl, by decide +kernel, by decide +kernel⟩
theorem ok_only {CE c0 c1 c2 c3 c4 c6 c7 c8 c9 c10 : Addr} (F : Fun K "_law_only" "_law_only" (top 33) f fd) (wp : WP K CE c0 c1 c2 c3 c4 c6 c7 c8 c9 c10) (m_NoText : mg "NoText" = some (.ref c0)) (m_NoSense : mg "NoSense" = some (.ref c1)) (m_NoNet : mg "NoNet" = some (.ref c2)) (m_NoRow : mg "NoRow" = some (.ref c3)) (m_NoTables : mg "NoTables" = some (.ref c4)) (m_NoPack : mg "NoPack" = some (.ref CE)) (m_NoFloor : mg "NoFloor" = some (.ref c6)) (m_OutOfFloor : mg "OutOfFloor" = some (.ref c7)) (m_NoRoom : mg "NoRoom" = some (.ref c8)) (m_NoWays : mg "NoWays" = some (.ref c9)) (m_NoBits : mg "NoBits" = some (.ref c10)) (z_isinstance : mg "isinstance" = none) (z_ValueError : mg "ValueError" = none) (z_len : mg "len" = none) : FnOk P w K mg base CX0 (k + 1) f fd ["_law_caught", "_law_kind"] (spOnly CE) := by
  have nd := scOnly.nd
  refine F.ok scOnly (fun vs H Q E h => by obtain ⟨ea, rfl, _⟩ := h; rfl) (fun cdv A outer s H vs Q E hr h => ?_)
  obtain ⟨ea, rfl, he, q⟩ := h
  refine ⟨_, (Pr.h (qpss_cons (qps_set (i := 2) nd rfl l33_2 (qpe_lst (qpa_cons (qpe_callB call_isX g33_isinstance z_isinstance bo_isinstance (qpa_cons (qpe_var (i := 0) rfl v33_0 d33_0 c33_0) (qpa_cons (qpe_glob (v := .ref _) g33_NoText m_NoText rfl gd_NoText) qpa_nil)) nn_isinstance gd_isinstance) (qpa_cons (qpe_callB call_isX g33_isinstance z_isinstance bo_isinstance (qpa_cons (qpe_var (i := 0) rfl v33_0 d33_0 c33_0) (qpa_cons (qpe_glob (v := .ref _) g33_NoSense m_NoSense rfl gd_NoSense) qpa_nil)) nn_isinstance gd_isinstance) (qpa_cons (qpe_callB call_isX g33_isinstance z_isinstance bo_isinstance (qpa_cons (qpe_var (i := 0) rfl v33_0 d33_0 c33_0) (qpa_cons (qpe_glob (v := .ref _) g33_NoNet m_NoNet rfl gd_NoNet) qpa_nil)) nn_isinstance gd_isinstance) qpa_nil se_Call) se_Call) se_Call)))
 (qpss_cons (qps_set (i := 2) nd rfl l33_2 (qpe_op op_cat (qpe_var (i := 2) rfl v33_2 d33_2 c33_2) (qpe_lst (qpa_cons (qpe_callB call_isX g33_isinstance z_isinstance bo_isinstance (qpa_cons (qpe_var (i := 0) rfl v33_0 d33_0 c33_0) (qpa_cons (qpe_glob (v := .ref _) g33_NoRow m_NoRow rfl gd_NoRow) qpa_nil)) nn_isinstance gd_isinstance) (qpa_cons (qpe_callB call_isX g33_isinstance z_isinstance bo_isinstance (qpa_cons (qpe_var (i := 0) rfl v33_0 d33_0 c33_0) (qpa_cons (qpe_glob (v := .ref _) g33_NoTables m_NoTables rfl gd_NoTables) qpa_nil)) nn_isinstance gd_isinstance) (qpa_cons (qpe_callB call_isX g33_isinstance z_isinstance bo_isinstance (qpa_cons (qpe_var (i := 0) rfl v33_0 d33_0 c33_0) (qpa_cons (qpe_glob (v := .ref _) g33_NoPack m_NoPack rfl gd_NoPack) qpa_nil)) nn_isinstance gd_isinstance) qpa_nil se_Call) se_Call) se_Call))))
 (qpss_cons (qps_set (i := 2) nd rfl l33_2 (qpe_op op_cat (qpe_var (i := 2) rfl v33_2 d33_2 c33_2) (qpe_lst (qpa_cons (qpe_callB call_isX g33_isinstance z_isinstance bo_isinstance (qpa_cons (qpe_var (i := 0) rfl v33_0 d33_0 c33_0) (qpa_cons (qpe_glob (v := .ref _) g33_NoFloor m_NoFloor rfl gd_NoFloor) qpa_nil)) nn_isinstance gd_isinstance) (qpa_cons (qpe_callB call_isX g33_isinstance z_isinstance bo_isinstance (qpa_cons (qpe_var (i := 0) rfl v33_0 d33_0 c33_0) (qpa_cons (qpe_glob (v := .ref _) g33_OutOfFloor m_OutOfFloor rfl gd_OutOfFloor) qpa_nil)) nn_isinstance gd_isinstance) (qpa_cons (qpe_callB call_isX g33_isinstance z_isinstance bo_isinstance (qpa_cons (qpe_var (i := 0) rfl v33_0 d33_0 c33_0) (qpa_cons (qpe_glob (v := .ref _) g33_NoRoom m_NoRoom rfl gd_NoRoom) qpa_nil)) nn_isinstance gd_isinstance) qpa_nil se_Call) se_Call) se_Call))))
 (qpss_cons (qps_set (i := 2) nd rfl l33_2 (qpe_op op_cat (qpe_var (i := 2) rfl v33_2 d33_2 c33_2) (qpe_lst (qpa_cons (qpe_callB call_isX g33_isinstance z_isinstance bo_isinstance (qpa_cons (qpe_var (i := 0) rfl v33_0 d33_0 c33_0) (qpa_cons (qpe_glob (v := .ref _) g33_NoWays m_NoWays rfl gd_NoWays) qpa_nil)) nn_isinstance gd_isinstance) (qpa_cons (qpe_callB call_isX g33_isinstance z_isinstance bo_isinstance (qpa_cons (qpe_var (i := 0) rfl v33_0 d33_0 c33_0) (qpa_cons (qpe_glob (v := .ref _) g33_NoBits m_NoBits rfl gd_NoBits) qpa_nil)) nn_isinstance gd_isinstance) qpa_nil se_Call) se_Call))))
 (qpss_cons (qps_if (qPW_pt (qpw_or (qpt_not (qpt_val (qpe_callB call_isX g33_isinstance z_isinstance bo_isinstance (qpa_cons (qpe_var (i := 0) rfl v33_0 d33_0 c33_0) (qpa_cons (qpe_bltn (v := .ty "ValueError") g33_ValueError z_ValueError bo_ValueError rfl nn_ValueError gd_ValueError) qpa_nil)) nn_isinstance gd_isinstance))) (qpw_or1 (qpt_cmpR op_ne (qpe_callB call_len_seq g33_len z_len PySem.boot_len (qpa_cons (qpe_comp rfl cok33_0 (qpi_list (qpe_var (i := 2) rfl v33_2 d33_2 c33_2)) (fun _ _ _ _ _ => (qpg_name (i := 0) cok33_0.nd rfl (Or.inl kq33_0_0) (Or.inr kq33_0_0))) (fun _ _ _ _ _ => (qpif_one (qpt_val (qpe_var (i := 0) rfl vq33_0_0 dq33_0_0 cq33_0_0)))) (fun _ _ _ _ _ => (qpe_var (i := 0) rfl vq33_0_0 dq33_0_0 cq33_0_0))) qpa_nil se_ListComp) nn_len gd_len) qpe_int (nomark _)))))
  (qpss_one (qps_ret qpe_bl))
  qpss_nil)
 (qpss_one (qps_ret (qpe_ix ixa_list (qpe_var (i := 2) rfl v33_2 d33_2 c33_2) (qpe_var (i := 1) rfl v33_1 d33_1 c33_1) (fun _ _ => rfl)))))))))), ?_⟩
  (try dsimp only [cxOf])
  have xa := wp.xa
  have k0 := wp.k0
  have k1 := wp.k1
  have k2 := wp.k2
  have k3 := wp.k3
  have k4 := wp.k4
  have k5 := wp.k5
  have k6 := wp.k6
  have k7 := wp.k7
  have k8 := wp.k8
  have k9 := wp.k9
  have k10 := wp.k10
  have kv := wp.kv
  walk_at "rd"
  rename_i p1 h1 p2 h2 p3 h3 p4 h4 p5 h5 p6 h6 p7 h7
  generalize hH7 : upd _ p7 _ = H7
  have c7 : Ch [] H H7 := by rw [← hH7]; walk_at "ch"
  have g7 : H7 p7 = some (.lst (only5.map V.bl)) := by rw [← hH7]; exact upd_same
  clear hH7 h1 h2 h3 h4 h5 h6 h7
  refine comp_list (only5.map V.bl) (fun i ys σ H' => H' = H7 ∧ ys = ((only5.take i).filter id).map V.bl ∧ ∃ u, σ = [u]) (by rw [sizeLine_eq]; decide) ⟨rfl, rfl, _, rfl⟩ ?_ ?_ ?_
  · rintro i ys σ H' hi ⟨rfl, rfl, _⟩
    refine ⟨?_, SqL.of g7⟩
    rw [List.length_map]
    exact Nat.le_trans (List.length_filter_le _ _) (by rw [List.length_take]; omega)
  · rintro i ys σ H' z hz ⟨rfl, rfl, u, rfl⟩
    rw [List.getElem?_map] at hz
    obtain ⟨b, hb, rfl⟩ := Option.map_eq_some_iff.mp hz
    rw [List.take_add_one, hb, List.filter_append, List.map_append]
    cases b with
    | true => walk_at "rd"
    | false => walk_at "rd"; exact ⟨by simp, _, rfl⟩
  · rintro ys σ H' ⟨rfl, rfl, _⟩
    intro D hD
    have g8 : (upd H' D (.lst [V.bl true])) D = some (.lst [V.bl true]) := upd_same
    have g9 : (upd H' D (.lst [V.bl true])) p7 = some (.lst (only5.map V.bl)) := g_new hD g7
    have c8 : Ch [] H (upd H' D (.lst [V.bl true])) := c7.trans (Ch.new hD _)
    have e : ((only5.take (only5.map V.bl).length).filter id).map V.bl = [V.bl true] := rfl
    rw [e]
    generalize upd H' D (.lst [V.bl true]) = H8 at g8 g9 c8 ⊢
    walk_at "rd"
    exact q _ c8
theorem l35_3 : Lc (defScope (top 35)) "_law_caught" := by decide +kernel
theorem g35_Pack : Gi (defScope (top 35)) "Pack" := by decide +kernel
theorem v35_2 : Vs (defScope (top 35)) "_law_outs" := by decide +kernel
theorem d35_2 : Nd "_law_outs" := by decide +kernel
theorem c35_2 : Nc "_law_outs" := by decide +kernel
theorem v35_1 : Vs (defScope (top 35)) "_law_blocks" := by decide +kernel
theorem d35_1 : Nd "_law_blocks" := by decide +kernel
theorem c35_1 : Nc "_law_blocks" := by decide +kernel
theorem v35_0 : Vs (defScope (top 35)) "_law_ins" := by decide +kernel
theorem d35_0 : Nd "_law_ins" := by decide +kernel
theorem c35_0 : Nc "_law_ins" := by decide +kernel
theorem v35_4 : Vs (defScope (top 35)) "e" := by decide +kernel
theorem d35_4 : Nd "e" := by decide +kernel
theorem c35_4 : Nc "e" := by decide +kernel
theorem k35_4 : (defScope (top 35)).names.lookup (Str.ofString "e") = some NameKind.local := by decide +kernel
theorem g35_FloorError : Gi (defScope (top 35)) "FloorError" := by decide +kernel
theorem g35__law_only : Gi (defScope (top 35)) "_law_only" := by decide +kernel
theorem v35_3 : Vs (defScope (top 35)) "_law_caught" := by decide +kernel
theorem d35_3 : Nd "_law_caught" := by decide +kernel
theorem c35_3 : Nc "_law_caught" := by decide +kernel
def spRef : Sp := fun vs H Q _ => ∃ (kd kd2 kd3 : SK) (bl ol : Addr) (ins : Int) (bgs : List BG) (ogs : List (List V)), vs = [.int ins, .ref bl, .ref ol] ∧ AskAt kd kd2 kd3 H bl ol bgs ogs ∧ (∀ n : Nat, ins = (n : Int) → ¬ AOk n bgs ogs) ∧ ∀ H', Ch [] H H' → Q (.bl true) H'
theorem scRef : FnScope ["_law_ins", "_law_blocks", "_law_outs", "_law_caught", "e"] ["_law_ins", "_law_blocks", "_law_outs"] (defScope (top 35)) := ⟨rfl, rfl, rfl, by decide +kernel, rfl, by decide +kernel, by decide +kernel⟩
theorem ok_ref {C CE CF : Addr} (F : Fun K "_law_refused" "_law_refused" (top 35) f fd) (MkXPack : MakeOk P w K mg base (CXE P w) k C "Pack" ["self", "ins", "blocks", "outs"] (spPackX C CE)) (D_law_only : DefOk P w K mg base CX0 (k + 1) "_law_only" ["_law_caught", "_law_kind"] (spOnly CE)) (m_FloorError : mg "FloorError" = some (.ref CF)) (X_FloorError : XC K CF) (X_NoPack : XC K CE) (sub : XSub K CE CF) : FnOk P w K mg base CX0 (k + 2) f fd ["_law_ins", "_law_blocks", "_law_outs"] spRef := by
  have nd := scRef.nd
  refine F.ok scRef (fun vs H Q E h => by obtain ⟨kd, kd2, kd3, bl, ol, ins, bgs, ogs, rfl, _⟩ := h; rfl) (fun cdv A outer s H vs Q E hr h => ?_)
  obtain ⟨kd, kd2, kd3, bl, ol, ins, bgs, ogs, rfl, ask, no, q⟩ := h
  have hrm := hr
  refine ⟨_, (Pr.h (qpss_cons (qps_set (i := 3) nd rfl l35_3 qpe_non)
 (qpss_cut (qps_try (i := 4) (fun _ _ h => h) rfl rfl rfl nd rfl k35_4 g35_FloorError m_FloorError X_FloorError (psxs_one (psx_expr (pex_makeD (fun _ _ h => h) MkXPack hrm g35_Pack (qpa_cons (qpe_var (i := 0) rfl v35_0 d35_0 c35_0) (qpa_cons (qpe_var (i := 1) rfl v35_1 d35_1 c35_1) (qpa_cons (qpe_var (i := 2) rfl v35_2 d35_2 c35_2) qpa_nil se_Name) se_Name) se_Name) gd_Pack))) (fun ea => (qpss_one (qps_set (i := 3) nd rfl l35_3 (qpe_var (i := 4) rfl v35_4 d35_4 c35_4)))) gd_FloorError)
 (qpss_one (qps_ret (qpe_callD D_law_only hr g35__law_only pass0 (qpa_cons (qpe_var (i := 3) rfl v35_3 d35_3 c35_3) (qpa_cons qpe_int qpa_nil se_Constant) se_Name) gd__law_only)))))), ?_⟩
  (try dsimp only [cxOf])
  walk_at "rd"
  refine cut_by (fun σ H' => ∃ ea, σ = [some (.int ins), some (.ref bl), some (.ref ol), some (.ref ea), none] ∧ Ch [] H H' ∧ H' ea = some (exO ea CE)) ?_ ?_
  · walk_at "rd"
    rename_i x dx hx hdx nx
    refine ⟨ask.ch (Ch.inst hx hdx nx), fun n e ok => absurd ok (no n e), fun _ H1 c1 => ?_⟩
    have c2 := Ch.made hx hdx nx c1
    clear c1
    walk_at "rd"
  · rintro σ H1 ⟨ea, rfl, d1, e1⟩
    walk_at "rd"
    rename_i H2 c2
    exact q _ (d1.trans c2)
end
end

section
def rIsC (K : PySem.W.Frag) : List V → Hp → VK → Prop := fun xs H Q => ∃ (x : V) (C : Addr) (t : Value) (b : Bool), xs = [x, .ref C] ∧ TyOf K H x t ∧ PySem.W.kitOne K t (.ref C) = some b ∧ Q (.bl b) H
theorem call_isC {X : Cx} : CallR X (.builtin "isinstance") (rIsC X.K) := by
  intro pins s σ H xs us Q I r h
  obtain ⟨x, C, t, b, rfl, ty, e, q⟩ := h
  obtain ⟨u, v, rfl, ru, rv⟩ := vals2 r
  cases rv
  exact isinst_ok I ru ty e fun tk => ⟨.bl b, H, I.tok _, rfl, q⟩
def dSrc (x : Src) : Dt := .seq [.sc (.inr (wd x.1)), .sc (.inl (x.2 : Int))]
def dBk (b : Bk) : Dt := .seq [.seq (b.ss.map dSrc), .sc (.inl b.bits), .sc (.inl b.kept), .sc (.inl b.first)]
theorem DAt.up {tp : Bool} {H : Hp} : ∀ {n : Nat} {d : Dt} {v : V}, DAt tp n H d v → DAt tp (n + 1) H d v
  | 0, _, _, h => h.elim
  | n + 1, d, v, h => by
    rcases h with h | ⟨ds, p, xs, kd, e1, e2, t, s, pr, l⟩
    · exact .inl h
    · exact .inr ⟨ds, p, xs, kd, e1, e2, t, s, paired_imp (fun _ _ => DAt.up) pr, l⟩
theorem dat_sq {tp : Bool} {n : Nat} {kd : SK} {H : Hp} {ds : List Dt} {p : Addr} {xs : List V} (t : tp = true → kd = .tuple) (s : SqX kd H p xs) (pr : Paired (DAt tp n H) ds xs) (l : xs.length ≤ 300) : DAt tp (n + 1) H (.seq ds) (.ref p) := .inr ⟨ds, p, xs, kd, rfl, rfl, t, s, pr, l⟩
theorem dat_k {tp : Bool} {n : Nat} {H : Hp} (k : Key) : DAt tp (n + 1) H (.sc k) (kV k) := .inl ⟨k, rfl, rfl⟩
theorem paired_refs {α : Type} {tp : Bool} {n : Nat} {H : Hp} {g : α → Dt} {R : α → Addr → Prop} (h : ∀ x p, R x p → DAt tp n H (g x) (.ref p)) : ∀ {xs : List α} {ps : List Addr}, Paired R xs ps → Paired (DAt tp n H) (xs.map g) (ps.map V.ref)
  | _, _, .nil => .nil
  | _, _, .cons a t => .cons (h _ _ a) (paired_refs h t)
theorem dat_src {tp : Bool} {H : Hp} {x : Src} {p : Addr} (h : PgAt H (sg x) p) : DAt tp 2 H (dSrc x) (.ref p) := dat_sq (kd := .tuple) (fun _ => rfl) h.1 (.cons (dat_k (.inr (wd x.1))) (.cons (dat_k (.inl (x.2 : Int))) .nil)) (by show 2 ≤ 300; decide)
theorem dat_bk {H : Hp} {x : Bk} (l4 : x.ss.length ≤ 4) {p : Addr} (h : BkAt .tuple H x p) : DAt true 4 H (dBk x) (.ref p) := by
  obtain ⟨lp, ps, hp, hs, ws⟩ := h
  have lw := Paired.length ws
  rw [List.length_map] at lw
  exact dat_sq (kd := .tuple) (fun _ => rfl) hp (.cons (dat_sq (kd := .tuple) (fun _ => rfl) hs (paired_refs (fun _ _ e => dat_src e) (paired_unmap ws)) (by rw [List.length_map]; omega)) (.cons (dat_k (.inl x.bits)) (.cons (dat_k (.inl x.kept)) (.cons (dat_k (.inl x.first)) .nil)))) (by show 4 ≤ 300; decide)
theorem paired_mem {α β : Type} {R : α → β → Prop} {Pd : α → Prop} : ∀ {xs : List α} {ys : List β}, Paired R xs ys → (∀ x ∈ xs, Pd x) → Paired (fun x y => R x y ∧ Pd x) xs ys
  | _, _, .nil, _ => .nil
  | _, _, .cons a t, h => .cons ⟨a, h _ (by simp)⟩ (paired_mem t fun x hx => h x (by simp [hx]))
structure DrP (H : Hp) (bl ol : Addr) (bs : List Bk) (os : List Src) : Prop where
  b : ∃ ps, H bl = some (.lst (ps.map V.ref)) ∧ Paired (BkAt .list H) bs ps
  o : ∃ ps, H ol = some (.lst (ps.map V.ref)) ∧ Paired (PgAt H) (os.map sg) ps
  l4 : ∀ x ∈ bs, x.ss.length ≤ 4
  lb : bs.length ≤ 40
  lo : os.length ≤ 40
structure BD (H0 H' : Hp) (ts : List Bk) (ys : List V) : Prop where
  c : Ch [] H0 H'
  b : ∃ us : List Addr, ys = us.map V.ref ∧ Paired (BkAt .tuple H') ts us
section
variable {P : Program} {w : World} {K : PySem.W.Frag} {mg : Str → Option Value} {base : Heap} {f : Addr} {fd : FuncData} {k : Nat}
theorem l34_4 : Lc (defScope (top 34)) "_law_due" := by decide +kernel
theorem g34_tuple : Gi (defScope (top 34)) "tuple" := by decide +kernel
theorem v34_2 : Vs (defScope (top 34)) "_law_blocks" := by decide +kernel
theorem d34_2 : Nd "_law_blocks" := by decide +kernel
theorem c34_2 : Nc "_law_blocks" := by decide +kernel
def csc34_0 : Scope := { kind := PySem.ScopeKind.function, names := [ (PySem.Str.ofString ".0", PySem.NameKind.local), (PySem.Str.ofString "_law_sources", PySem.NameKind.local), (PySem.Str.ofString "_law_bits", PySem.NameKind.local), (PySem.Str.ofString "_law_kept", PySem.NameKind.local), (PySem.Str.ofString "_law_first", PySem.NameKind.local), (PySem.Str.ofString "tuple", PySem.NameKind.globalImplicit)], isGenerator := false, isCoroutine := false, more := [] : PySem.Scope }
theorem cok34_0 : CompOk csc34_0 (defScope (top 34)) (["_law_sources", "_law_bits", "_law_kept", "_law_first"] : List Str) (["_law_pack", "_law_ins", "_law_blocks", "_law_outs", "_law_due"] : List Str) [] (["_law_sources", "_law_bits", "_law_kept", "_law_first"] : List Str) := compOk rfl (by decide +kernel) (by decide +kernel) (by decide +kernel) (by decide +kernel) rfl (by decide +kernel)
theorem kq34_0_3 : (relab csc34_0 (defScope (top 34))).names.lookup (Str.ofString "_law_first") = some NameKind.local := by decide +kernel
theorem kq34_0_2 : (relab csc34_0 (defScope (top 34))).names.lookup (Str.ofString "_law_kept") = some NameKind.local := by decide +kernel
theorem kq34_0_1 : (relab csc34_0 (defScope (top 34))).names.lookup (Str.ofString "_law_bits") = some NameKind.local := by decide +kernel
theorem kq34_0_0 : (relab csc34_0 (defScope (top 34))).names.lookup (Str.ofString "_law_sources") = some NameKind.local := by decide +kernel
theorem vq34_0_3 : Vs (relab csc34_0 (defScope (top 34))) "_law_first" := by decide +kernel
theorem dq34_0_3 : Nd "_law_first" := by decide +kernel
theorem cq34_0_3 : Nc "_law_first" := by decide +kernel
theorem vq34_0_2 : Vs (relab csc34_0 (defScope (top 34))) "_law_kept" := by decide +kernel
theorem dq34_0_2 : Nd "_law_kept" := by decide +kernel
theorem cq34_0_2 : Nc "_law_kept" := by decide +kernel
theorem vq34_0_1 : Vs (relab csc34_0 (defScope (top 34))) "_law_bits" := by decide +kernel
theorem dq34_0_1 : Nd "_law_bits" := by decide +kernel
theorem cq34_0_1 : Nc "_law_bits" := by decide +kernel
theorem gq34_0_tuple : Gi (relab csc34_0 (defScope (top 34))) "tuple" := by decide +kernel
theorem vq34_0_0 : Vs (relab csc34_0 (defScope (top 34))) "_law_sources" := by decide +kernel
theorem dq34_0_0 : Nd "_law_sources" := by decide +kernel
theorem cq34_0_0 : Nc "_law_sources" := by decide +kernel
theorem g34__law_same : Gi (defScope (top 34)) "_law_same" := by decide +kernel
theorem v34_1 : Vs (defScope (top 34)) "_law_ins" := by decide +kernel
theorem d34_1 : Nd "_law_ins" := by decide +kernel
theorem c34_1 : Nc "_law_ins" := by decide +kernel
theorem v34_0 : Vs (defScope (top 34)) "_law_pack" := by decide +kernel
theorem d34_0 : Nd "_law_pack" := by decide +kernel
theorem c34_0 : Nc "_law_pack" := by decide +kernel
theorem g34_isinstance : Gi (defScope (top 34)) "isinstance" := by decide +kernel
theorem g34_Pack : Gi (defScope (top 34)) "Pack" := by decide +kernel
theorem v34_3 : Vs (defScope (top 34)) "_law_outs" := by decide +kernel
theorem d34_3 : Nd "_law_outs" := by decide +kernel
theorem c34_3 : Nc "_law_outs" := by decide +kernel
theorem v34_4 : Vs (defScope (top 34)) "_law_due" := by decide +kernel
theorem d34_4 : Nd "_law_due" := by decide +kernel
theorem c34_4 : Nc "_law_due" := by decide +kernel
def spRight (C : Addr) : Sp := fun vs H Q _ => ∃ (x dx bt ot bl ol : Addr) (ins : Nat) (bs : List Bk) (os : List Src), vs = [.ref x, .int (ins : Int), .ref bl, .ref ol] ∧ H x = some (.ins C dx (fldsP ins bt ot)) ∧ PkT H bt ot (bs.map Bk.g) (os.map sg) ∧ DrP H bl ol bs os ∧ ∀ H', Ch [] H H' → Q (.bl true) H'
theorem scRight : FnScope ["_law_pack", "_law_ins", "_law_blocks", "_law_outs", "_law_due"] ["_law_pack", "_law_ins", "_law_blocks", "_law_outs"] (defScope (top 34)) := ⟨rfl, rfl, rfl, by decide +kernel, rfl, by decide +kernel, by decide +kernel⟩
theorem ok_right {C : Addr} (F : Fun K "_law_right" "_law_right" (top 34) f fd) (D_law_same : DefOk P w K mg base CX0 k "_law_same" ["_law_found", "_law_due"] (spSame 5)) (m_Pack : mg "Pack" = some (.ref C)) (cl : Cls K C) (nI : NoAttr K C "ins") (nB : NoAttr K C "blocks") (nO : NoAttr K C "outs")
    (xcl : PySem.W.findIn K (.ref C) "__class__" = some (some (.builtin "object.__class__"))) (xsg : PySem.W.specialIn K (.builtin "object.__class__") "__get__" = some (some (.builtin "getset_descriptor.__get__"))) (xtk : PySem.W.takesIn K (.builtin "object.__class__") = some true) (xmo : PySem.W.mroIn K C (.type "object") = some true) (wC : PySem.W.kitOne K (.ref C) (.ref C) = some true) (z_isinstance : mg "isinstance" = none) (z_tuple : mg "tuple" = none) : FnOk P w K mg base CX0 (k + 1) f fd ["_law_pack", "_law_ins", "_law_blocks", "_law_outs"] (spRight C) := by
  have nd := scRight.nd
  refine F.ok scRight (fun vs H Q E h => by obtain ⟨x, dx, bt, ot, bl, ol, ins, bs, os, rfl, _⟩ := h; rfl) (fun cdv A outer s H vs Q E hr h => ?_)
  obtain ⟨x, dx, bt, ot, bl, ol, ins, bs, os, rfl, hx, pk, dr, q⟩ := h
  obtain ⟨bps, hb, bb⟩ := dr.b
  obtain ⟨ops, ho, oo⟩ := dr.o
  have lb := Paired.length bb
  have lo := Paired.length oo
  rw [List.length_map] at lo
  have b40 := dr.lb
  have o40 := dr.lo
  refine ⟨_, (Pr.h (qpss_cons (qps_set (i := 4) nd rfl l34_4 (qpe_callTy call_tuple_of g34_tuple z_tuple bo_tuple (qpa_cons (qpe_comp rfl cok34_0 (qpi_list (qpe_var (i := 2) rfl v34_2 d34_2 c34_2)) (fun _ _ _ _ _ => (qpg_tupK K 4 rfl rfl (qpgs_cons (qpg_name (i := 0) cok34_0.nd rfl (Or.inl kq34_0_0) (Or.inr kq34_0_0)) (qpgs_cons (qpg_name (i := 1) cok34_0.nd rfl (Or.inl kq34_0_1) (Or.inr kq34_0_1)) (qpgs_cons (qpg_name (i := 2) cok34_0.nd rfl (Or.inl kq34_0_2) (Or.inr kq34_0_2)) (qpgs_cons (qpg_name (i := 3) cok34_0.nd rfl (Or.inl kq34_0_3) (Or.inr kq34_0_3)) qpgs_nil)))))) (fun _ _ _ _ _ => qpif_nil) (fun _ _ _ _ _ => (qpe_tup (qpa_cons (qpe_callTy (callK_tuple_of K rfl) gq34_0_tuple z_tuple bo_tuple (qpa_cons (qpe_var (i := 0) rfl vq34_0_0 dq34_0_0 cq34_0_0) qpa_nil se_Name) nn_tuple gd_tuple) (qpa_cons (qpe_var (i := 1) rfl vq34_0_1 dq34_0_1 cq34_0_1) (qpa_cons (qpe_var (i := 2) rfl vq34_0_2 dq34_0_2 cq34_0_2) (qpa_cons (qpe_var (i := 3) rfl vq34_0_3 dq34_0_3 cq34_0_3) qpa_nil se_Name) se_Name) se_Name) se_Call)))) qpa_nil se_ListComp) nn_tuple gd_tuple))
 (qpss_cons (qps_if (qPW_pt (qpw_or (qpt_not (qpt_val (qpe_callB call_isC g34_isinstance z_isinstance bo_isinstance (qpa_cons (qpe_var (i := 0) rfl v34_0 d34_0 c34_0) (qpa_cons (qpe_glob (v := .ref _) g34_Pack m_Pack rfl gd_Pack) qpa_nil)) nn_isinstance gd_isinstance))) (qpw_or1 (qpt_not (qpt_val (qpe_callD D_law_same hr g34__law_same pass0 (qpa_cons (qpe_fld (qpe_var (i := 0) rfl v34_0 d34_0 c34_0) rfl) (qpa_cons (qpe_var (i := 1) rfl v34_1 d34_1 c34_1) qpa_nil se_Name) se_Attribute) gd__law_same))))))
  (qpss_one (qps_ret qpe_bl))
  qpss_nil)
 (qpss_one (qps_ret (qpe_and (qpe_callD D_law_same hr g34__law_same pass0 (qpa_cons (qpe_fld (qpe_var (i := 0) rfl v34_0 d34_0 c34_0) rfl) (qpa_cons (qpe_var (i := 4) rfl v34_4 d34_4 c34_4) qpa_nil se_Name) se_Attribute) gd__law_same) (qpe_one (qpe_callD D_law_same hr g34__law_same pass0 (qpa_cons (qpe_fld (qpe_var (i := 0) rfl v34_0 d34_0 c34_0) rfl) (qpa_cons (qpe_callTy call_tuple_of g34_tuple z_tuple bo_tuple (qpa_cons (qpe_var (i := 3) rfl v34_3 d34_3 c34_3) qpa_nil se_Name) nn_tuple gd_tuple) qpa_nil se_Call) se_Attribute) gd__law_same)))))))), ?_⟩
  (try dsimp only [cxOf])
  walk_at "rd"
  refine comp_list (bps.map V.ref) (fun i ys σ H' => BD H H' (bs.take i) ys ∧ ∃ u0 u1 u2 u3, σ = [u0, u1, u2, u3]) (by rw [sizeLine_eq, List.length_map]; omega) ⟨⟨Ch.refl _ _, [], rfl, .nil⟩, _, _, _, _, rfl⟩ ?_ ?_ ?_
  · rintro i ys σ H' hi ⟨⟨c, us, rfl, uu⟩, _⟩
    refine ⟨?_, SqL.of (c.get hb (by simp))⟩
    rw [List.length_map, ← Paired.length uu, List.length_take]
    omega
  · rintro i ys σ H' z hz ⟨⟨c, us, rfl, uu⟩, u0, u1, u2, u3, rfl⟩
    obtain ⟨p, t, rfl, et, tp⟩ := paired_get bb i z hz
    obtain ⟨lp, sps, hp, hs, ws⟩ := BgAt.ch c tp
    have hs : H' lp = some (.lst (sps.map V.ref)) := hs
    walk_at "rd"
    rename_i T1 h1 T2 h2
    have cT : Ch [] H' (upd (upd H' T1 (.tup (sps.map V.ref))) T2 (.tup [.ref T1, .int t.bits, .int t.kept, .int t.first])) := (Ch.new h1 _).trans (Ch.new h2 _)
    refine ⟨⟨c.trans cT, us ++ [T2], by simp, ?_⟩, _, _, _, _, rfl⟩
    rw [List.take_add_one, et]
    exact paired_snoc ⟨T1, sps, upd_same, g_new h2 upd_same, paired_imp (fun _ _ e => PgAt.tu (Tu.same cT) e) ws⟩ (paired_imp (fun _ _ => BgAt.tu (Tu.same cT)) uu)
  rintro ys σ H3 ⟨⟨c3, us, rfl, uu⟩, _⟩
  rw [List.length_map, ← lb, List.take_length] at uu
  have lu := Paired.length uu
  intro D hD
  walk_at "rd"
  rename_i Td hTd
  have c4 : Ch [] H3 (upd (upd H3 D (.lst (us.map V.ref))) Td (.tup (us.map V.ref))) := (Ch.new hD _).trans (Ch.new hTd _)
  have g4 : (upd (upd H3 D (.lst (us.map V.ref))) Td (.tup (us.map V.ref))) Td = some (.tup (us.map V.ref)) := upd_same
  have hx4 := c4.get (c3.get hx (by simp)) (by simp)
  refine ⟨TyOf.ins hx4 cl xcl xsg xtk xmo, wC, ?_⟩
  have c04 := c3.trans c4
  generalize upd (upd H3 D (.lst (us.map V.ref))) Td (.tup (us.map V.ref)) = H4 at c4 g4 hx4 c04 ⊢
  have pk4 := pk.tu (Tu.same c04)
  obtain ⟨qps, hqb, qb⟩ := pk4.b
  obtain ⟨qos, hqo, qo⟩ := pk4.o
  have lq := Paired.length qb
  have lqo := Paired.length qo
  rw [List.length_map] at lq lqo
  have d1 : DAt true 5 H4 (.seq (bs.map dBk)) (.ref bt) := dat_sq (kd := .tuple) (fun _ => rfl) hqb (paired_refs (fun x p e => dat_bk e.2 e.1) (paired_mem (paired_unmap qb) dr.l4)) (by rw [List.length_map]; omega)
  have d2 : DAt true 5 H4 (.seq (bs.map dBk)) (.ref Td) := dat_sq (kd := .tuple) (fun _ => rfl) g4 (paired_refs (fun x p e => dat_bk e.2 e.1) (paired_mem (paired_imp (fun _ _ => BgAt.tu (Tu.same c4)) uu) dr.l4)) (by rw [List.length_map]; omega)
  have e2 : ∀ H', Ch [] H4 H' → EqvS 5 H' (.ref bt) (.ref Td) := fun H' c => ⟨(DAt.eqv d1 d2).ch c⟩
  have d3 : DAt true 3 H4 (.seq (os.map dSrc)) (.ref ot) := dat_sq (kd := .tuple) (fun _ => rfl) hqo (paired_refs (fun x p e => dat_src e) (paired_unmap qo)) (by rw [List.length_map]; omega)
  have ho4 := c04.get ho (by simp)
  have oo4 := paired_imp (fun _ _ e => PgAt.tu (Tu.same c04) e) oo
  clear d1 d2 c4 uu hD hTd pk4 qb qo
  walk_at "rd"
  refine ⟨⟨.inl ⟨.inl _, rfl, rfl⟩⟩, fun H5 c5 => ?_⟩
  have hx5 := c5.get hx4 (by simp)
  walk_at "rd"
  refine ⟨e2 _ c5, fun H6 c6 => ?_⟩
  have hx6 := c6.get hx5 (by simp)
  have ho6 := c6.get (c5.get ho4 (by simp)) (by simp)
  walk_at "rd"
  rename_i To hTo
  have c7 : Ch [] H4 (upd H6 To (.tup (ops.map V.ref))) := (c5.trans c6).trans (Ch.new hTo _)
  have d4 : DAt true 3 (upd H6 To (.tup (ops.map V.ref))) (.seq (os.map dSrc)) (.ref To) := dat_sq (kd := .tuple) (fun _ => rfl) upd_same (paired_refs (fun x p e => dat_src e) (paired_unmap (paired_imp (fun _ _ e => PgAt.tu (Tu.same c7) e) oo4))) (by rw [List.length_map]; omega)
  exact ⟨⟨DAt.eqv (DAt.up (DAt.up (d3.ch c7))) (DAt.up (DAt.up d4))⟩, fun H8 c8 => q _ ((c04.trans c7).trans c8)⟩
end
end

section
theorem bk_pl {a c : Nat} {ls : List (List V)} {x : List V} {b k f : Int} (h : x ∈ ls) (no : plB a c x = false) : bkB a c (.bk ls b k f) = false := by
  have e : ls.all (plB a c) = false := List.all_eq_false.mpr ⟨x, h, by rw [no]; exact Bool.false_ne_true⟩
  show ((decide (ls.length ≤ 4) && (belB (.int b) (rm ls.length) && ls.all (plB a c))) && _) = false
  rw [e, Bool.and_false, Bool.and_false, Bool.false_and]
theorem bk_bits {a c : Nat} {ls : List (List V)} {b k f : Int} (no : belB (.int b) (rm ls.length) = false) : bkB a c (.bk ls b k f) = false := by
  show ((decide (ls.length ≤ 4) && (belB (.int b) (rm ls.length) && ls.all (plB a c))) && _) = false
  rw [no, Bool.false_and, Bool.and_false, Bool.false_and]
theorem bk_len {a c : Nat} {ls : List (List V)} {b k f : Int} (no : 4 < ls.length) : bkB a c (.bk ls b k f) = false := by
  show ((decide (ls.length ≤ 4) && (belB (.int b) (rm ls.length) && ls.all (plB a c))) && _) = false
  rw [decide_eq_false (by omega), Bool.false_and, Bool.false_and]
theorem bk_kept {a c : Nat} {ls : List (List V)} {b k f : Int} (no : belB (.int k) 2 = false) : bkB a c (.bk ls b k f) = false := by
  show (_ && (belB (.int k) 2 && belB (.int f) (k + 1))) = false
  rw [no, Bool.false_and, Bool.and_false]
theorem bk_first {a c : Nat} {ls : List (List V)} {b k f : Int} (no : belB (.int f) (k + 1) = false) : bkB a c (.bk ls b k f) = false := by
  show (_ && (belB (.int k) 2 && belB (.int f) (k + 1))) = false
  rw [no, Bool.and_false, Bool.and_false]
theorem plB_no {a c : Nat} {x : Bool} {n : Int} (h : n < 0 ∨ (lim a c x : Int) ≤ n) : plB a c [.str (wd x), .int n] = false := by
  rw [plB_w]
  rcases h with h | h
  · rw [decide_eq_false (by omega : ¬ 0 ≤ n)]; rfl
  · rw [decide_eq_false (by omega : ¬ n < (lim a c x : Int)), Bool.and_false]
structure Sn (ins n : Nat) (H : Hp) (g : BG) (p : Addr) : Prop where
  b : BgAt .list H g p
  no : bkB ins (n + 1) g = false ∨ g = Bk.g ⟨[(true, n)], 0, 0, 0⟩
def Sv (ins n : Nat) (H : Hp) (v : V) : Prop := ∃ p g, v = .ref p ∧ Sn ins n H g p
theorem Sv.ch {ins n : Nat} {H H' : Hp} {v : V} (s : Sv ins n H v) (c : Ch [] H H') : Sv ins n H' v := let ⟨p, g, e, s⟩ := s; ⟨p, g, e, s.b.ch c, s.no⟩
theorem sv1 {ins n : Nat} {H : Hp} {p lp tp : Addr} {xs : List V} {b k f : Int} (h1 : H p = some (.tup [.ref lp, .int b, .int k, .int f])) (h2 : H lp = some (.lst [.ref tp])) (h3 : H tp = some (.tup xs)) (px : PX xs) (no : bkB ins (n + 1) (.bk [xs] b k f) = false ∨ BG.bk [xs] b k f = Bk.g ⟨[(true, n)], 0, 0, 0⟩) : Sv ins n H (.ref p) :=
  ⟨p, .bk [xs] b k f, rfl, ⟨lp, [tp], h1, h2, .cons ⟨h3, px⟩ .nil⟩, no⟩
theorem sv0 {ins n : Nat} {H : Hp} {p lp : Addr} {b k f : Int} (h1 : H p = some (.tup [.ref lp, .int b, .int k, .int f])) (h2 : H lp = some (.lst [])) (no : bkB ins (n + 1) (.bk [] b k f) = false) : Sv ins n H (.ref p) :=
  ⟨p, .bk [] b k f, rfl, ⟨lp, [], h1, h2, .nil⟩, .inl no⟩
theorem svo {ins n : Nat} {H : Hp} {p : Addr} {ys : List V} (h1 : H p = some (.tup ys)) (l : ys.length ≠ 4) : Sv ins n H (.ref p) := ⟨p, .odd, rfl, ⟨ys, h1, l⟩, .inl rfl⟩
theorem paired_rep {α β : Type} {R : α → β → Prop} {x : α} {y : β} (h : R x y) : ∀ n : Nat, Paired R (List.replicate n x) (List.replicate n y)
  | 0 => .nil
  | n + 1 => .cons h (paired_rep h n)
theorem svr {ins n m : Nat} {H : Hp} {p lp tp : Addr} {xs : List V} {b k f : Int} (h1 : H p = some (.tup [.ref lp, .int b, .int k, .int f])) (h2 : H lp = some (.lst ((List.replicate m tp).map V.ref))) (h3 : H tp = some (.tup xs)) (px : PX xs) (no : bkB ins (n + 1) (.bk (List.replicate m xs) b k f) = false) : Sv ins n H (.ref p) :=
  ⟨p, .bk (List.replicate m xs) b k f, rfl, ⟨lp, List.replicate m tp, h1, h2, paired_rep ⟨h3, px⟩ m⟩, .inl no⟩
section
variable {P : Program} {w : World} {K : PySem.W.Frag} {mg : Str → Option Value} {base : Heap} {f : Addr} {fd : FuncData} {k : Nat}
theorem l36_3 : Lc (defScope (top 36)) "_law_many" := by decide +kernel
theorem g36_len : Gi (defScope (top 36)) "len" := by decide +kernel
theorem v36_2 : Vs (defScope (top 36)) "_law_blocks" := by decide +kernel
theorem d36_2 : Nd "_law_blocks" := by decide +kernel
theorem c36_2 : Nc "_law_blocks" := by decide +kernel
theorem l36_4 : Lc (defScope (top 36)) "_law_far" := by decide +kernel
theorem v36_0 : Vs (defScope (top 36)) "_law_m" := by decide +kernel
theorem d36_0 : Nd "_law_m" := by decide +kernel
theorem c36_0 : Nc "_law_m" := by decide +kernel
theorem l36_5 : Lc (defScope (top 36)) "_law_some" := by decide +kernel
theorem v36_3 : Vs (defScope (top 36)) "_law_many" := by decide +kernel
theorem d36_3 : Nd "_law_many" := by decide +kernel
theorem c36_3 : Nc "_law_many" := by decide +kernel
theorem v36_4 : Vs (defScope (top 36)) "_law_far" := by decide +kernel
theorem d36_4 : Nd "_law_far" := by decide +kernel
theorem c36_4 : Nc "_law_far" := by decide +kernel
theorem v36_1 : Vs (defScope (top 36)) "_law_ins" := by decide +kernel
theorem d36_1 : Nd "_law_ins" := by decide +kernel
theorem c36_1 : Nc "_law_ins" := by decide +kernel
theorem v36_5 : Vs (defScope (top 36)) "_law_some" := by decide +kernel
theorem d36_5 : Nd "_law_some" := by decide +kernel
theorem c36_5 : Nc "_law_some" := by decide +kernel
def spStr : Sp := fun vs H Q _ => ∃ (m : Int) (ins : Nat) (bl : Addr) (xs : List V), vs = [.int m, .int (ins : Int), .ref bl] ∧ 0 ≤ m ∧ H bl = some (.lst xs) ∧ ∀ p g H', Ch [] H H' → Sn ins xs.length H' g p → Q (.ref p) H'
theorem scStr : FnScope ["_law_m", "_law_ins", "_law_blocks", "_law_many", "_law_far", "_law_some"] ["_law_m", "_law_ins", "_law_blocks"] (defScope (top 36)) := ⟨rfl, rfl, rfl, by decide +kernel, rfl, by decide +kernel, by decide +kernel⟩
structure SI (ins n : Nat) (H0 H : Hp) (l : Addr) (vs : List V) : Prop where
  c : Ch [] H0 H
  g : H l = some (.lst vs)
  s : ∀ v ∈ vs, Sv ins n H v
theorem ok_str (F : Fun K "_law_strange" "_law_strange" (top 36) f fd) (z_len : mg "len" = none) : FnOk P w K mg base CX0 (k + 1) f fd ["_law_m", "_law_ins", "_law_blocks"] spStr := by
  have nd := scStr.nd
  refine F.ok scStr (fun vs H Q E h => by obtain ⟨m, ins, bl, xs, rfl, _⟩ := h; rfl) (fun cdv A outer s H vs Q E hr h => ?_)
  obtain ⟨m, ins, bl, xs, rfl, m0, hb, q⟩ := h
  refine ⟨_, (Pr.h (qpss_cons (qps_set (i := 3) nd rfl l36_3 (qpe_op op_add (qpe_callB call_len_seq g36_len z_len PySem.boot_len (qpa_cons (qpe_var (i := 2) rfl v36_2 d36_2 c36_2) qpa_nil se_Name) nn_len gd_len) qpe_int))
 (qpss_cut (qps_set (i := 4) nd rfl l36_4 (qpe_ix ixa_list (qpe_lst (qpa_cons qpe_int (qpa_cons qpe_int (qpa_cons (qpe_op op_pow qpe_int qpe_int) qpa_nil se_BinOp) se_Constant) se_Constant)) (qpe_op op_mod (qpe_op op_fdivW (qpe_var (i := 0) rfl v36_0 d36_0 c36_0) qpe_int) qpe_int) (fun _ _ => rfl)))
 (qpss_cut (qps_set (i := 5) nd rfl l36_5 (qpe_lst (qpa_cons (qpe_tup (qpa_cons (qpe_lst (qpa_cons (qpe_tup (qpa_cons qpe_str (qpa_cons (qpe_op op_add (qpe_op op_sub (qpe_var (i := 1) rfl v36_1 d36_1 c36_1) qpe_int) (qpe_var (i := 4) rfl v36_4 d36_4 c36_4)) qpa_nil se_BinOp) se_Constant)) qpa_nil se_Tuple)) (qpa_cons qpe_int (qpa_cons qpe_int (qpa_cons qpe_int qpa_nil se_Constant) se_Constant) se_Constant) se_List)) (qpa_cons (qpe_tup (qpa_cons (qpe_lst (qpa_cons (qpe_tup (qpa_cons qpe_str (qpa_cons (qpe_op op_add (qpe_op op_sub (qpe_var (i := 3) rfl v36_3 d36_3 c36_3) qpe_int) (qpe_var (i := 4) rfl v36_4 d36_4 c36_4)) qpa_nil se_BinOp) se_Constant)) qpa_nil se_Tuple)) (qpa_cons qpe_int (qpa_cons qpe_int (qpa_cons qpe_int qpa_nil se_Constant) se_Constant) se_Constant) se_List)) (qpa_cons (qpe_tup (qpa_cons (qpe_lst (qpa_cons (qpe_tup (qpa_cons qpe_str (qpa_cons (qpe_un un_neg qpe_int) qpa_nil se_UnaryOp) se_Constant)) qpa_nil se_Tuple)) (qpa_cons qpe_int (qpa_cons qpe_int (qpa_cons qpe_int qpa_nil se_Constant) se_Constant) se_Constant) se_List)) qpa_nil se_Tuple) se_Tuple) se_Tuple)))
 (qpss_cut (qps_set (i := 5) nd rfl l36_5 (qpe_op op_cat (qpe_var (i := 5) rfl v36_5 d36_5 c36_5) (qpe_lst (qpa_cons (qpe_tup (qpa_cons (qpe_lst (qpa_cons (qpe_tup (qpa_cons qpe_str (qpa_cons qpe_int qpa_nil se_Constant) se_Constant)) qpa_nil se_Tuple)) (qpa_cons qpe_int (qpa_cons qpe_int (qpa_cons qpe_int qpa_nil se_Constant) se_Constant) se_Constant) se_List)) (qpa_cons (qpe_tup (qpa_cons (qpe_lst (qpa_cons (qpe_tup (qpa_cons qpe_str qpa_nil se_Constant)) qpa_nil se_Tuple)) (qpa_cons qpe_int (qpa_cons qpe_int (qpa_cons qpe_int qpa_nil se_Constant) se_Constant) se_Constant) se_List)) (qpa_cons (qpe_tup (qpa_cons (qpe_lst (qpa_cons (qpe_tup (qpa_cons qpe_str (qpa_cons (qpe_un un_neg (qpe_var (i := 4) rfl v36_4 d36_4 c36_4)) qpa_nil se_UnaryOp) se_Constant)) qpa_nil se_Tuple)) (qpa_cons qpe_int (qpa_cons qpe_int (qpa_cons qpe_int qpa_nil se_Constant) se_Constant) se_Constant) se_List)) (qpa_cons (qpe_tup (qpa_cons (qpe_lst qpa_nil) (qpa_cons qpe_int (qpa_cons qpe_int (qpa_cons qpe_int qpa_nil se_Constant) se_Constant) se_Constant) se_List)) qpa_nil se_Tuple) se_Tuple) se_Tuple) se_Tuple))))
 (qpss_cut (qps_set (i := 5) nd rfl l36_5 (qpe_op op_cat (qpe_var (i := 5) rfl v36_5 d36_5 c36_5) (qpe_lst (qpa_cons (qpe_tup (qpa_cons (qpe_lst qpa_nil) (qpa_cons (qpe_un un_neg qpe_int) (qpa_cons qpe_int (qpa_cons qpe_int qpa_nil se_Constant) se_Constant) se_UnaryOp) se_List)) (qpa_cons (qpe_tup (qpa_cons (qpe_lst qpa_nil) (qpa_cons qpe_int (qpa_cons qpe_int (qpa_cons qpe_int qpa_nil se_Constant) se_Constant) se_Constant) se_List)) (qpa_cons (qpe_tup (qpa_cons (qpe_lst qpa_nil) (qpa_cons qpe_int (qpa_cons (qpe_un un_neg qpe_int) (qpa_cons qpe_int qpa_nil se_Constant) se_UnaryOp) se_Constant) se_List)) (qpa_cons (qpe_tup (qpa_cons (qpe_lst qpa_nil) (qpa_cons qpe_int (qpa_cons qpe_int (qpa_cons qpe_int qpa_nil se_Constant) se_Constant) se_Constant) se_List)) (qpa_cons (qpe_tup (qpa_cons (qpe_lst qpa_nil) (qpa_cons qpe_int (qpa_cons qpe_int (qpa_cons qpe_int qpa_nil se_Constant) se_Constant) se_Constant) se_List)) (qpa_cons (qpe_tup (qpa_cons (qpe_lst qpa_nil) (qpa_cons qpe_int (qpa_cons qpe_int qpa_nil se_Constant) se_Constant) se_List)) qpa_nil se_Tuple) se_Tuple) se_Tuple) se_Tuple) se_Tuple) se_Tuple))))
 (qpss_cut (qps_set (i := 5) nd rfl l36_5 (qpe_op op_cat (qpe_var (i := 5) rfl v36_5 d36_5 c36_5) (qpe_lst (qpa_cons (qpe_tup (qpa_cons (qpe_lst qpa_nil) (qpa_cons qpe_int (qpa_cons qpe_int (qpa_cons qpe_int (qpa_cons qpe_int qpa_nil se_Constant) se_Constant) se_Constant) se_Constant) se_List)) (qpa_cons (qpe_tup (qpa_cons (qpe_op op_rep (qpe_lst (qpa_cons (qpe_tup (qpa_cons qpe_str (qpa_cons (qpe_op op_sub (qpe_var (i := 3) rfl v36_3 d36_3 c36_3) qpe_int) qpa_nil se_BinOp) se_Constant)) qpa_nil se_Tuple)) qpe_int) (qpa_cons qpe_int (qpa_cons qpe_int (qpa_cons qpe_int qpa_nil se_Constant) se_Constant) se_Constant) se_BinOp)) (qpa_cons (qpe_tup (qpa_cons (qpe_lst (qpa_cons (qpe_tup (qpa_cons qpe_str (qpa_cons (qpe_op op_sub (qpe_var (i := 3) rfl v36_3 d36_3 c36_3) qpe_int) qpa_nil se_BinOp) se_Constant)) qpa_nil se_Tuple)) (qpa_cons qpe_int (qpa_cons qpe_int (qpa_cons qpe_int qpa_nil se_Constant) se_Constant) se_Constant) se_List)) qpa_nil se_Tuple) se_Tuple) se_Tuple))))
 (qpss_cut (qps_set (i := 5) nd rfl l36_5 (qpe_op op_cat (qpe_var (i := 5) rfl v36_5 d36_5 c36_5) (qpe_lst (qpa_cons (qpe_tup (qpa_cons (qpe_lst (qpa_cons (qpe_tup (qpa_cons qpe_str (qpa_cons (qpe_op op_sub (qpe_var (i := 3) rfl v36_3 d36_3 c36_3) qpe_int) qpa_nil se_BinOp) se_Constant)) qpa_nil se_Tuple)) (qpa_cons qpe_int (qpa_cons qpe_int (qpa_cons qpe_int qpa_nil se_Constant) se_Constant) se_Constant) se_List)) (qpa_cons (qpe_tup (qpa_cons (qpe_op op_rep (qpe_lst (qpa_cons (qpe_tup (qpa_cons qpe_str (qpa_cons (qpe_op op_sub (qpe_var (i := 3) rfl v36_3 d36_3 c36_3) qpe_int) qpa_nil se_BinOp) se_Constant)) qpa_nil se_Tuple)) qpe_int) (qpa_cons qpe_int (qpa_cons qpe_int (qpa_cons qpe_int qpa_nil se_Constant) se_Constant) se_Constant) se_BinOp)) qpa_nil se_Tuple) se_Tuple))))
 (qpss_one (qps_ret (qpe_ix ixa_list (qpe_var (i := 5) rfl v36_5 d36_5 c36_5) (qpe_op op_mod (qpe_var (i := 0) rfl v36_0 d36_0 c36_0) qpe_int) (fun _ _ => rfl)))))))))))), ?_⟩
  (try dsimp only [cxOf])
  obtain ⟨far, hfar, f1⟩ : ∃ far : Int, atI [V.int 1, V.int 2, V.int 100000000000000000000] (m / 50 % 3) = some (.int far) ∧ 1 ≤ far := by
    have : m / 50 % 3 = 0 ∨ m / 50 % 3 = 1 ∨ m / 50 % 3 = 2 := by omega
    rcases this with h | h | h <;> rw [h] <;> exact ⟨_, rfl, by decide⟩
  walk_at "rd"
  refine cut_by (fun σ H' => σ = [some (.int m), some (.int (ins : Int)), some (.ref bl), some (.int ((xs.length : Int) + 1)), some (.int far), none] ∧ Ch [] H H') ?_ ?_
  · walk_at "rd"
    refine Atx.of (show atI [V.int 1, V.int 2, V.int (10 ^ (20 : Int).toNat)] (m / 50 % 3) = _ from hfar) ?_
    walk_at "rd"
  rintro σ H1 ⟨rfl, c1⟩
  clear hfar
  refine cut_by (fun σ H' => ∃ (l : Addr) (vs : List V), σ = [some (.int m), some (.int (ins : Int)), some (.ref bl), some (.int ((xs.length : Int) + 1)), some (.int far), some (.ref l)] ∧ SI ins xs.length H H' l vs ∧ vs.length = 3) ?_ ?_
  · walk_at "rd"
    rename_i a1 b1 a2 b2 a3 b3 a4 b4 a5 b5 a6 b6 a7 b7 a8 b8 a9 b9 a10 b10
    dsimp only at *
    refine (fun st => ⟨st, rfl⟩) (?_ : SI ins xs.length H _ a10 [V.ref a3, V.ref a6, V.ref a9])
    generalize hH9 : upd _ a10 _ = H9
    have c9 : Ch [] H1 H9 := by rw [← hH9]; walk_at "ch"
    refine ⟨c1.trans c9, by rw [← hH9]; exact upd_same, fun v hv => ?_⟩
    simp only [List.mem_cons, List.not_mem_nil, or_false] at hv
    rcases hv with rfl | rfl | rfl
    · exact sv1 (tp := a1) (lp := a2) (xs := [.str "in", .int ((ins : Int) - 1 + far)]) (by rw [← hH9]; walk_at "get") (by rw [← hH9]; walk_at "get") (by rw [← hH9]; walk_at "get") (.inr ⟨_, _, rfl⟩) (.inl (bk_pl (List.mem_singleton.mpr rfl) (plB_no (x := false) (.inr (by show (ins : Int) ≤ ins - 1 + far; omega)))))
    · exact sv1 (tp := a4) (lp := a5) (xs := [.str "block", .int ((xs.length : Int) + 1 - 1 + far)]) (by rw [← hH9]; walk_at "get") (by rw [← hH9]; walk_at "get") (by rw [← hH9]; walk_at "get") (.inr ⟨_, _, rfl⟩) (.inl (bk_pl (List.mem_singleton.mpr rfl) (plB_no (x := true) (.inr (by show ((xs.length + 1 : Nat) : Int) ≤ (xs.length : Int) + 1 - 1 + far; omega)))))
    · exact sv1 (tp := a7) (lp := a8) (xs := [.str "in", .int (-1)]) (by rw [← hH9]; walk_at "get") (by rw [← hH9]; walk_at "get") (by rw [← hH9]; walk_at "get") (.inr ⟨_, _, rfl⟩) (.inl (bk_pl (List.mem_singleton.mpr rfl) (plB_no (x := false) (.inl (by decide)))))
  rintro σ H2 ⟨l, vs, rfl, si, lv⟩
  have gl := si.g
  refine cut_by (fun σ H' => ∃ (l : Addr) (vs : List V), σ = [some (.int m), some (.int (ins : Int)), some (.ref bl), some (.int ((xs.length : Int) + 1)), some (.int far), some (.ref l)] ∧ SI ins xs.length H H' l vs ∧ vs.length = 7) ?_ ?_
  · walk_at "rd"
    rename_i a1 b1 a2 b2 a3 b3 a4 b4 a5 b5 a6 b6 a7 b7 a8 b8 a9 b9 a10 b10 a11 b11 a12 b12 a13 b13
    dsimp only at *
    refine (fun st => ⟨st, by simp [lv]⟩) (?_ : SI ins xs.length H _ a13 (vs ++ [V.ref a3, V.ref a6, V.ref a9, V.ref a11]))
    generalize hH9 : upd _ a13 _ = H9
    have c9 : Ch [] H2 H9 := by rw [← hH9]; walk_at "ch"
    refine ⟨si.c.trans c9, by rw [← hH9]; exact upd_same, fun v hv => ?_⟩
    rcases List.mem_append.mp hv with hv | hv
    · exact (si.s v hv).ch c9
    simp only [List.mem_cons, List.not_mem_nil, or_false] at hv
    rcases hv with rfl | rfl | rfl | rfl
    · exact sv1 (tp := a1) (lp := a2) (xs := [.str "out", .int 0]) (by rw [← hH9]; walk_at "get") (by rw [← hH9]; walk_at "get") (by rw [← hH9]; walk_at "get") (.inr ⟨_, _, rfl⟩) (.inl (bk_pl (List.mem_singleton.mpr rfl) rfl))
    · exact sv1 (tp := a4) (lp := a5) (xs := [.str "in"]) (by rw [← hH9]; walk_at "get") (by rw [← hH9]; walk_at "get") (by rw [← hH9]; walk_at "get") (.inl (by decide)) (.inl (bk_pl (List.mem_singleton.mpr rfl) rfl))
    · exact sv1 (tp := a7) (lp := a8) (xs := [.str "block", .int (-far)]) (by rw [← hH9]; walk_at "get") (by rw [← hH9]; walk_at "get") (by rw [← hH9]; walk_at "get") (.inr ⟨_, _, rfl⟩) (.inl (bk_pl (List.mem_singleton.mpr rfl) (plB_no (x := true) (.inl (by omega)))))
    · exact sv0 (lp := a10) (by rw [← hH9]; walk_at "get") (by rw [← hH9]; walk_at "get") (bk_bits (by decide +kernel))
  clear si gl lv
  rintro σ H3 ⟨l, vs, rfl, si, lv⟩
  have gl := si.g
  refine cut_by (fun σ H' => ∃ (l : Addr) (vs : List V), σ = [some (.int m), some (.int (ins : Int)), some (.ref bl), some (.int ((xs.length : Int) + 1)), some (.int far), some (.ref l)] ∧ SI ins xs.length H H' l vs ∧ vs.length = 13) ?_ ?_
  · walk_at "rd"
    rename_i a1 b1 a2 b2 a3 b3 a4 b4 a5 b5 a6 b6 a7 b7 a8 b8 a9 b9 a10 b10 a11 b11 a12 b12 a13 b13 a14 b14
    dsimp only at *
    refine (fun st => ⟨st, by simp [lv]⟩) (?_ : SI ins xs.length H _ a14 (vs ++ [V.ref a2, V.ref a4, V.ref a6, V.ref a8, V.ref a10, V.ref a12]))
    generalize hH9 : upd _ a14 _ = H9
    have c9 : Ch [] H3 H9 := by rw [← hH9]; walk_at "ch"
    refine ⟨si.c.trans c9, by rw [← hH9]; exact upd_same, fun v hv => ?_⟩
    rcases List.mem_append.mp hv with hv | hv
    · exact (si.s v hv).ch c9
    simp only [List.mem_cons, List.not_mem_nil, or_false] at hv
    rcases hv with rfl | rfl | rfl | rfl | rfl | rfl
    · exact sv0 (lp := a1) (by rw [← hH9]; walk_at "get") (by rw [← hH9]; walk_at "get") (bk_bits (by decide +kernel))
    · exact sv0 (lp := a3) (by rw [← hH9]; walk_at "get") (by rw [← hH9]; walk_at "get") (bk_kept (by decide +kernel))
    · exact sv0 (lp := a5) (by rw [← hH9]; walk_at "get") (by rw [← hH9]; walk_at "get") (bk_kept (by decide +kernel))
    · exact sv0 (lp := a7) (by rw [← hH9]; walk_at "get") (by rw [← hH9]; walk_at "get") (bk_first (by decide +kernel))
    · exact sv0 (lp := a9) (by rw [← hH9]; walk_at "get") (by rw [← hH9]; walk_at "get") (bk_first (by decide +kernel))
    · exact svo (by rw [← hH9]; walk_at "get") (by show 3 ≠ 4; decide)
  clear si gl lv
  rintro σ H4 ⟨l, vs, rfl, si, lv⟩
  have gl := si.g
  refine cut_by (fun σ H' => ∃ (l : Addr) (vs : List V), σ = [some (.int m), some (.int (ins : Int)), some (.ref bl), some (.int ((xs.length : Int) + 1)), some (.int far), some (.ref l)] ∧ SI ins xs.length H H' l vs ∧ vs.length = 16) ?_ ?_
  · walk_at "rd"
    rename_i a1 b1 a2 b2 a3 b3 a4 b4 a5 b5 a6 b6 a7 b7 a8 b8 a9 b9 a10 b10 a11 b11
    dsimp only at *
    refine (fun st => ⟨st, by simp [lv]⟩) (?_ : SI ins xs.length H _ a11 (vs ++ [V.ref a2, V.ref a6, V.ref a9]))
    generalize hH9 : upd _ a11 _ = H9
    have c9 : Ch [] H4 H9 := by rw [← hH9]; walk_at "ch"
    refine ⟨si.c.trans c9, by rw [← hH9]; exact upd_same, fun v hv => ?_⟩
    rcases List.mem_append.mp hv with hv | hv
    · exact (si.s v hv).ch c9
    simp only [List.mem_cons, List.not_mem_nil, or_false] at hv
    rcases hv with rfl | rfl | rfl
    · exact svo (by rw [← hH9]; walk_at "get") (by show 5 ≠ 4; decide)
    · exact svr (m := 5) (tp := a3) (lp := a5) (xs := [.str "block", .int ((xs.length : Int) + 1 - 1)]) (by rw [← hH9]; walk_at "get") (by rw [← hH9]; walk_at "get") (by rw [← hH9]; walk_at "get") (.inr ⟨_, _, rfl⟩) (bk_len (by show 4 < 5; decide))
    · exact sv1 (tp := a7) (lp := a8) (xs := [.str "block", .int ((xs.length : Int) + 1 - 1)]) (by rw [← hH9]; walk_at "get") (by rw [← hH9]; walk_at "get") (by rw [← hH9]; walk_at "get") (.inr ⟨_, _, rfl⟩) (.inl (bk_bits (show belB (.int 4) (rm 1) = false from by decide +kernel)))
  clear si gl lv
  rintro σ H5 ⟨l, vs, rfl, si, lv⟩
  have gl := si.g
  refine cut_by (fun σ H' => ∃ (l : Addr) (vs : List V), σ = [some (.int m), some (.int (ins : Int)), some (.ref bl), some (.int ((xs.length : Int) + 1)), some (.int far), some (.ref l)] ∧ SI ins xs.length H H' l vs ∧ vs.length = 18) ?_ ?_
  · walk_at "rd"
    rename_i a1 b1 a2 b2 a3 b3 a4 b4 a5 b5 a6 b6 a7 b7 a8 b8 a9 b9
    dsimp only at *
    refine (fun st => ⟨st, by simp [lv]⟩) (?_ : SI ins xs.length H _ a9 (vs ++ [V.ref a3, V.ref a7]))
    generalize hH9 : upd _ a9 _ = H9
    have c9 : Ch [] H5 H9 := by rw [← hH9]; walk_at "ch"
    refine ⟨si.c.trans c9, by rw [← hH9]; exact upd_same, fun v hv => ?_⟩
    rcases List.mem_append.mp hv with hv | hv
    · exact (si.s v hv).ch c9
    simp only [List.mem_cons, List.not_mem_nil, or_false] at hv
    rcases hv with rfl | rfl
    · exact sv1 (tp := a1) (lp := a2) (xs := [.str "block", .int ((xs.length : Int) + 1 - 1)]) (by rw [← hH9]; walk_at "get") (by rw [← hH9]; walk_at "get") (by rw [← hH9]; walk_at "get") (.inr ⟨_, _, rfl⟩) (.inr (by show BG.bk [[.str "block", .int ((xs.length : Int) + 1 - 1)]] 0 0 0 = BG.bk [[.str "block", .int (xs.length : Int)]] 0 0 0; rw [Int.add_sub_cancel]))
    · exact svr (m := 4) (tp := a4) (lp := a6) (xs := [.str "block", .int ((xs.length : Int) + 1 - 1)]) (by rw [← hH9]; walk_at "get") (by rw [← hH9]; walk_at "get") (by rw [← hH9]; walk_at "get") (.inr ⟨_, _, rfl⟩) (bk_bits (show belB (.int 65536) (rm 4) = false from by decide +kernel))
  clear si gl lv
  rintro σ H6 ⟨l, vs, rfl, si, lv⟩
  have gl := si.g
  walk_at "rd"
  refine Atx.any (Int.emod_nonneg _ (by decide)) (by rw [lv]; show m % 18 < 18; omega) (fun v hv _ => ?_)
  obtain ⟨p, g, rfl, sn⟩ := si.s v hv
  exact q p g _ si.c sn
end
end

section
theorem paired_app {α β : Type} {R : α → β → Prop} : ∀ {xs : List α} {ys : List β} {xs' : List α} {ys' : List β}, Paired R xs ys → Paired R xs' ys' → Paired R (xs ++ xs') (ys ++ ys')
  | _, _, _, _, .nil, h => h
  | _, _, _, _, .cons a t, h => .cons a (paired_app t h)
theorem bk_true {a c : Nat} {b : Bk} (ok : b.ok a c) : bkB a c b.g = true := by
  have e : (b.ss.map sg).all (plB a c) = true := by
    rw [List.all_map]
    refine List.all_eq_true.mpr fun s hs => ?_
    have := ok.so s hs
    show plB a c [.str (wd s.1), .int (s.2 : Int)] = true
    rw [plB_w, decide_eq_true (by omega), decide_eq_true (by omega)]; rfl
  have k := ok.k
  have f0 := ok.f0
  have f1 := ok.f1
  show ((decide ((b.ss.map sg).length ≤ 4) && (belB (.int b.bits) (rm (b.ss.map sg).length) && (b.ss.map sg).all (plB a c))) && (belB (.int b.kept) 2 && belB (.int b.first) (b.kept + 1))) = true
  rw [e, List.length_map, rm_room ok.s4, decide_eq_true ok.s4, belB_iff.mpr ⟨ok.b0, ok.b1⟩, belB_iff.mpr ⟨by omega, by omega⟩, belB_iff.mpr ⟨f0, by omega⟩]
  rfl
theorem pl_true {a c : Nat} {s : Src} (h : s.2 < lim a c s.1) : plB a c (sg s) = true := by
  show plB a c [.str (wd s.1), .int (s.2 : Int)] = true
  rw [plB_w, decide_eq_true (by omega), decide_eq_true (by omega)]; rfl
theorem aok_of {ins : Nat} {bs : List Bk} {os : List Src} (ok : ∀ x ∈ bs, x.ok ins bs.length) (oo : ∀ s ∈ os, s.2 < lim ins bs.length s.1) (ac : Acy (looseOf bs) (lsOf bs)) : AOk ins (bs.map Bk.g) (os.map sg) where
  b := fun x hx => by
    obtain ⟨y, hy, rfl⟩ := List.mem_map.mp hx
    rw [List.length_map]
    exact bk_true (ok y hy)
  o := fun x hx => by
    obtain ⟨y, hy, rfl⟩ := List.mem_map.mp hx
    rw [List.length_map]
    exact pl_true (oo y hy)
  a := fun bs' e => by rw [← bkgs_inj e]; exact ac
theorem lim_mono {a c c' : Nat} (h : c ≤ c') (b : Bool) : lim a c b ≤ lim a c' b := by cases b <;> simp [lim]; exact h
theorem in_loose {bs : List Bk} {n : Nat} {b : Bk} (h : bs[n]? = some b) (k : b.kept = 0) : n ∈ looseOf bs := by
  refine List.mem_filter.mpr ⟨List.mem_range.mpr (List.getElem?_eq_some_iff.mp h).1, ?_⟩
  rw [loB_of h, k]; rfl
theorem in_ls {bs : List Bk} {n s : Nat} {b : Bk} (h : bs[n]? = some b) (hs : (true, s) ∈ b.ss) (hl : s ∈ looseOf bs) : s ∈ lsOf bs n := by
  rw [lsOf_of h]
  refine List.mem_map.mpr ⟨(true, s), List.mem_filter.mpr ⟨hs, ?_⟩, rfl⟩
  rw [(List.mem_filter.mp hl).2]; rfl
theorem no_self {bs : List Bk} : ¬ Acy (looseOf (bs ++ [⟨[(true, bs.length)], 0, 0, 0⟩])) (lsOf (bs ++ [⟨[(true, bs.length)], 0, 0, 0⟩])) := fun ⟨r, h⟩ => by
  have e : (bs ++ [⟨[(true, bs.length)], 0, 0, 0⟩])[bs.length]? = some ⟨[(true, bs.length)], 0, 0, 0⟩ := by simp
  have l := in_loose e rfl
  have := (h _ l _ (in_ls e (by simp) l)).2
  omega
def rg1 (n : Nat) : Bk := ⟨[(true, n + 1)], 2, 0, 0⟩
def rg2 (n : Nat) : Bk := ⟨[(true, n)], 2, 0, 0⟩
theorem no_ring {bs : List Bk} : ¬ Acy (looseOf (bs ++ [rg1 bs.length, rg2 bs.length])) (lsOf (bs ++ [rg1 bs.length, rg2 bs.length])) := fun ⟨r, h⟩ => by
  have e1 : (bs ++ [rg1 bs.length, rg2 bs.length])[bs.length]? = some (rg1 bs.length) := by simp
  have e2 : (bs ++ [rg1 bs.length, rg2 bs.length])[bs.length + 1]? = some (rg2 bs.length) := by rw [List.getElem?_append_right (by omega)]; simp
  have l1 := in_loose e1 rfl
  have l2 := in_loose e2 rfl
  have a1 := (h _ l1 _ (in_ls e1 (by simp [rg1]) l2)).2
  have a2 := (h _ l2 _ (in_ls e2 (by simp [rg2]) l1)).2
  omega
def kp (b : Bk) : Bk := ⟨b.ss, b.bits, 1, 0⟩
theorem kp_acy (bs : List Bk) : Acy (looseOf (bs.map kp)) (lsOf (bs.map kp)) := ⟨fun _ => 0, fun n hn => by
  have := (List.mem_filter.mp hn).2
  unfold loB at this
  split at this
  · rename_i b e
    rw [List.getElem?_map] at e
    obtain ⟨y, _, rfl⟩ := Option.map_eq_some_iff.mp e
    exact absurd this (by show ¬ decide ((1 : Int) = 0) = true; decide)
  · cases this⟩
section
variable {P : Program} {w : World} {K : PySem.W.Frag} {mg : Str → Option Value} {base : Heap} {f : Addr} {fd : FuncData} {k : Nat}
theorem l37_1 : Lc (defScope (top 37)) "_law_many" := by decide +kernel
theorem g37_len : Gi (defScope (top 37)) "len" := by decide +kernel
theorem v37_0 : Vs (defScope (top 37)) "_law_blocks" := by decide +kernel
theorem d37_0 : Nd "_law_blocks" := by decide +kernel
theorem c37_0 : Nc "_law_blocks" := by decide +kernel
theorem v37_1 : Vs (defScope (top 37)) "_law_many" := by decide +kernel
theorem d37_1 : Nd "_law_many" := by decide +kernel
theorem c37_1 : Nc "_law_many" := by decide +kernel
def spRg : Sp := fun vs H Q _ => ∃ (bl : Addr) (bs : List Bk) (ps : List Addr), vs = [.ref bl] ∧ H bl = some (.lst (ps.map V.ref)) ∧ Paired (BkAt .list H) bs ps ∧ bs.length ≤ 30 ∧ ∀ l ps' H', Ch [] H H' → H' l = some (.lst (ps'.map V.ref)) → Paired (BkAt .list H') (bs ++ [rg1 bs.length, rg2 bs.length]) ps' → Q (.ref l) H'
theorem scRg : FnScope ["_law_blocks", "_law_many"] ["_law_blocks"] (defScope (top 37)) := ⟨rfl, rfl, rfl, by decide +kernel, rfl, by decide +kernel, by decide +kernel⟩
theorem ok_rg (F : Fun K "_law_ring" "_law_ring" (top 37) f fd) (z_len : mg "len" = none) : FnOk P w K mg base CX0 (k + 1) f fd ["_law_blocks"] spRg := by
  have nd := scRg.nd
  refine F.ok scRg (fun vs H Q E h => by obtain ⟨bl, bs, ps, rfl, _⟩ := h; rfl) (fun cdv A outer s H vs Q E hr h => ?_)
  obtain ⟨bl, bs, ps, rfl, hb, bb, l30, q⟩ := h
  have lb := Paired.length bb
  have l2 : (ps.map V.ref).length = bs.length := by rw [List.length_map, lb]
  refine ⟨_, (Pr.h (qpss_cons (qps_set (i := 1) nd rfl l37_1 (qpe_callB call_len_seq g37_len z_len PySem.boot_len (qpa_cons (qpe_var (i := 0) rfl v37_0 d37_0 c37_0) qpa_nil se_Name) nn_len gd_len))
 (qpss_one (qps_ret (qpe_op op_cat (qpe_var (i := 0) rfl v37_0 d37_0 c37_0) (qpe_lst (qpa_cons (qpe_tup (qpa_cons (qpe_lst (qpa_cons (qpe_tup (qpa_cons qpe_str (qpa_cons (qpe_op op_add (qpe_var (i := 1) rfl v37_1 d37_1 c37_1) qpe_int) qpa_nil se_BinOp) se_Constant)) qpa_nil se_Tuple)) (qpa_cons qpe_int (qpa_cons qpe_int (qpa_cons qpe_int qpa_nil se_Constant) se_Constant) se_Constant) se_List)) (qpa_cons (qpe_tup (qpa_cons (qpe_lst (qpa_cons (qpe_tup (qpa_cons qpe_str (qpa_cons (qpe_var (i := 1) rfl v37_1 d37_1 c37_1) qpa_nil se_Name) se_Constant)) qpa_nil se_Tuple)) (qpa_cons qpe_int (qpa_cons qpe_int (qpa_cons qpe_int qpa_nil se_Constant) se_Constant) se_Constant) se_List)) qpa_nil se_Tuple) se_Tuple))))))), ?_⟩
  (try dsimp only [cxOf])
  walk_at "rd"
  rename_i a1 b1 a2 b2 a3 b3 a4 b4 a5 b5 a6 b6 a7 b7 a8 b8
  dsimp only at *
  generalize hH9 : upd _ a8 _ = H9
  have c9 : Ch [] H H9 := by rw [← hH9]; walk_at "ch"
  have g8 : H9 a8 = some (.lst ((ps ++ [a3, a6]).map V.ref)) := by rw [← hH9, List.map_append]; exact upd_same
  refine q a8 (ps ++ [a3, a6]) _ c9 g8 (paired_app (paired_imp (fun _ _ e => BgAt.ch c9 e) bb) (.cons ⟨a2, [a1], by rw [← hH9]; walk_at "get", by show H9 a2 = _; rw [← hH9]; walk_at "get", .cons ⟨?_, .inr ⟨_, _, rfl⟩⟩ .nil⟩ (.cons ⟨a5, [a4], by rw [← hH9]; walk_at "get", by show H9 a5 = _; rw [← hH9]; walk_at "get", .cons ⟨?_, .inr ⟨_, _, rfl⟩⟩ .nil⟩ .nil)))
  · have : H9 a1 = some (.tup [.str "block", .int (((ps.map V.ref).length : Int) + 1)]) := by rw [← hH9]; walk_at "get"
    rw [this, l2]; rfl
  · have : H9 a4 = some (.tup [.str "block", .int ((ps.map V.ref).length : Int)]) := by rw [← hH9]; walk_at "get"
    rw [this, l2]; rfl
end
end

section
theorem opK_catT {X : Cx} (K : PySem.W.Frag) (hK : X.K = K) : OpR X (binaryOp .Add) (rCatT K) := hK ▸ op_catT
def spPack (C : Addr) : Sp := fun vs H Q _ => ∃ (kd kd2 kd3 : SK) (x dx bl ol : Addr) (ins : Nat) (bgs : List BG) (ogs : List (List V)), vs = [.ref x, .int (ins : Int), .ref bl, .ref ol] ∧ H x = some (.ins C dx []) ∧ AskAt kd kd2 kd3 H bl ol bgs ogs ∧ AOk ins bgs ogs ∧
  ∀ bt ot H', Ch [x] H H' → H' x = some (.ins C dx (fldsP ins bt ot)) → PkT H' bt ot bgs ogs → Q .non H'
theorem pack_calm {C CE : Addr} : ∀ vs H Q E, spPack C vs H Q E → spPackX C CE vs H Q E0 := fun vs H Q E ⟨kd, kd2, kd3, x, dx, bl, ol, ins, bgs, ogs, e, hx, a, ok, q⟩ =>
  ⟨kd, kd2, kd3, x, dx, bl, ol, ins, bgs, ogs, e, hx, a, fun n en _ bt ot H' c g t => q bt ot H' c (by rw [g]; exact congrArg (fun z : Nat => some (HO.ins C dx (fldsP z bt ot))) (by omega)) t, fun no => absurd ok (no ins rfl)⟩
def BF (H0 H : Hp) (t : Bk) (p : Addr) : Prop := ∃ (lp : Addr) (ps : List Addr), H0 lp = none ∧ H p = some (.tup [.ref lp, .int t.bits, .int t.kept, .int t.first]) ∧ H lp = some (.lst (ps.map V.ref)) ∧ Paired (PgAt H) (t.ss.map sg) ps
theorem BF.ch {H0 H H' : Hp} (c : Ch [] H H') {t : Bk} {p : Addr} (s : BF H0 H t p) : BF H0 H' t p := let ⟨lp, ps, n, a, b, w⟩ := s; ⟨lp, ps, n, c.get a (by simp), c.get b (by simp), paired_imp (fun _ _ e => PgAt.tu (Tu.same c) e) w⟩
theorem BF.at_ {H0 H : Hp} {t : Bk} {p : Addr} (s : BF H0 H t p) : BkAt .list H t p := let ⟨lp, ps, _, a, b, w⟩ := s; ⟨lp, ps, a, b, w⟩
structure RJ (C b x dx bt ot : Addr) (ins : Nat) (bs : List Bk) (os : List Src) (c : Int) (H2 H : Hp) : Prop where
  ch : Ch [b] H2 H
  hx : H x = some (.ins C dx (fldsP ins bt ot))
  pk : PkT H bt ot (bs.map Bk.g) (os.map sg)
  hb : H b = some (.lst [.int c])
section
variable {C b x dx bt ot : Addr} {ins : Nat} {bs : List Bk} {os : List Src} {c c' : Int} {H2 H H' : Hp}
theorem RJ.app (l : RJ C b x dx bt ot ins bs os c H2 H) {p : Addr} {xs ys : List V} (hp : H p = some (.lst xs)) (h0 : H2 p = none) (nb : b ≠ p) : RJ C b x dx bt ot ins bs os c H2 (upd H p (.lst ys)) :=
  ⟨Ch.own h0 l.ch, g_put (ne_of l.hx hp (by intro z; cases z)) l.hx, l.pk.tu (Tu.lst Ch.put hp), g_put nb l.hb⟩
theorem RJ.new (l : RJ C b x dx bt ot ins bs os c H2 H) (e : Ch [] H H') : RJ C b x dx bt ot ins bs os c H2 H' := ⟨l.ch.trans e.wk, e.get l.hx (by simp), l.pk.tu (Tu.same e), e.get l.hb (by simp)⟩
theorem RJ.next (l : RJ C b x dx bt ot ins bs os c H2 H) (e : Ch [b] H H') (h : H' b = some (.lst [.int c'])) : RJ C b x dx bt ot ins bs os c' H2 H' :=
  ⟨l.ch.trans e, e.get l.hx (by simpa using ne_of l.hx l.hb (by intro z; cases z)), l.pk.tu (Tu.lst e l.hb), h⟩
end
structure Ls (H : Hp) (L : List Addr) (n : Nat) : Prop where
  h : ∀ p ∈ L, ∃ ys : List V, H p = some (.lst ys) ∧ ys.length ≤ n
theorem Ls.app {H : Hp} {L : List Addr} {n : Nat} (l : Ls H L n) {p : Addr} {xs : List V} {v : V} (hp : H p = some (.lst xs)) (hx : xs.length ≤ n) : Ls (upd H p (.lst (xs ++ [v]))) L (n + 1) := ⟨fun r hr => by
  by_cases e : r = p
  · subst e
    exact ⟨_, upd_same, by rw [List.length_append]; show _ + 1 ≤ _; omega⟩
  · obtain ⟨ys, hy, ly⟩ := l.h r hr
    exact ⟨ys, g_put e hy, by omega⟩⟩
theorem Ls.new {H H' : Hp} {L : List Addr} {n : Nat} (l : Ls H L n) (c : Ch [] H H') : Ls H' L n := ⟨fun r hr => let ⟨ys, hy, ly⟩ := l.h r hr; ⟨ys, c.get hy (by simp), ly⟩⟩
theorem ex_lps {H0 H : Hp} : ∀ {ts : List Bk} {us : List Addr}, Paired (BF H0 H) ts us → (∀ t ∈ ts, t.ss.length ≤ 4) → ∃ lps, Paired (fun lp p => ∃ x y z : Int, H p = some (.tup [.ref lp, .int x, .int y, .int z])) lps us ∧ (∀ lp ∈ lps, H0 lp = none) ∧ Ls H lps 4
  | _, _, .nil, _ => ⟨[], .nil, by simp, ⟨by simp⟩⟩
  | t :: ts, u :: us, .cons a r, l => by
    obtain ⟨lps, p1, p2, p3⟩ := ex_lps r fun t ht => l t (by simp [ht])
    obtain ⟨lp, ps, n, ga, gb, w⟩ := a
    have lw := Paired.length w
    rw [List.length_map] at lw
    have := l t (by simp)
    refine ⟨lp :: lps, .cons ⟨_, _, _, ga⟩ p1, fun x hx => ?_, ⟨fun x hx => ?_⟩⟩
    · rcases List.mem_cons.mp hx with rfl | hx
      · exact n
      · exact p2 x hx
    · rcases List.mem_cons.mp hx with rfl | hx
      · exact ⟨_, gb, by rw [List.length_map]; omega⟩
      · exact p3.h x hx
theorem paired_map {α α' β : Type} {R : α → β → Prop} {S : α' → β → Prop} {g : α → α'} (h : ∀ x y, R x y → S (g x) y) : ∀ {xs : List α} {ys : List β}, Paired R xs ys → Paired S (xs.map g) ys
  | _, _, .nil => .nil
  | _, _, .cons a t => .cons (h _ _ a) (paired_map h t)
theorem PkT.ask {H : Hp} {bt ot : Addr} {bgs : List BG} {ogs : List (List V)} (s : PkT H bt ot bgs ogs) (lb : bgs.length ≤ 40) (lo : ogs.length ≤ 40) : AskAt .tuple .tuple .tuple H bt ot bgs ogs := ⟨s.b, s.o, lb, lo⟩
theorem no_str {ins : Nat} {bs : List Bk} {g : BG} {ogs : List (List V)} (h : bkB ins (bs.length + 1) g = false ∨ g = Bk.g ⟨[(true, bs.length)], 0, 0, 0⟩) : ∀ n : Nat, (ins : Int) = (n : Int) → ¬ AOk n (bs.map Bk.g ++ [g]) ogs := fun n e ok => by
  have e' : ins = n := by omega
  subst e'
  rcases h with h | rfl
  · have := ok.b g (by simp)
    rw [List.length_append, List.length_map] at this
    have this : bkB ins (bs.length + 1) g = true := this
    rw [h] at this
    cases this
  · exact no_self (ok.a (bs ++ [⟨[(true, bs.length)], 0, 0, 0⟩]) (by rw [List.map_append]; rfl))
section
variable {H H' : Hp} {b : Addr} {c : Int}
theorem SqX.chb {kd : SK} {p : Addr} {ps : List Addr} (s : SqX kd H p (ps.map V.ref)) (d : Ch [b] H H') (hb : H b = some (.lst [.int c])) : SqX kd H' p (ps.map V.ref) := by
  cases kd with
  | list =>
    refine d.get s fun z => ?_
    rw [List.mem_singleton.mp z] at s
    have s : H b = some (.lst (ps.map V.ref)) := s
    rw [hb] at s
    cases ps with
    | nil => cases s
    | cons x y => cases s
  | tuple => exact d.get s (by simpa using ne_of (show H p = some (.tup (ps.map V.ref)) from s) hb (by intro z; cases z))
theorem BgAt.chb {kd : SK} {t : BG} {p : Addr} (s : BgAt kd H t p) (d : Ch [b] H H') (hb : H b = some (.lst [.int c])) : BgAt kd H' t p := by
  have k : Tu H H' := Tu.lst d hb
  cases t with
  | odd => obtain ⟨ys, h, n⟩ := s; exact ⟨ys, k _ _ h, n⟩
  | bk ls bits kept first => obtain ⟨lp, ps, h, q, w⟩ := s; exact ⟨lp, ps, k _ _ h, q.chb d hb, paired_imp (fun _ _ e => PgAt.tu k e) w⟩
end
theorem rings_ok {ins : Nat} {bs : List Bk} (ok : ∀ x ∈ bs, x.ok ins bs.length) : ∀ x ∈ (bs ++ [rg1 bs.length, rg2 bs.length]).map kp, x.ok ins (bs.length + 2) := fun x hx => by
  obtain ⟨y, hy, rfl⟩ := List.mem_map.mp hx
  have hy : y ∈ bs ∨ y = rg1 bs.length ∨ y = rg2 bs.length := by simpa using hy
  rcases hy with h | rfl | rfl
  · have o := ok y h
    exact ⟨o.s4, fun s hs => Nat.lt_of_lt_of_le (o.so s hs) (lim_mono (by omega) _), o.b0, o.b1, .inr rfl, (by show (0 : Int) ≤ 0; decide), (by show (0 : Int) ≤ 1; decide)⟩
  · exact ⟨(by show 1 ≤ 4; decide), fun s hs => by
      have : s = (true, bs.length + 1) := by simpa [kp, rg1] using hs
      subst this
      show bs.length + 1 < bs.length + 2
      omega, (by show (0 : Int) ≤ 2; decide), (by show (2 : Int) < 4; decide), .inr rfl, (by show (0 : Int) ≤ 0; decide), (by show (0 : Int) ≤ 1; decide)⟩
  · exact ⟨(by show 1 ≤ 4; decide), fun s hs => by
      have : s = (true, bs.length) := by simpa [kp, rg2] using hs
      subst this
      show bs.length < bs.length + 2
      omega, (by show (0 : Int) ≤ 2; decide), (by show (2 : Int) < 4; decide), .inr rfl, (by show (0 : Int) ≤ 0; decide), (by show (0 : Int) ≤ 1; decide)⟩
theorem DP.dr {K : PySem.W.Frag} {H H2 H' : Hp} {a b : Addr} {ns : List Int} {c c' : Int} {bl ol : Addr} {ins : Nat} {bs : List Bk} {os : List Src} (d : DP K H H2 a b ns c bl ol ins bs os) (hb : H2 b = some (.lst [.int c'])) (e : Ch [b] H2 H') (lb : bs.length ≤ 20) (lo : os.length ≤ 20) : DrP H' bl ol bs os := by
  have k : Kl [b] H2 H' := Kl.one e hb (by simp)
  obtain ⟨ps, h1, h2⟩ := d.tb
  obtain ⟨qs, h3, h4⟩ := d.to
  exact ⟨⟨ps, k.l _ _ (by simpa using d.nb.1) h1, paired_imp (fun _ _ z => (BkL.kl k z).at_) h2⟩, ⟨qs, k.l _ _ (by simpa using d.nb.2) h3, paired_imp (fun _ _ z => PgAt.tu k.t z) h4⟩, fun x hx => (d.ok x hx).s4, by omega, by omega⟩
section
variable {P : Program} {w : World} {K : PySem.W.Frag} {mg : Str → Option Value} {base : Heap} {f : Addr} {fd : FuncData} {k : Nat}
theorem gd__law_pack_lists : Nd "_law_pack_lists" := by decide +kernel
theorem gd__law_right : Nd "_law_right" := by decide +kernel
theorem gd__law_strange : Nd "_law_strange" := by decide +kernel
theorem gd__law_refused : Nd "_law_refused" := by decide +kernel
theorem gd__law_ring : Nd "_law_ring" := by decide +kernel
theorem l38_2 : Lc (defScope (top 38)) "_law_m" := by decide +kernel
theorem g38__law_next : Gi (defScope (top 38)) "_law_next" := by decide +kernel
theorem v38_1 : Vs (defScope (top 38)) "_law_at" := by decide +kernel
theorem d38_1 : Nd "_law_at" := by decide +kernel
theorem c38_1 : Nc "_law_at" := by decide +kernel
theorem v38_0 : Vs (defScope (top 38)) "_law_script" := by decide +kernel
theorem d38_0 : Nd "_law_script" := by decide +kernel
theorem c38_0 : Nc "_law_script" := by decide +kernel
theorem l38_3 : Lc (defScope (top 38)) "_law_ins" := by decide +kernel
theorem v38_2 : Vs (defScope (top 38)) "_law_m" := by decide +kernel
theorem d38_2 : Nd "_law_m" := by decide +kernel
theorem c38_2 : Nc "_law_m" := by decide +kernel
theorem g38__law_pack_lists : Gi (defScope (top 38)) "_law_pack_lists" := by decide +kernel
theorem v38_3 : Vs (defScope (top 38)) "_law_ins" := by decide +kernel
theorem d38_3 : Nd "_law_ins" := by decide +kernel
theorem c38_3 : Nc "_law_ins" := by decide +kernel
theorem l38_5 : Lc (defScope (top 38)) "_law_outs" := by decide +kernel
theorem l38_4 : Lc (defScope (top 38)) "_law_blocks" := by decide +kernel
theorem l38_6 : Lc (defScope (top 38)) "_law_given" := by decide +kernel
theorem v38_4 : Vs (defScope (top 38)) "_law_blocks" := by decide +kernel
theorem d38_4 : Nd "_law_blocks" := by decide +kernel
theorem c38_4 : Nc "_law_blocks" := by decide +kernel
def csc38_0 : Scope := { kind := PySem.ScopeKind.function, names := [ (PySem.Str.ofString ".0", PySem.NameKind.local), (PySem.Str.ofString "_law_block", PySem.NameKind.local), (PySem.Str.ofString "list", PySem.NameKind.globalImplicit)], isGenerator := false, isCoroutine := false, more := [] : PySem.Scope }
theorem cok38_0 : CompOk csc38_0 (defScope (top 38)) (["_law_block"] : List Str) (["_law_script", "_law_at", "_law_m", "_law_ins", "_law_blocks", "_law_outs", "_law_given", "_law_ends", "_law_pack", "_law_block", "_law_again", "_law_k", "_law_strange_here", "_law_n", "_law_wrong", "_law_rings"] : List Str) [] (["_law_block"] : List Str) := compOk rfl (by decide +kernel) (by decide +kernel) (by decide +kernel) (by decide +kernel) rfl (by decide +kernel)
theorem kq38_0_0 : (relab csc38_0 (defScope (top 38))).names.lookup (Str.ofString "_law_block") = some NameKind.local := by decide +kernel
theorem gq38_0_list : Gi (relab csc38_0 (defScope (top 38))) "list" := by decide +kernel
theorem vq38_0_0 : Vs (relab csc38_0 (defScope (top 38))) "_law_block" := by decide +kernel
theorem dq38_0_0 : Nd "_law_block" := by decide +kernel
theorem cq38_0_0 : Nc "_law_block" := by decide +kernel
theorem l38_7 : Lc (defScope (top 38)) "_law_ends" := by decide +kernel
theorem g38_list : Gi (defScope (top 38)) "list" := by decide +kernel
theorem v38_5 : Vs (defScope (top 38)) "_law_outs" := by decide +kernel
theorem d38_5 : Nd "_law_outs" := by decide +kernel
theorem c38_5 : Nc "_law_outs" := by decide +kernel
theorem l38_8 : Lc (defScope (top 38)) "_law_pack" := by decide +kernel
theorem g38_Pack : Gi (defScope (top 38)) "Pack" := by decide +kernel
theorem v38_7 : Vs (defScope (top 38)) "_law_ends" := by decide +kernel
theorem d38_7 : Nd "_law_ends" := by decide +kernel
theorem c38_7 : Nc "_law_ends" := by decide +kernel
theorem g38_tuple : Gi (defScope (top 38)) "tuple" := by decide +kernel
theorem v38_6 : Vs (defScope (top 38)) "_law_given" := by decide +kernel
theorem d38_6 : Nd "_law_given" := by decide +kernel
theorem c38_6 : Nc "_law_given" := by decide +kernel
theorem l38_9 : Lc (defScope (top 38)) "_law_block" := by decide +kernel
theorem v38_9 : Vs (defScope (top 38)) "_law_block" := by decide +kernel
theorem d38_9 : Nd "_law_block" := by decide +kernel
theorem c38_9 : Nc "_law_block" := by decide +kernel
theorem l38_10 : Lc (defScope (top 38)) "_law_again" := by decide +kernel
theorem v38_8 : Vs (defScope (top 38)) "_law_pack" := by decide +kernel
theorem d38_8 : Nd "_law_pack" := by decide +kernel
theorem c38_8 : Nc "_law_pack" := by decide +kernel
theorem g38__law_right : Gi (defScope (top 38)) "_law_right" := by decide +kernel
theorem v38_10 : Vs (defScope (top 38)) "_law_again" := by decide +kernel
theorem d38_10 : Nd "_law_again" := by decide +kernel
theorem c38_10 : Nc "_law_again" := by decide +kernel
theorem g38_range : Gi (defScope (top 38)) "range" := by decide +kernel
theorem l38_11 : Lc (defScope (top 38)) "_law_k" := by decide +kernel
theorem l38_12 : Lc (defScope (top 38)) "_law_strange_here" := by decide +kernel
theorem g38__law_strange : Gi (defScope (top 38)) "_law_strange" := by decide +kernel
theorem g38__law_refused : Gi (defScope (top 38)) "_law_refused" := by decide +kernel
theorem v38_12 : Vs (defScope (top 38)) "_law_strange_here" := by decide +kernel
theorem d38_12 : Nd "_law_strange_here" := by decide +kernel
theorem c38_12 : Nc "_law_strange_here" := by decide +kernel
theorem l38_13 : Lc (defScope (top 38)) "_law_n" := by decide +kernel
theorem l38_14 : Lc (defScope (top 38)) "_law_wrong" := by decide +kernel
theorem g38_len : Gi (defScope (top 38)) "len" := by decide +kernel
theorem v38_13 : Vs (defScope (top 38)) "_law_n" := by decide +kernel
theorem d38_13 : Nd "_law_n" := by decide +kernel
theorem c38_13 : Nc "_law_n" := by decide +kernel
theorem v38_14 : Vs (defScope (top 38)) "_law_wrong" := by decide +kernel
theorem d38_14 : Nd "_law_wrong" := by decide +kernel
theorem c38_14 : Nc "_law_wrong" := by decide +kernel
theorem g38__law_ring : Gi (defScope (top 38)) "_law_ring" := by decide +kernel
theorem l38_15 : Lc (defScope (top 38)) "_law_rings" := by decide +kernel
def csc38_1 : Scope := { kind := PySem.ScopeKind.function, names := [ (PySem.Str.ofString ".0", PySem.NameKind.local), (PySem.Str.ofString "_law_sources", PySem.NameKind.local), (PySem.Str.ofString "_law_bits", PySem.NameKind.local), (PySem.Str.ofString "_law_kept", PySem.NameKind.local), (PySem.Str.ofString "_law_first", PySem.NameKind.local)], isGenerator := false, isCoroutine := false, more := [] : PySem.Scope }
theorem cok38_1 : CompOk csc38_1 (defScope (top 38)) (["_law_sources", "_law_bits", "_law_kept", "_law_first"] : List Str) (["_law_script", "_law_at", "_law_m", "_law_ins", "_law_blocks", "_law_outs", "_law_given", "_law_ends", "_law_pack", "_law_block", "_law_again", "_law_k", "_law_strange_here", "_law_n", "_law_wrong", "_law_rings"] : List Str) [] (["_law_sources", "_law_bits", "_law_kept", "_law_first"] : List Str) := compOk rfl (by decide +kernel) (by decide +kernel) (by decide +kernel) (by decide +kernel) rfl (by decide +kernel)
theorem kq38_1_3 : (relab csc38_1 (defScope (top 38))).names.lookup (Str.ofString "_law_first") = some NameKind.local := by decide +kernel
theorem kq38_1_2 : (relab csc38_1 (defScope (top 38))).names.lookup (Str.ofString "_law_kept") = some NameKind.local := by decide +kernel
theorem kq38_1_1 : (relab csc38_1 (defScope (top 38))).names.lookup (Str.ofString "_law_bits") = some NameKind.local := by decide +kernel
theorem kq38_1_0 : (relab csc38_1 (defScope (top 38))).names.lookup (Str.ofString "_law_sources") = some NameKind.local := by decide +kernel
theorem vq38_1_1 : Vs (relab csc38_1 (defScope (top 38))) "_law_bits" := by decide +kernel
theorem dq38_1_1 : Nd "_law_bits" := by decide +kernel
theorem cq38_1_1 : Nc "_law_bits" := by decide +kernel
theorem vq38_1_0 : Vs (relab csc38_1 (defScope (top 38))) "_law_sources" := by decide +kernel
theorem dq38_1_0 : Nd "_law_sources" := by decide +kernel
theorem cq38_1_0 : Nc "_law_sources" := by decide +kernel
theorem v38_15 : Vs (defScope (top 38)) "_law_rings" := by decide +kernel
theorem d38_15 : Nd "_law_rings" := by decide +kernel
theorem c38_15 : Nc "_law_rings" := by decide +kernel
def spRnd (K : PySem.W.Frag) : Sp := fun vs H Q _ => ∃ (a b : Addr) (ns : List Int) (c : Int), vs = [.ref a, .ref b] ∧ Scr K H a ns ∧ H b = some (.lst [.int c]) ∧ 0 ≤ c ∧ c < 2 ^ 40 ∧ ∀ c' H', DQ K H H' a b ns c' → c ≤ c' → c' ≤ c + 2000 → Q (.bl true) H'
theorem scRnd : FnScope ["_law_script", "_law_at", "_law_m", "_law_ins", "_law_blocks", "_law_outs", "_law_given", "_law_ends", "_law_pack", "_law_block", "_law_again", "_law_k", "_law_strange_here", "_law_n", "_law_wrong", "_law_rings"] ["_law_script", "_law_at"] (defScope (top 38)) := ⟨rfl, rfl, rfl, by decide +kernel, rfl, by decide +kernel, by decide +kernel⟩
theorem ok_rnd {C : Addr} (F : Fun K "_law_round" "_law_round" (top 38) f fd) (cl : Cls K C) (nI : NoAttr K C "ins") (nB : NoAttr K C "blocks") (nO : NoAttr K C "outs") (D_law_next : DefOk P w K mg base CX0 (k + 1) "_law_next" ["_law_script", "_law_at"] (spNext K)) (D_law_pack_lists : DefOk P w K mg base CX0 (k + 1) "_law_pack_lists" ["_law_script", "_law_at", "_law_ins", "_law_many", "_law_outs"] (spPL K))
    (D_law_right : DefOk P w K mg base CX0 (k + 1) "_law_right" ["_law_pack", "_law_ins", "_law_blocks", "_law_outs"] (spRight C)) (D_law_refused : DefOk P w K mg base CX0 (k + 1) "_law_refused" ["_law_ins", "_law_blocks", "_law_outs"] spRef) (D_law_strange : DefOk P w K mg base CX0 (k + 1) "_law_strange" ["_law_m", "_law_ins", "_law_blocks"] spStr) (D_law_ring : DefOk P w K mg base CX0 (k + 1) "_law_ring" ["_law_blocks"] spRg)
    (MkPack : MakeOk P w K mg base CX0 k C "Pack" ["self", "ins", "blocks", "outs"] (spPack C)) (z_range : mg "range" = none) (z_list : mg "list" = none) (z_tuple : mg "tuple" = none) (z_len : mg "len" = none) :
    FnOk P w K mg base CX0 (k + 2) f fd ["_law_script", "_law_at"] (spRnd K) := by
  have nd := scRnd.nd
  refine F.ok scRnd (fun vs H Q E h => by obtain ⟨a, b, ns, c, rfl, _⟩ := h; rfl) (fun cdv A outer s H vs Q E hr h => ?_)
  obtain ⟨a, b, ns, c, rfl, hS, hb, h0, h1, q⟩ := h
  have hrm := hr
  refine ⟨_, (Pr.h (qpss_cons (qps_set (i := 2) nd rfl l38_2 (qpe_callD D_law_next hr g38__law_next pass0 (qpa_cons (qpe_var (i := 0) rfl v38_0 d38_0 c38_0) (qpa_cons (qpe_var (i := 1) rfl v38_1 d38_1 c38_1) qpa_nil se_Name) se_Name) gd__law_next))
 (qpss_cons (qps_set (i := 3) nd rfl l38_3 (qpe_op op_mod (qpe_var (i := 2) rfl v38_2 d38_2 c38_2) qpe_int))
 (qpss_cons (qps_asg (qpe_callD D_law_pack_lists hr g38__law_pack_lists pass0 (qpa_cons (qpe_var (i := 0) rfl v38_0 d38_0 c38_0) (qpa_cons (qpe_var (i := 1) rfl v38_1 d38_1 c38_1) (qpa_cons (qpe_var (i := 3) rfl v38_3 d38_3 c38_3) (qpa_cons (qpe_op op_mod (qpe_op op_fdivW (qpe_var (i := 2) rfl v38_2 d38_2 c38_2) qpe_int) qpe_int) (qpa_cons (qpe_op op_mod (qpe_op op_fdivW (qpe_var (i := 2) rfl v38_2 d38_2 c38_2) qpe_int) qpe_int) qpa_nil se_BinOp) se_BinOp) se_Name) se_Name) se_Name) gd__law_pack_lists) (qpg_tup rfl (qpgs_cons (qpg_name (i := 4) nd rfl l38_4) (qpgs_cons (qpg_name (i := 5) nd rfl l38_5) qpgs_nil))))
 (qpss_cons (qps_setC (i := 6) nd rfl l38_6 rfl cok38_0 (qpi_list (qpe_var (i := 4) rfl v38_4 d38_4 c38_4)) (fun _ _ _ _ _ => (qpg_name (i := 0) cok38_0.nd rfl (Or.inl kq38_0_0) (Or.inr kq38_0_0))) (fun _ _ _ _ _ => qpif_nil) (fun _ _ _ _ _ => (qpe_op (opK_catT K rfl) (qpe_tup (qpa_cons (qpe_callTy (callK_list_of K rfl) gq38_0_list z_list bo_list (qpa_cons (qpe_ix (ixaK_tup K rfl) (qpe_var (i := 0) rfl vq38_0_0 dq38_0_0 cq38_0_0) qpe_int (fun _ _ => rfl)) qpa_nil se_Subscript) nn_list gd_list) qpa_nil se_Call)) (qpe_slice (slK_tup K rfl) (qpe_var (i := 0) rfl vq38_0_0 dq38_0_0 cq38_0_0) (qpo_some qpe_int) qpo_none))) rfl)
 (qpss_cons (qps_set (i := 7) nd rfl l38_7 (qpe_callTy call_list_of g38_list z_list bo_list (qpa_cons (qpe_var (i := 5) rfl v38_5 d38_5 c38_5) qpa_nil se_Name) nn_list gd_list))
 (qpss_cons (qps_set (i := 8) nd rfl l38_8 (qpe_makeD MkPack hrm g38_Pack pass0 (qpa_cons (qpe_var (i := 3) rfl v38_3 d38_3 c38_3) (qpa_cons (qpe_ix ixa_list (qpe_lst (qpa_cons (qpe_var (i := 6) rfl v38_6 d38_6 c38_6) (qpa_cons (qpe_callTy call_tuple_of g38_tuple z_tuple bo_tuple (qpa_cons (qpe_var (i := 6) rfl v38_6 d38_6 c38_6) qpa_nil se_Name) nn_tuple gd_tuple) qpa_nil se_Call) se_Name)) (qpe_op op_mod (qpe_op op_fdivW (qpe_var (i := 2) rfl v38_2 d38_2 c38_2) qpe_int) qpe_int) (fun _ _ => rfl)) (qpa_cons (qpe_var (i := 7) rfl v38_7 d38_7 c38_7) qpa_nil se_Name) se_Subscript) se_Name) gd_Pack))
 (qpss_cons (qps_loop PassesOwn.never rfl (qpi_list (qpe_var (i := 6) rfl v38_6 d38_6 c38_6)) (qpg_name (i := 9) nd rfl l38_9)
  (qpss_one (qps_expr (qpe_bm PySem.F.plainAttrs_list PySem.F.slot_list_append PySem.F.type_list_append mt_append (qpe_ix ixa_tup (qpe_var (i := 9) rfl v38_9 d38_9 c38_9) qpe_int (fun _ _ => rfl)) (qpa_cons (qpe_tup (qpa_cons qpe_str (qpa_cons qpe_int qpa_nil se_Constant) se_Constant)) qpa_nil se_Tuple)))))
 (qpss_cons (qps_expr (qpe_bm PySem.F.plainAttrs_list PySem.F.slot_list_append PySem.F.type_list_append mt_append (qpe_var (i := 7) rfl v38_7 d38_7 c38_7) (qpa_cons qpe_non qpa_nil se_Constant)))
 (qpss_cons (qps_set (i := 10) nd rfl l38_10 (qpe_makeD MkPack hrm g38_Pack pass0 (qpa_cons (qpe_fld (qpe_var (i := 8) rfl v38_8 d38_8 c38_8) rfl) (qpa_cons (qpe_fld (qpe_var (i := 8) rfl v38_8 d38_8 c38_8) rfl) (qpa_cons (qpe_fld (qpe_var (i := 8) rfl v38_8 d38_8 c38_8) rfl) qpa_nil se_Attribute) se_Attribute) se_Attribute) gd_Pack))
 (qpss_cons (qps_if (qPW_pt (qpw_or (qpt_not (qpt_val (qpe_callD D_law_right hr g38__law_right pass0 (qpa_cons (qpe_var (i := 8) rfl v38_8 d38_8 c38_8) (qpa_cons (qpe_var (i := 3) rfl v38_3 d38_3 c38_3) (qpa_cons (qpe_var (i := 4) rfl v38_4 d38_4 c38_4) (qpa_cons (qpe_var (i := 5) rfl v38_5 d38_5 c38_5) qpa_nil se_Name) se_Name) se_Name) se_Name) gd__law_right))) (qpw_or1 (qpt_not (qpt_val (qpe_callD D_law_right hr g38__law_right pass0 (qpa_cons (qpe_var (i := 10) rfl v38_10 d38_10 c38_10) (qpa_cons (qpe_var (i := 3) rfl v38_3 d38_3 c38_3) (qpa_cons (qpe_var (i := 4) rfl v38_4 d38_4 c38_4) (qpa_cons (qpe_var (i := 5) rfl v38_5 d38_5 c38_5) qpa_nil se_Name) se_Name) se_Name) se_Name) gd__law_right))))))
  (qpss_one (qps_ret qpe_bl))
  qpss_nil)
 (qpss_cons (qps_loop PassesOwn.never rfl (qpi_range1 g38_range z_range (qpa_cons qpe_int qpa_nil se_Constant)) (qpg_name (i := 11) nd rfl l38_11)
  (qpss_cons (qps_set (i := 12) nd rfl l38_12 (qpe_callD D_law_strange hr g38__law_strange pass0 (qpa_cons (qpe_callD D_law_next hr g38__law_next pass0 (qpa_cons (qpe_var (i := 0) rfl v38_0 d38_0 c38_0) (qpa_cons (qpe_var (i := 1) rfl v38_1 d38_1 c38_1) qpa_nil se_Name) se_Name) gd__law_next) (qpa_cons (qpe_var (i := 3) rfl v38_3 d38_3 c38_3) (qpa_cons (qpe_var (i := 4) rfl v38_4 d38_4 c38_4) qpa_nil se_Name) se_Name) se_Call) gd__law_strange))
 (qpss_one (qps_if (qpt_not (qpt_val (qpe_callD D_law_refused hr g38__law_refused pass0 (qpa_cons (qpe_var (i := 3) rfl v38_3 d38_3 c38_3) (qpa_cons (qpe_op op_cat (qpe_var (i := 4) rfl v38_4 d38_4 c38_4) (qpe_lst (qpa_cons (qpe_var (i := 12) rfl v38_12 d38_12 c38_12) qpa_nil se_Name))) (qpa_cons (qpe_var (i := 5) rfl v38_5 d38_5 c38_5) qpa_nil se_Name) se_BinOp) se_Name) gd__law_refused)))
  (qpss_one (qps_ret qpe_bl))
  qpss_nil))))
 (qpss_cons (qps_set (i := 13) nd rfl l38_13 (qpe_callD D_law_next hr g38__law_next pass0 (qpa_cons (qpe_var (i := 0) rfl v38_0 d38_0 c38_0) (qpa_cons (qpe_var (i := 1) rfl v38_1 d38_1 c38_1) qpa_nil se_Name) se_Name) gd__law_next))
 (qpss_cons (qps_set (i := 14) nd rfl l38_14 (qpe_ix ixa_list (qpe_lst (qpa_cons (qpe_tup (qpa_cons qpe_str (qpa_cons (qpe_var (i := 3) rfl v38_3 d38_3 c38_3) qpa_nil se_Name) se_Constant)) (qpa_cons (qpe_tup (qpa_cons qpe_str (qpa_cons (qpe_callB call_len_seq g38_len z_len PySem.boot_len (qpa_cons (qpe_var (i := 4) rfl v38_4 d38_4 c38_4) qpa_nil se_Name) nn_len gd_len) qpa_nil se_Call) se_Constant)) (qpa_cons (qpe_tup (qpa_cons qpe_str (qpa_cons (qpe_un un_neg qpe_int) qpa_nil se_UnaryOp) se_Constant)) (qpa_cons (qpe_tup (qpa_cons qpe_str (qpa_cons qpe_int qpa_nil se_Constant) se_Constant)) (qpa_cons (qpe_tup (qpa_cons qpe_str qpa_nil se_Constant)) qpa_nil se_Tuple) se_Tuple) se_Tuple) se_Tuple) se_Tuple)) (qpe_op op_mod (qpe_var (i := 13) rfl v38_13 d38_13 c38_13) qpe_int) (fun _ _ => rfl)))
 (qpss_cons (qps_if (qPW_pt (qpw_or (qpt_not (qpt_val (qpe_callD D_law_refused hr g38__law_refused pass0 (qpa_cons (qpe_var (i := 3) rfl v38_3 d38_3 c38_3) (qpa_cons (qpe_var (i := 4) rfl v38_4 d38_4 c38_4) (qpa_cons (qpe_op op_cat (qpe_var (i := 5) rfl v38_5 d38_5 c38_5) (qpe_lst (qpa_cons (qpe_var (i := 14) rfl v38_14 d38_14 c38_14) qpa_nil se_Name))) qpa_nil se_BinOp) se_Name) se_Name) gd__law_refused))) (qpw_or1 (qpt_not (qpt_val (qpe_callD D_law_refused hr g38__law_refused pass0 (qpa_cons (qpe_op op_sub (qpe_un un_neg qpe_int) (qpe_op op_mod (qpe_var (i := 13) rfl v38_13 d38_13 c38_13) qpe_int)) (qpa_cons (qpe_lst qpa_nil) (qpa_cons (qpe_lst qpa_nil) qpa_nil se_List) se_List) se_BinOp) gd__law_refused))))))
  (qpss_one (qps_ret qpe_bl))
  qpss_nil)
 (qpss_cons (qps_if (qpt_not (qpt_val (qpe_callD D_law_refused hr g38__law_refused pass0 (qpa_cons (qpe_var (i := 3) rfl v38_3 d38_3 c38_3) (qpa_cons (qpe_callD D_law_ring hr g38__law_ring pass0 (qpa_cons (qpe_var (i := 4) rfl v38_4 d38_4 c38_4) qpa_nil se_Name) gd__law_ring) (qpa_cons (qpe_var (i := 5) rfl v38_5 d38_5 c38_5) qpa_nil se_Name) se_Call) se_Name) gd__law_refused)))
  (qpss_one (qps_ret qpe_bl))
  qpss_nil)
 (qpss_cons (qps_setC (i := 15) nd rfl l38_15 rfl cok38_1 (qpi_list (qpe_callD D_law_ring hr g38__law_ring pass0 (qpa_cons (qpe_var (i := 4) rfl v38_4 d38_4 c38_4) qpa_nil se_Name) gd__law_ring)) (fun _ _ _ _ _ => (qpg_tupK K 4 rfl rfl (qpgs_cons (qpg_name (i := 0) cok38_1.nd rfl (Or.inl kq38_1_0) (Or.inr kq38_1_0)) (qpgs_cons (qpg_name (i := 1) cok38_1.nd rfl (Or.inl kq38_1_1) (Or.inr kq38_1_1)) (qpgs_cons (qpg_name (i := 2) cok38_1.nd rfl (Or.inl kq38_1_2) (Or.inr kq38_1_2)) (qpgs_cons (qpg_name (i := 3) cok38_1.nd rfl (Or.inl kq38_1_3) (Or.inr kq38_1_3)) qpgs_nil)))))) (fun _ _ _ _ _ => qpif_nil) (fun _ _ _ _ _ => (qpe_tup (qpa_cons (qpe_var (i := 0) rfl vq38_1_0 dq38_1_0 cq38_1_0) (qpa_cons (qpe_var (i := 1) rfl vq38_1_1 dq38_1_1 cq38_1_1) (qpa_cons qpe_int (qpa_cons qpe_int qpa_nil se_Constant) se_Constant) se_Name) se_Name))) rfl)
 (qpss_one (qps_ret (qpe_and (qpe_callD D_law_right hr g38__law_right pass0 (qpa_cons (qpe_makeD MkPack hrm g38_Pack pass0 (qpa_cons (qpe_var (i := 3) rfl v38_3 d38_3 c38_3) (qpa_cons (qpe_var (i := 15) rfl v38_15 d38_15 c38_15) (qpa_cons (qpe_var (i := 5) rfl v38_5 d38_5 c38_5) qpa_nil se_Name) se_Name) se_Name) gd_Pack) (qpa_cons (qpe_var (i := 3) rfl v38_3 d38_3 c38_3) (qpa_cons (qpe_var (i := 15) rfl v38_15 d38_15 c38_15) (qpa_cons (qpe_var (i := 5) rfl v38_5 d38_5 c38_5) qpa_nil se_Name) se_Name) se_Name) se_Call) gd__law_right) (qpe_one (qpe_callD D_law_right hr g38__law_right pass0 (qpa_cons (qpe_var (i := 8) rfl v38_8 d38_8 c38_8) (qpa_cons (qpe_var (i := 3) rfl v38_3 d38_3 c38_3) (qpa_cons (qpe_var (i := 4) rfl v38_4 d38_4 c38_4) (qpa_cons (qpe_var (i := 5) rfl v38_5 d38_5 c38_5) qpa_nil se_Name) se_Name) se_Name) se_Name) gd__law_right)))))))))))))))))))))), ?_⟩
  (try dsimp only [cxOf])
  have bx : Box (Scr K H a ns) := ⟨hS⟩
  clear hS
  walk_at "rd"
  refine ⟨bx.h, hb, by omega, by omega, fun m H1 m0 m1 c1 b1 => ?_⟩
  obtain ⟨ins, ei, i20⟩ : ∃ n : Nat, m % 5 = (n : Int) ∧ n ≤ 20 := ⟨(m % 5).toNat, by omega, by omega⟩
  obtain ⟨many, em, m20⟩ : ∃ n : Nat, m / 5 % 9 = (n : Int) ∧ n ≤ 20 := ⟨(m / 5 % 9).toNat, by omega, by omega⟩
  obtain ⟨outs, eo, o20⟩ : ∃ n : Nat, m / 45 % 5 = (n : Int) ∧ n ≤ 20 := ⟨(m / 45 % 5).toNat, by omega, by omega⟩
  have d1 : DQ K H H1 a b ns (c + 1) := ⟨c1, bx.h.ch hb c1, b1⟩
  walk_at "rd"
  dsimp only
  rw [ei, em, eo]
  refine ⟨rfl, d1.hS, d1.hb, by omega, by omega, i20, m20, o20, fun R bl ol bs os H2 dp lb lo hR => ?_⟩
  clear ei em eo c1 b1
  obtain ⟨c2, d2, c2a, c2b⟩ := dp.d
  have hb2 := d2.hb
  have b20 : bs.length ≤ 20 := by omega
  have oo20 : os.length ≤ 20 := by omega
  have d02 := d1.trans d2
  have dr2 := dp.dr hb2 (Ch.refl _ _) b20 oo20
  obtain ⟨bps, hbl, bb⟩ := dr2.b
  obtain ⟨ops, hol, oo⟩ := dr2.o
  have lbp := Paired.length bb
  have lop := Paired.length oo
  rw [List.length_map] at lop
  have nbb := dp.nb.1
  have nbo := dp.nb.2
  have lbp2 : (bps.map V.ref).length = bs.length := by rw [List.length_map, lbp]
  have fx : ∀ H', Ch [b] H2 H' → H' bl = some (.lst (bps.map V.ref)) ∧ Paired (BkAt .list H') bs bps ∧ H' ol = some (.lst (ops.map V.ref)) ∧ Paired (PgAt H') (os.map sg) ops := fun H' e => ⟨e.get hbl (by simpa using nbb), paired_imp (fun _ _ z => BgAt.chb z e hb2) bb, e.get hol (by simpa using nbo), paired_imp (fun _ _ z => PgAt.tu (Tu.lst e hb2) z) oo⟩
  walk_at "rd"
  refine comp_list (bps.map V.ref) (fun i ys σ H' => Ch [] H2 H' ∧ (∃ us, ys = us.map V.ref ∧ Paired (BF H2 H') (bs.take i) us) ∧ ∃ u, σ = [u]) (by rw [sizeLine_eq, List.length_map]; omega) ⟨Ch.refl _ _, ⟨[], rfl, .nil⟩, _, rfl⟩ ?_ ?_ ?_
  · rintro i ys σ H' hi ⟨c, ⟨us, rfl, uu⟩, _⟩
    refine ⟨?_, SqL.of (c.get hbl (by simp))⟩
    rw [List.length_map, ← Paired.length uu, List.length_take]
    omega
  · rintro i ys σ H' z hz ⟨c, ⟨us, rfl, uu⟩, u, rfl⟩
    obtain ⟨p, t, rfl, et, tp⟩ := paired_get bb i z hz
    obtain ⟨lp, sps, hp, hs, ws⟩ := BgAt.ch c tp
    have hs : H' lp = some (.lst (sps.map V.ref)) := hs
    walk_at "rd"
    rename_i l1 h1 T1 h2 T2 h3
    refine ⟨by simp, (by show 1 + 3 ≤ sizeLine; rw [sizeLine_eq]; decide), fun z => absurd (congrArg List.length z) (by show ¬ (3 = 0); decide), fun _ T hT => ?_⟩
    have cT : Ch [] H' (upd (upd (upd (upd H' l1 (.lst (sps.map V.ref))) T1 (.tup [.ref l1])) T2 (.tup [.int t.bits, .int t.kept, .int t.first])) T (.tup [.ref l1, .int t.bits, .int t.kept, .int t.first])) := (((Ch.new h1 _).trans (Ch.new h2 _)).trans (Ch.new h3 _)).trans (Ch.new hT _)
    refine ⟨c.trans cT, ⟨us ++ [T], by simp, ?_⟩, _, rfl⟩
    rw [List.take_add_one, et]
    exact paired_snoc ⟨l1, sps, chFree c h1, upd_same, g_new hT (g_new h3 (g_new h2 upd_same)), paired_imp (fun _ _ e => PgAt.tu (Tu.same cT) e) ws⟩ (paired_imp (fun _ _ => BF.ch cT) uu)
  rintro ys σ H3 ⟨c3, ⟨us, rfl, uu⟩, _⟩
  rw [List.length_map, ← lbp, List.take_length] at uu
  have lu := Paired.length uu
  intro l0 hl0
  have hol3 := c3.get hol (by simp)
  walk_at "rd"
  rename_i l1 hl1 Tg hTg lc hlc
  have f0 : H3 l0 = none := hl0
  have f1 : H3 l1 = none := chFree (Ch.new hl0 _) hl1
  have n01 : l0 ≠ l1 := (ne_of_none upd_same hl1)
  have cA : Ch [] H3 (upd (upd (upd (upd H3 l0 (.lst (us.map V.ref))) l1 (.lst (ops.map V.ref))) Tg (.tup (us.map V.ref))) lc (.lst [.ref l0, .ref Tg])) := (((Ch.new hl0 _).trans (Ch.new hl1 _)).trans (Ch.new hTg _)).trans (Ch.new hlc _)
  have g0 : (upd (upd (upd (upd H3 l0 (.lst (us.map V.ref))) l1 (.lst (ops.map V.ref))) Tg (.tup (us.map V.ref))) lc (.lst [.ref l0, .ref Tg])) l0 = some (.lst (us.map V.ref)) := g_new hlc (g_new hTg (g_new hl1 upd_same))
  have g1 : (upd (upd (upd (upd H3 l0 (.lst (us.map V.ref))) l1 (.lst (ops.map V.ref))) Tg (.tup (us.map V.ref))) lc (.lst [.ref l0, .ref Tg])) l1 = some (.lst (ops.map V.ref)) := g_new hlc (g_new hTg upd_same)
  have gT : (upd (upd (upd (upd H3 l0 (.lst (us.map V.ref))) l1 (.lst (ops.map V.ref))) Tg (.tup (us.map V.ref))) lc (.lst [.ref l0, .ref Tg])) Tg = some (.tup (us.map V.ref)) := g_new hlc upd_same
  generalize upd (upd (upd (upd H3 l0 (.lst (us.map V.ref))) l1 (.lst (ops.map V.ref))) Tg (.tup (us.map V.ref))) lc (.lst [.ref l0, .ref Tg]) = HA at cA g0 g1 gT ⊢
  clear hl0 hl1 hTg hlc
  have c2A := c3.trans cA
  have asko : ∃ ps, SqX .list HA l1 (ps.map V.ref) ∧ Paired (PgAt HA) (os.map sg) ps := ⟨ops, g1, paired_imp (fun _ _ e => PgAt.tu (Tu.same c2A) e) oo⟩
  have uA := paired_map (R := BF H2 H3) (S := BgAt .list HA) (g := Bk.g) (fun _ _ e => (BF.ch cA e).at_) uu
  obtain ⟨g, kd, hat, ask⟩ : ∃ (g : Addr) (kd : SK), atI [V.ref l0, V.ref Tg] (m / 225 % 2) = some (.ref g) ∧ AskAt kd .list .list HA g l1 (bs.map Bk.g) (os.map sg) := by
    have : m / 225 % 2 = 0 ∨ m / 225 % 2 = 1 := by omega
    rcases this with h | h <;> rw [h]
    · exact ⟨l0, .list, rfl, ⟨us, g0, uA⟩, asko, by rw [List.length_map]; omega, by rw [List.length_map]; omega⟩
    · exact ⟨Tg, .tuple, rfl, ⟨us, gT, uA⟩, asko, by rw [List.length_map]; omega, by rw [List.length_map]; omega⟩
  refine Atx.of hat ?_
  have aok := aok_of dp.ok dp.oo dp.ac
  clear hat uA gT asko
  walk_at "rd"
  rename_i x dx hx hdx nx
  refine ⟨ask.ch (Ch.inst hx hdx nx), aok, fun bt ot H5 c5 hx5 pk5 => ⟨rfl, ?_⟩⟩
  have cA5 := Ch.made hx hdx nx c5
  have c25 := c2A.trans cA5
  clear c5 hx hdx nx ask
  have rj5 : RJ C b x dx bt ot ins bs os c2 H2 H5 := ⟨c25.wk, hx5, pk5, c25.get hb2 (by simp)⟩
  obtain ⟨lps, plp, nlp, lsp⟩ := ex_lps uu (fun x hx => (dp.ok x hx).s4)
  have nbl : ∀ p ∈ lps, b ≠ p := fun p hp z => by have := nlp p hp; rw [← z, hb2] at this; cases this
  have n3 : ∀ p ∈ lps, ∀ r, H3 r = none → r ≠ p := fun p hp r hr z => by obtain ⟨ys, e, _⟩ := lsp.h p hp; rw [z, e] at hr; cases hr
  have hb3 := c3.get hb2 (by simp)
  have nb1 : b ≠ l1 := ne_of_none hb3 f1
  have h21 : H2 l1 = none := chFree c3 f1
  have c35 := cA.trans cA5
  have plp5 : Paired (fun lp p => ∃ x y z : Int, H5 p = some (.tup [.ref lp, .int x, .int y, .int z])) lps us := paired_imp (fun _ _ ⟨x, y, z, e⟩ => ⟨x, y, z, c35.get e (by simp)⟩) plp
  have g05 := cA5.get g0 (by simp)
  have g15 := cA5.get g1 (by simp)
  have ls5 : Ls H5 lps 4 := lsp.new c35
  clear g0 g1 plp lsp hx5 pk5 c35 cA5 cA hol3
  walk_at "rd"
  refine loop_list (xs := us.map V.ref) (fun i σ H' => RJ C b x dx bt ot ins bs os c2 H2 H' ∧ Tu H5 H' ∧ H' l0 = some (.lst (us.map V.ref)) ∧ H' l1 = some (.lst (ops.map V.ref)) ∧ Ls H' lps (4 + i) ∧ ∃ u, σ = [some (.ref a), some (.ref b), some (.int m), some (.int (ins : Int)), some (.ref bl), some (.ref ol), some (.ref l0), some (.ref l1), some (.ref x), u, none, none, none, none, none, none]) ⟨rj5, Tu.refl _, g05, g15, ls5, _, rfl⟩ ?_ ?_ ?_
  · rintro i σ H' hi ⟨_, _, h, _⟩
    exact SqL.of h
  · rintro i z σ H' hz ⟨rj, tu, h0', h1', ls, u, rfl⟩
    have il : i < 20 := by have := (List.getElem?_eq_some_iff.mp hz).1; rw [List.length_map] at this; omega
    obtain ⟨p, lp, rfl, el, x1, y1, z1, hp⟩ := paired_get plp5 i z hz
    have ml := List.mem_of_getElem? el
    have hp := tu _ _ hp
    obtain ⟨ys, hy, ly⟩ := ls.h lp ml
    walk_at "rd"
    rename_i T hT
    have e := Ch.new (W := []) hT (HO.tup [V.str "in", V.int 99])
    have hy' := e.get hy (by simp)
    exact ⟨(rj.new e).app hy' (nlp lp ml) (nbl lp ml), (tu.trans (Tu.same e)).trans (Tu.lst Ch.put hy'), g_put (n3 lp ml l0 f0) (e.get h0' (by simp)), g_put (n3 lp ml l1 f1) (e.get h1' (by simp)), (ls.new e).app hy' ly, _, rfl⟩
  rintro σ H6 ⟨rj6, _, _, h16, _, u9, rfl⟩
  clear rj5 plp5 g05 g15 ls5 nlp nbl n3
  have l20 : (ops.map V.ref).length ≤ 20 := by rw [List.length_map]; omega
  have rj7 := rj6.app (ys := ops.map V.ref ++ [.non]) h16 h21 nb1
  have hx7 := rj7.hx
  have pk7 := rj7.pk
  have l40 : (bs.map Bk.g).length ≤ 40 := by rw [List.length_map]; omega
  have o40 : (os.map sg).length ≤ 40 := by rw [List.length_map]; omega
  walk_at "rd"
  rename_i x2 dx2 hx2 hdx2 nx2
  refine ⟨(pk7.tu (Tu.same (Ch.inst hx2 hdx2 nx2))).ask l40 o40, aok, fun bt2 ot2 H8 c8 hx8 pk8 => ⟨rfl, ?_⟩⟩
  have c78 := Ch.made hx2 hdx2 nx2 c8
  have rj8 := rj7.new c78
  have dr8 := dp.dr hb2 rj8.ch b20 oo20
  have hx8' := rj8.hx
  have pk8' := rj8.pk
  clear rj7 rj6 hx7 pk7 c8 hx2 hdx2 nx2 h16 c78
  walk_at "rd"
  rename_i H9 c9
  have rj9 := rj8.new c9
  have dr9 := dp.dr hb2 rj9.ch b20 oo20
  refine ⟨pk8.tu (Tu.same c9), dr9, fun H10 c10 => ?_⟩
  have rj10 := rj9.new c10
  clear rj8 rj9 dr8 dr9 hx8 pk8 hx8' pk8' c9 c10
  walk_at "rd"
  refine loop_range (fun i σ H' => ∃ u9 u11 u12, σ = [some (.ref a), some (.ref b), some (.int m), some (.int (ins : Int)), some (.ref bl), some (.ref ol), some (.ref l0), some (.ref l1), some (.ref x), u9, some (.ref x2), u11, u12, none, none, none] ∧ RJ C b x dx bt ot ins bs os (c2 + i) H2 H') ⟨_, _, _, rfl, by simpa using rj10⟩ ?_ ?_
  · clear rj10
    rintro i σ H' hi ⟨u9, u11, u12, rfl, rj⟩
    have hi : i < 4 := by simpa using hi
    have hS' := d2.hS.ch hb2 rj.ch
    have hb' := rj.hb
    have hbl' := (fx _ rj.ch).1
    walk_at "rd"
    rename_i n H20 n0 n1 c20 b20' p g H21 c21 sn q1 g1 q2 g2
    rw [lbp2] at sn
    have rj21 := (rj.next c20 b20').new c21
    obtain ⟨_, pp21, ho21, oo21⟩ := fx _ rj21.ch
    have cQ : Ch [] H21 (upd (upd H21 q1 (.lst [.ref p])) q2 (.lst (bps.map V.ref ++ [.ref p]))) := (Ch.new g1 _).trans (Ch.new g2 _)
    have ask : AskAt .list .list .list (upd (upd H21 q1 (.lst [.ref p])) q2 (.lst (bps.map V.ref ++ [.ref p]))) q2 ol (bs.map Bk.g ++ [g]) (os.map sg) := ⟨⟨bps ++ [p], by rw [List.map_append]; exact upd_same, paired_snoc (sn.b.ch cQ) (paired_map (fun _ _ e => BgAt.ch cQ e) pp21)⟩, ⟨ops, cQ.get ho21 (by simp), paired_imp (fun _ _ e => PgAt.tu (Tu.same cQ) e) oo21⟩, by simp; omega, o40⟩
    refine ⟨ask, no_str sn.no, fun H23 c23 => ?_⟩
    walk_at "rd"
    have e : c2 + (i : Int) + 1 = c2 + ((i + 1 : Nat) : Int) := by omega
    rw [e] at rj21
    exact (rj21.new cQ).new c23
  clear rj10
  rintro σ H11 ⟨u9, u11, u12, rfl, rj⟩
  have rj : RJ C b x dx bt ot ins bs os (c2 + 4) H2 H11 := rj
  have hS' := d2.hS.ch hb2 rj.ch
  have hb' := rj.hb
  have hbl' := (fx _ rj.ch).1
  have hol' := (fx _ rj.ch).2.2.1
  have lop2 : (ops.map V.ref).length = os.length := by rw [List.length_map, lop]
  walk_at "rd"
  rename_i n H12 n0 n1 c12 b12 a1 g1 a2 g2 a3 g3 a4 g4 a5 g5 a6 g6
  dsimp only at *
  rw [lbp2] at *
  have rj12 := rj.next c12 b12
  generalize hH9 : upd _ a6 _ = H9
  have c9 : Ch [] H12 H9 := by rw [← hH9]; walk_at "ch"
  obtain ⟨pw, xs, hat, pg, no⟩ : ∃ (pw : Addr) (xs : List V), atI [V.ref a1, V.ref a2, V.ref a3, V.ref a4, V.ref a5] (n % 5) = some (.ref pw) ∧ PgAt H9 xs pw ∧ plB ins bs.length xs = false := by
    have : n % 5 = 0 ∨ n % 5 = 1 ∨ n % 5 = 2 ∨ n % 5 = 3 ∨ n % 5 = 4 := by omega
    rcases this with h | h | h | h | h <;> rw [h]
    · exact ⟨a1, [.str "in", .int (ins : Int)], rfl, ⟨by rw [← hH9]; walk_at "get", .inr ⟨_, _, rfl⟩⟩, plB_no (x := false) (.inr (Int.le_refl _))⟩
    · exact ⟨a2, [.str "block", .int (bs.length : Int)], rfl, ⟨by rw [← hH9]; walk_at "get", .inr ⟨_, _, rfl⟩⟩, plB_no (x := true) (.inr (Int.le_refl _))⟩
    · exact ⟨a3, [.str "in", .int (-1)], rfl, ⟨by rw [← hH9]; walk_at "get", .inr ⟨_, _, rfl⟩⟩, plB_no (x := false) (.inl (by decide))⟩
    · exact ⟨a4, [.str "table", .int 0], rfl, ⟨by rw [← hH9]; walk_at "get", .inr ⟨_, _, rfl⟩⟩, rfl⟩
    · exact ⟨a5, [.str "in"], rfl, ⟨by rw [← hH9]; walk_at "get", .inl (by decide)⟩, rfl⟩
  refine Atx.of hat ?_
  have rj13 := rj12.new c9
  obtain ⟨hbl9, bb9, hol9, oo9⟩ := fx _ rj13.ch
  clear hat hH9 g1 g2 g3 g4 g5 g6 c9 rj12 rj c12 b12 hbl' hol' hS' hb'
  walk_at "rd"
  rename_i q1 h1 q2 h2
  have cQ : Ch [] H9 (upd (upd H9 q1 (.lst [.ref pw])) q2 (.lst (ops.map V.ref ++ [.ref pw]))) := (Ch.new h1 _).trans (Ch.new h2 _)
  have ask : AskAt .list .list .list (upd (upd H9 q1 (.lst [.ref pw])) q2 (.lst (ops.map V.ref ++ [.ref pw]))) bl q2 (bs.map Bk.g) (os.map sg ++ [xs]) := ⟨⟨bps, cQ.get hbl9 (by simp), paired_map (fun _ _ e => BgAt.ch cQ e) bb9⟩, ⟨ops ++ [pw], by rw [List.map_append]; exact upd_same, paired_snoc (PgAt.tu (Tu.same cQ) pg) (paired_imp (fun _ _ e => PgAt.tu (Tu.same cQ) e) oo9)⟩, l40, by simp; omega⟩
  refine ⟨ask, fun n' e ok => ?_, fun H14 c14 => ?_⟩
  · have e' : ins = n' := by omega
    subst e'
    have z := ok.o xs (by simp)
    rw [List.length_map, no] at z
    cases z
  have rj14 := (rj13.new cQ).new c14
  clear ask pg rj13 cQ h1 h2 c14 hbl9 bb9 hol9 oo9
  walk_at "rd"
  rename_i q3 h3 q4 h4
  have ask : AskAt .list .list .list (upd (upd H14 q3 (.lst [])) q4 (.lst [])) q3 q4 [] [] := ⟨⟨[], g_new h4 upd_same, .nil⟩, ⟨[], upd_same, .nil⟩, by simp, by simp⟩
  refine ⟨ask, fun n' e ok => by omega, fun H15 c15 => ?_⟩
  have rj15 := (rj14.new ((Ch.new h3 _).trans (Ch.new h4 _))).new c15
  obtain ⟨hbl15, bb15, hol15, oo15⟩ := fx _ rj15.ch
  clear ask rj14 h3 h4 c15
  have l30 : bs.length ≤ 30 := by omega
  walk_at "rd"
  rename_i lr pr H16 c16 hlr ppr
  have rj16 := rj15.new c16
  have elr : (bs ++ [rg1 bs.length, rg2 bs.length]).length = bs.length + 2 := by rw [List.length_append]; rfl
  have ask : AskAt .list .list .list H16 lr ol ((bs ++ [rg1 bs.length, rg2 bs.length]).map Bk.g) (os.map sg) := ⟨⟨pr, hlr, paired_map (R := BkAt .list H16) (S := BgAt .list H16) (g := Bk.g) (fun _ _ e => e) ppr⟩, ⟨ops, (fx _ rj16.ch).2.2.1, (fx _ rj16.ch).2.2.2⟩, by rw [List.length_map, elr]; omega, o40⟩
  refine ⟨ask, fun n' e ok => no_ring (ok.a _ rfl), fun H17 c17 => ?_⟩
  have rj17 := rj16.new c17
  obtain ⟨hbl17, bb17, hol17, oo17⟩ := fx _ rj17.ch
  clear ask rj15 rj16 c16 c17 hlr ppr hbl15 bb15 hol15 oo15
  walk_at "rd"
  rename_i lr2 pr2 H18 c18 hlr2 ppr2
  have lpr := Paired.length ppr2
  rw [elr] at lpr
  have rj18 := rj17.new c18
  clear rj17 c18
  obtain ⟨rb, erb⟩ : ∃ rb, bs ++ [rg1 bs.length, rg2 bs.length] = rb := ⟨_, rfl⟩
  have okr := rings_ok dp.ok
  rw [erb] at ppr2 elr okr
  refine comp_list (pr2.map V.ref) (fun i ys σ H' => Ch [] H18 H' ∧ (∃ us, ys = us.map V.ref ∧ Paired (BkAt .list H') ((rb.take i).map kp) us) ∧ ∃ u0 u1 u2 u3, σ = [u0, u1, u2, u3]) (by rw [sizeLine_eq, List.length_map]; omega) ⟨Ch.refl _ _, ⟨[], rfl, .nil⟩, _, _, _, _, rfl⟩ ?_ ?_ ?_
  · rintro i ys σ H' hi ⟨c, ⟨us, rfl, uu⟩, _⟩
    refine ⟨?_, SqL.of (c.get hlr2 (by simp))⟩
    rw [List.length_map, ← Paired.length uu, List.length_map, List.length_take]
    omega
  · rintro i ys σ H' z hz ⟨c, ⟨us, rfl, uu⟩, u0, u1, u2, u3, rfl⟩
    obtain ⟨p, t, rfl, et, tp⟩ := paired_get ppr2 i z hz
    obtain ⟨lp, sps, hp, hs, ws⟩ := BgAt.ch c tp
    walk_at "rd"
    rename_i T hT
    have cT : Ch [] H' (upd H' T (.tup [.ref lp, .int t.bits, .int 1, .int 0])) := Ch.new hT _
    refine ⟨⟨us ++ [T], by simp, ?_⟩, _, _, _, _, rfl⟩
    rw [List.take_add_one, et, List.map_append]
    exact paired_snoc ⟨lp, sps, upd_same, hs.ch cT, paired_imp (fun _ _ e => PgAt.tu (Tu.same cT) e) ws⟩ (paired_imp (fun _ _ => BgAt.ch cT) uu)
  rintro ys σ H19 ⟨c19, ⟨us3, rfl, uu3⟩, _⟩
  rw [List.length_map, ← lpr, ← elr, List.take_length] at uu3
  intro lq hlq
  have cq : Ch [] H19 (upd H19 lq (.lst (us3.map V.ref))) := Ch.new hlq _
  have gq : (upd H19 lq (.lst (us3.map V.ref))) lq = some (.lst (us3.map V.ref)) := upd_same
  have rj19 := (rj18.new c19).new cq
  have uq := paired_imp (fun _ _ => BgAt.ch cq) uu3
  generalize upd H19 lq (.lst (us3.map V.ref)) = H20 at cq gq rj19 uq ⊢
  clear rj18 c19 cq uu3 hlq hlr2 ppr2
  have lk : (rb.map kp).length = bs.length + 2 := by rw [List.length_map, elr]
  have aok2 : AOk ins ((rb.map kp).map Bk.g) (os.map sg) := aok_of (by rw [lk]; exact okr) (fun s hs => by rw [lk]; exact Nat.lt_of_lt_of_le (dp.oo s hs) (lim_mono (by omega) _)) (kp_acy rb)
  obtain ⟨_, _, hol20, oo20'⟩ := fx _ rj19.ch
  have ask : AskAt .list .list .list H20 lq ol ((rb.map kp).map Bk.g) (os.map sg) := ⟨⟨us3, gq, paired_map (R := BkAt .list H20) (S := BgAt .list H20) (g := Bk.g) (fun _ _ e => e) uq⟩, ⟨ops, hol20, oo20'⟩, by rw [List.length_map, lk]; omega, o40⟩
  walk_at "rd"
  rename_i x3 dx3 hx3 hdx3 nx3
  refine ⟨ask.ch (Ch.inst hx3 hdx3 nx3), aok2, fun bt3 ot3 H21 c21 hx21 pk21 => ⟨rfl, ?_⟩⟩
  have c22 := Ch.made hx3 hdx3 nx3 c21
  have rj21 := rj19.new c22
  have dr3 : DrP H21 lq ol (rb.map kp) os := ⟨⟨us3, c22.get gq (by simp), paired_imp (fun _ _ => BgAt.ch c22) uq⟩, ⟨ops, (fx _ rj21.ch).2.2.1, (fx _ rj21.ch).2.2.2⟩, fun x hx => (okr x hx).s4, by rw [lk]; omega, by omega⟩
  clear ask aok2 rj19 c21 hx3 hdx3 nx3 uq gq
  walk_at "rd"
  rename_i H23 c23
  have rj23 := rj21.new c23
  have hx23 := rj23.hx
  have pk23 := rj23.pk
  have dr23 := dp.dr hb2 rj23.ch b20 oo20
  refine ⟨hx23, pk23, dr23, fun H24 c24 => ?_⟩
  have rj24 := rj23.new c24
  exact q _ _ ⟨d02.ch.trans rj24.ch, d2.hS.ch hb2 rj24.ch, rj24.hb⟩ (by omega) (by omega)
end
end

section
section
variable {P : Program} {w : World} {K : PySem.W.Frag} {mg : Str → Option Value} {base : Heap} {f : Addr} {fd : FuncData} {k : Nat}
theorem gd__law_round : Nd "_law_round" := by decide +kernel
def spLaw (K : PySem.W.Frag) : Sp := fun vs H Q _ => ∃ (a : Addr) (ns : List Int), vs = [.ref a] ∧ Scr K H a ns ∧ ∀ H', Q (.bl true) H'
theorem l39_1 : Lc (defScope (top 39)) "_law_at" := by decide +kernel
theorem g39_range : Gi (defScope (top 39)) "range" := by decide +kernel
theorem g39_len : Gi (defScope (top 39)) "len" := by decide +kernel
theorem v39_0 : Vs (defScope (top 39)) "_law_script" := by decide +kernel
theorem d39_0 : Nd "_law_script" := by decide +kernel
theorem c39_0 : Nc "_law_script" := by decide +kernel
theorem l39_2 : Lc (defScope (top 39)) "_law_k" := by decide +kernel
theorem g39__law_round : Gi (defScope (top 39)) "_law_round" := by decide +kernel
theorem v39_1 : Vs (defScope (top 39)) "_law_at" := by decide +kernel
theorem d39_1 : Nd "_law_at" := by decide +kernel
theorem c39_1 : Nc "_law_at" := by decide +kernel
theorem scLaw : FnScope ["_law_script", "_law_at", "_law_k"] ["_law_script"] (defScope (top 39)) := ⟨rfl, rfl, rfl, by decide +kernel, rfl, by decide +kernel, by decide +kernel⟩
theorem ok_law (F : Fun K "law" "law" (top 39) f fd) (D_law_round : DefOk P w K mg base CX0 k "_law_round" ["_law_script", "_law_at"] (spRnd K)) (z_range : mg "range" = none) (z_len : mg "len" = none) : FnOk P w K mg base CX0 (k + 1) f fd ["_law_script"] (spLaw K) := by
  have nd := scLaw.nd
  refine F.ok scLaw (fun vs H Q E h => by obtain ⟨a, ns, rfl, _⟩ := h; rfl) (fun cdv A outer s H vs Q E hr h => ?_)
  obtain ⟨a, ns, rfl, hS, q⟩ := h
  refine ⟨_, (Pr.h (qpss_cons (qps_set (i := 1) nd rfl l39_1 (qpe_lst (qpa_cons qpe_int qpa_nil se_Constant)))
 (qpss_cons (qps_loop PassesOwn.never rfl (qpi_range1 g39_range z_range (qpa_cons (qpe_op op_add qpe_int (qpe_op op_fdivW (qpe_callB call_len_seq g39_len z_len PySem.boot_len (qpa_cons (qpe_slice sl_list (qpe_var (i := 0) rfl v39_0 d39_0 c39_0) qpo_none (qpo_some qpe_int)) qpa_nil se_Subscript) nn_len gd_len) qpe_int)) qpa_nil se_BinOp)) (qpg_name (i := 2) nd rfl l39_2)
  (qpss_one (qps_if (qpt_not (qpt_val (qpe_callD D_law_round hr g39__law_round pass0 (qpa_cons (qpe_var (i := 0) rfl v39_0 d39_0 c39_0) (qpa_cons (qpe_var (i := 1) rfl v39_1 d39_1 c39_1) qpa_nil se_Name) se_Name) gd__law_round)))
  (qpss_one (qps_ret qpe_bl))
  qpss_nil)))
 (qpss_one (qps_ret qpe_bl))))), ?_⟩
  (try dsimp only [cxOf])
  have l63 := hS.1
  walk_at "rd"
  rename_i b hb l hl
  have kc := cutV_length (ns.map V.int) none (some 60)
  rw [List.length_map] at kc
  refine ⟨by omega, ?_⟩
  have cc : Ch [] H (upd (upd H b (.lst [.int 0])) l (.lst (cutV (ns.map V.int) none (some 60)))) := (Ch.new hb _).trans (Ch.new hl _)
  refine loop_range (fun i σ H' => ∃ (c : Int) (u : Option V), σ = [some (.ref a), some (.ref b), u] ∧ Scr K H' a ns ∧ H' b = some (.lst [.int c]) ∧ 0 ≤ c ∧ c ≤ 2000 * i) ⟨0, _, rfl, hS.same cc, g_new hl upd_same, by omega, by omega⟩ ?_ ?_
  · rintro i σ H' hi ⟨c, u, rfl, hS', hb', c0, c1⟩
    have hi : i < 100 := by have : i < (1 + ((cutV (ns.map V.int) none (some 60)).length : Int) / 40).toNat := hi; omega
    walk_at "rd"
    rename_i c' H2 d c'0 c'1
    exact ⟨d.hS, d.hb, by omega, by omega⟩
  · rintro σ H' ⟨c, u, rfl, _⟩
    walk_at "rd"
    exact q _
end
end

section
theorem xsub_of {K : PySem.W.Frag} {C CF : Addr} (e : PySem.W.mroIn K C (.ref CF) = some true) : XSub K C CF := by
  obtain ⟨cd, a, b⟩ := Option.bind_eq_some_iff.mp e
  unfold PySem.W.clsIn at a
  split at a
  case h_2 => cases a
  case h_1 cl di cd' sl ho =>
    cases a
    unfold XSub
    rw [ho]
    split at b
    · cases b
    · exact Option.some.inj b
theorem cls_of {K : PySem.W.Frag} {C : Addr} {v : Value} (e : PySem.W.mroIn K C v = some true) : (PySem.W.clsIn K C).isSome = true := by
  obtain ⟨cd, a, b⟩ := Option.bind_eq_some_iff.mp e
  rw [a]
  rfl
theorem all_mk {l : PySem.W.OpenLaw} {w : World} {K : PySem.W.Frag} {h : Heap} {mg : Str → Option Value} {fa CP : Addr} (X : K.In h) (G : h.Ns mainGlobals mg) (hfa : mg "law" = some (.ref fa))
    {f0 : Addr} {od0 an0 : Option Addr} {sl0 : Array (Option Value)} {oc0 kV0 dc0 pm0 cd0 ct0 : Value}
    {f1 : Addr} {od1 an1 : Option Addr} {sl1 : Array (Option Value)} {oc1 kV1 dc1 pm1 cd1 ct1 : Value}
    {f2 : Addr} {od2 an2 : Option Addr} {sl2 : Array (Option Value)} {oc2 kV2 dc2 pm2 cd2 ct2 : Value}
    {f3 : Addr} {od3 an3 : Option Addr} {sl3 : Array (Option Value)} {oc3 kV3 dc3 pm3 cd3 ct3 : Value}
    {f4 : Addr} {od4 an4 : Option Addr} {sl4 : Array (Option Value)} {oc4 kV4 dc4 pm4 cd4 ct4 : Value}
    {f5 : Addr} {od5 an5 : Option Addr} {sl5 : Array (Option Value)} {oc5 kV5 dc5 pm5 cd5 ct5 : Value}
    {f6 : Addr} {od6 an6 : Option Addr} {sl6 : Array (Option Value)} {oc6 kV6 dc6 pm6 cd6 ct6 : Value}
    {f7 : Addr} {od7 an7 : Option Addr} {sl7 : Array (Option Value)} {oc7 kV7 dc7 pm7 cd7 ct7 : Value}
    {f8 : Addr} {od8 an8 : Option Addr} {sl8 : Array (Option Value)} {oc8 kV8 dc8 pm8 cd8 ct8 : Value}
    {f9 : Addr} {od9 an9 : Option Addr} {sl9 : Array (Option Value)} {oc9 kV9 dc9 pm9 cd9 ct9 : Value}
    {f10 : Addr} {od10 an10 : Option Addr} {sl10 : Array (Option Value)} {oc10 kV10 dc10 pm10 cd10 ct10 : Value}
    {f11 : Addr} {od11 an11 : Option Addr} {sl11 : Array (Option Value)} {oc11 kV11 dc11 pm11 cd11 ct11 : Value}
    {f12 : Addr} {od12 an12 : Option Addr} {sl12 : Array (Option Value)} {oc12 kV12 dc12 pm12 cd12 ct12 : Value}
    {f13 : Addr} {od13 an13 : Option Addr} {sl13 : Array (Option Value)} {oc13 kV13 dc13 pm13 cd13 ct13 : Value}
    {f14 : Addr} {od14 an14 : Option Addr} {sl14 : Array (Option Value)} {oc14 kV14 dc14 pm14 cd14 ct14 : Value}
    {f15 : Addr} {od15 an15 : Option Addr} {sl15 : Array (Option Value)} {oc15 kV15 dc15 pm15 cd15 ct15 : Value}
    {f16 : Addr} {od16 an16 : Option Addr} {sl16 : Array (Option Value)} {oc16 kV16 dc16 pm16 cd16 ct16 : Value}
    {f17 : Addr} {od17 an17 : Option Addr} {sl17 : Array (Option Value)} {oc17 kV17 dc17 pm17 cd17 ct17 : Value}
    {f18 : Addr} {od18 an18 : Option Addr} {sl18 : Array (Option Value)} {oc18 kV18 dc18 pm18 cd18 ct18 : Value}
    {f19 : Addr} {od19 an19 : Option Addr} {sl19 : Array (Option Value)} {oc19 kV19 dc19 pm19 cd19 ct19 : Value}
    {f20 : Addr} {od20 an20 : Option Addr} {sl20 : Array (Option Value)} {oc20 kV20 dc20 pm20 cd20 ct20 : Value}
    {f21 : Addr} {od21 an21 : Option Addr} {sl21 : Array (Option Value)} {oc21 kV21 dc21 pm21 cd21 ct21 : Value}
    {f22 : Addr} {od22 an22 : Option Addr} {sl22 : Array (Option Value)} {oc22 kV22 dc22 pm22 cd22 ct22 : Value}
    {EFloorError ENoRow ENoTables ENoPack ENoFloor EOutOfFloor ENoRoom ENoText ENoSense ENoNet ENoWays ENoBits : Addr}
    (aP : PySem.W.nsIn K mainGlobals "Pack" = some (some (.ref CP)))
    (eFloorError : PySem.W.nsIn K mainGlobals "FloorError" = some (some (.ref EFloorError)))
    (eNoRow : PySem.W.nsIn K mainGlobals "NoRow" = some (some (.ref ENoRow)))
    (eNoTables : PySem.W.nsIn K mainGlobals "NoTables" = some (some (.ref ENoTables)))
    (eNoPack : PySem.W.nsIn K mainGlobals "NoPack" = some (some (.ref ENoPack)))
    (eNoFloor : PySem.W.nsIn K mainGlobals "NoFloor" = some (some (.ref ENoFloor)))
    (eOutOfFloor : PySem.W.nsIn K mainGlobals "OutOfFloor" = some (some (.ref EOutOfFloor)))
    (eNoRoom : PySem.W.nsIn K mainGlobals "NoRoom" = some (some (.ref ENoRoom)))
    (eNoText : PySem.W.nsIn K mainGlobals "NoText" = some (some (.ref ENoText)))
    (eNoSense : PySem.W.nsIn K mainGlobals "NoSense" = some (some (.ref ENoSense)))
    (eNoNet : PySem.W.nsIn K mainGlobals "NoNet" = some (some (.ref ENoNet)))
    (eNoWays : PySem.W.nsIn K mainGlobals "NoWays" = some (some (.ref ENoWays)))
    (eNoBits : PySem.W.nsIn K mainGlobals "NoBits" = some (some (.ref ENoBits)))
    (a0 : PySem.W.nsIn K mainGlobals "is_whole" = some (some (.ref f0))) (l0 : K.lookup f0 = some ⟨oc0, od0, .func (PySem.W.fnOf "is_whole" "is_whole" (defArgs (top 14)) (defBody (top 14)) (defScope (top 14)) .none kV0 dc0 pm0 an0 cd0 ct0), sl0⟩) (c0 : PySem.W.codeIn K cd0 "is_whole" = true) (k0 : PySem.W.keepIn K (.ref f0) = true)
    (a1 : PySem.W.nsIn K mainGlobals "is_below" = some (some (.ref f1))) (l1 : K.lookup f1 = some ⟨oc1, od1, .func (PySem.W.fnOf "is_below" "is_below" (defArgs (top 15)) (defBody (top 15)) (defScope (top 15)) .none kV1 dc1 pm1 an1 cd1 ct1), sl1⟩) (c1 : PySem.W.codeIn K cd1 "is_below" = true) (k1 : PySem.W.keepIn K (.ref f1) = true)
    (a2 : PySem.W.nsIn K mainGlobals "is_listed" = some (some (.ref f2))) (l2 : K.lookup f2 = some ⟨oc2, od2, .func (PySem.W.fnOf "is_listed" "is_listed" (defArgs (top 16)) (defBody (top 16)) (defScope (top 16)) .none kV2 dc2 pm2 an2 cd2 ct2), sl2⟩) (c2 : PySem.W.codeIn K cd2 "is_listed" = true) (k2 : PySem.W.keepIn K (.ref f2) = true)
    (a3 : PySem.W.nsIn K mainGlobals "is_place" = some (some (.ref f3))) (l3 : K.lookup f3 = some ⟨oc3, od3, .func (PySem.W.fnOf "is_place" "is_place" (defArgs (top 17)) (defBody (top 17)) (defScope (top 17)) .none kV3 dc3 pm3 an3 cd3 ct3), sl3⟩) (c3 : PySem.W.codeIn K cd3 "is_place" = true) (k3 : PySem.W.keepIn K (.ref f3) = true)
    (a4 : PySem.W.nsIn K mainGlobals "is_table" = some (some (.ref f4))) (l4 : K.lookup f4 = some ⟨oc4, od4, .func (PySem.W.fnOf "is_table" "is_table" (defArgs (top 19)) (defBody (top 19)) (defScope (top 19)) .none kV4 dc4 pm4 an4 cd4 ct4), sl4⟩) (c4 : PySem.W.codeIn K cd4 "is_table" = true) (k4 : PySem.W.keepIn K (.ref f4) = true)
    (a5 : PySem.W.nsIn K mainGlobals "is_block" = some (some (.ref f5))) (l5 : K.lookup f5 = some ⟨oc5, od5, .func (PySem.W.fnOf "is_block" "is_block" (defArgs (top 21)) (defBody (top 21)) (defScope (top 21)) .none kV5 dc5 pm5 an5 cd5 ct5), sl5⟩) (c5 : PySem.W.codeIn K cd5 "is_block" = true) (k5 : PySem.W.keepIn K (.ref f5) = true)
    (a6 : PySem.W.nsIn K mainGlobals "loose_sources" = some (some (.ref f6))) (l6 : K.lookup f6 = some ⟨oc6, od6, .func (PySem.W.fnOf "loose_sources" "loose_sources" (defArgs (top 22)) (defBody (top 22)) (defScope (top 22)) .none kV6 dc6 pm6 an6 cd6 ct6), sl6⟩) (c6 : PySem.W.codeIn K cd6 "loose_sources" = true) (k6 : PySem.W.keepIn K (.ref f6) = true)
    (a7 : PySem.W.nsIn K mainGlobals "loose_order" = some (some (.ref f7))) (l7 : K.lookup f7 = some ⟨oc7, od7, .func (PySem.W.fnOf "loose_order" "loose_order" (defArgs (top 23)) (defBody (top 23)) (defScope (top 23)) .none kV7 dc7 pm7 an7 cd7 ct7), sl7⟩) (c7 : PySem.W.codeIn K cd7 "loose_order" = true) (k7 : PySem.W.keepIn K (.ref f7) = true)
    (a8 : PySem.W.nsIn K mainGlobals "has_ring" = some (some (.ref f8))) (l8 : K.lookup f8 = some ⟨oc8, od8, .func (PySem.W.fnOf "has_ring" "has_ring" (defArgs (top 24)) (defBody (top 24)) (defScope (top 24)) .none kV8 dc8 pm8 an8 cd8 ct8), sl8⟩) (c8 : PySem.W.codeIn K cd8 "has_ring" = true) (k8 : PySem.W.keepIn K (.ref f8) = true)
    (a9 : PySem.W.nsIn K mainGlobals "ask_pack" = some (some (.ref f9))) (l9 : K.lookup f9 = some ⟨oc9, od9, .func (PySem.W.fnOf "ask_pack" "ask_pack" (defArgs (top 25)) (defBody (top 25)) (defScope (top 25)) .none kV9 dc9 pm9 an9 cd9 ct9), sl9⟩) (c9 : PySem.W.codeIn K cd9 "ask_pack" = true) (k9 : PySem.W.keepIn K (.ref f9) = true)
    (a10 : PySem.W.nsIn K mainGlobals "_law_next" = some (some (.ref f10))) (l10 : K.lookup f10 = some ⟨oc10, od10, .func (PySem.W.fnOf "_law_next" "_law_next" (defArgs (top 28)) (defBody (top 28)) (defScope (top 28)) .none kV10 dc10 pm10 an10 cd10 ct10), sl10⟩) (c10 : PySem.W.codeIn K cd10 "_law_next" = true) (k10 : PySem.W.keepIn K (.ref f10) = true)
    (a11 : PySem.W.nsIn K mainGlobals "_law_some_bits" = some (some (.ref f11))) (l11 : K.lookup f11 = some ⟨oc11, od11, .func (PySem.W.fnOf "_law_some_bits" "_law_some_bits" (defArgs (top 29)) (defBody (top 29)) (defScope (top 29)) .none kV11 dc11 pm11 an11 cd11 ct11), sl11⟩) (c11 : PySem.W.codeIn K cd11 "_law_some_bits" = true) (k11 : PySem.W.keepIn K (.ref f11) = true)
    (a12 : PySem.W.nsIn K mainGlobals "_law_same" = some (some (.ref f12))) (l12 : K.lookup f12 = some ⟨oc12, od12, .func (PySem.W.fnOf "_law_same" "_law_same" (defArgs (top 30)) (defBody (top 30)) (defScope (top 30)) .none kV12 dc12 pm12 an12 cd12 ct12), sl12⟩) (c12 : PySem.W.codeIn K cd12 "_law_same" = true) (k12 : PySem.W.keepIn K (.ref f12) = true)
    (a13 : PySem.W.nsIn K mainGlobals "_law_drawn_source" = some (some (.ref f13))) (l13 : K.lookup f13 = some ⟨oc13, od13, .func (PySem.W.fnOf "_law_drawn_source" "_law_drawn_source" (defArgs (top 31)) (defBody (top 31)) (defScope (top 31)) .none kV13 dc13 pm13 an13 cd13 ct13), sl13⟩) (c13 : PySem.W.codeIn K cd13 "_law_drawn_source" = true) (k13 : PySem.W.keepIn K (.ref f13) = true)
    (a14 : PySem.W.nsIn K mainGlobals "_law_pack_lists" = some (some (.ref f14))) (l14 : K.lookup f14 = some ⟨oc14, od14, .func (PySem.W.fnOf "_law_pack_lists" "_law_pack_lists" (defArgs (top 32)) (defBody (top 32)) (defScope (top 32)) .none kV14 dc14 pm14 an14 cd14 ct14), sl14⟩) (c14 : PySem.W.codeIn K cd14 "_law_pack_lists" = true) (k14 : PySem.W.keepIn K (.ref f14) = true)
    (a15 : PySem.W.nsIn K mainGlobals "_law_only" = some (some (.ref f15))) (l15 : K.lookup f15 = some ⟨oc15, od15, .func (PySem.W.fnOf "_law_only" "_law_only" (defArgs (top 33)) (defBody (top 33)) (defScope (top 33)) .none kV15 dc15 pm15 an15 cd15 ct15), sl15⟩) (c15 : PySem.W.codeIn K cd15 "_law_only" = true) (k15 : PySem.W.keepIn K (.ref f15) = true)
    (a16 : PySem.W.nsIn K mainGlobals "_law_right" = some (some (.ref f16))) (l16 : K.lookup f16 = some ⟨oc16, od16, .func (PySem.W.fnOf "_law_right" "_law_right" (defArgs (top 34)) (defBody (top 34)) (defScope (top 34)) .none kV16 dc16 pm16 an16 cd16 ct16), sl16⟩) (c16 : PySem.W.codeIn K cd16 "_law_right" = true) (k16 : PySem.W.keepIn K (.ref f16) = true)
    (a17 : PySem.W.nsIn K mainGlobals "_law_refused" = some (some (.ref f17))) (l17 : K.lookup f17 = some ⟨oc17, od17, .func (PySem.W.fnOf "_law_refused" "_law_refused" (defArgs (top 35)) (defBody (top 35)) (defScope (top 35)) .none kV17 dc17 pm17 an17 cd17 ct17), sl17⟩) (c17 : PySem.W.codeIn K cd17 "_law_refused" = true) (k17 : PySem.W.keepIn K (.ref f17) = true)
    (a18 : PySem.W.nsIn K mainGlobals "_law_strange" = some (some (.ref f18))) (l18 : K.lookup f18 = some ⟨oc18, od18, .func (PySem.W.fnOf "_law_strange" "_law_strange" (defArgs (top 36)) (defBody (top 36)) (defScope (top 36)) .none kV18 dc18 pm18 an18 cd18 ct18), sl18⟩) (c18 : PySem.W.codeIn K cd18 "_law_strange" = true) (k18 : PySem.W.keepIn K (.ref f18) = true)
    (a19 : PySem.W.nsIn K mainGlobals "_law_ring" = some (some (.ref f19))) (l19 : K.lookup f19 = some ⟨oc19, od19, .func (PySem.W.fnOf "_law_ring" "_law_ring" (defArgs (top 37)) (defBody (top 37)) (defScope (top 37)) .none kV19 dc19 pm19 an19 cd19 ct19), sl19⟩) (c19 : PySem.W.codeIn K cd19 "_law_ring" = true) (k19 : PySem.W.keepIn K (.ref f19) = true)
    (a20 : PySem.W.nsIn K mainGlobals "_law_round" = some (some (.ref f20))) (l20 : K.lookup f20 = some ⟨oc20, od20, .func (PySem.W.fnOf "_law_round" "_law_round" (defArgs (top 38)) (defBody (top 38)) (defScope (top 38)) .none kV20 dc20 pm20 an20 cd20 ct20), sl20⟩) (c20 : PySem.W.codeIn K cd20 "_law_round" = true) (k20 : PySem.W.keepIn K (.ref f20) = true)
    (a21 : PySem.W.nsIn K mainGlobals "law" = some (some (.ref f21))) (l21 : K.lookup f21 = some ⟨oc21, od21, .func (PySem.W.fnOf "law" "law" (defArgs (top 39)) (defBody (top 39)) (defScope (top 39)) .none kV21 dc21 pm21 an21 cd21 ct21), sl21⟩) (c21 : PySem.W.codeIn K cd21 "law" = true) (k21 : PySem.W.keepIn K (.ref f21) = true)
    (a22 : PySem.W.findIn K (.ref CP) "__init__" = some (some (.ref f22))) (l22 : K.lookup f22 = some ⟨oc22, od22, .func (PySem.W.fnOf "__init__" "Pack.__init__" (defArgs (inClass (top 26) 0)) (defBody (inClass (top 26) 0)) (defScope (inClass (top 26) 0)) .none kV22 dc22 pm22 an22 cd22 ct22), sl22⟩) (c22 : PySem.W.codeIn K cd22 "Pack.__init__" = true) (k22 : PySem.W.keepIn K (.ref f22) = true) (i22 : PySem.W.isFn K (.ref f22) = true)
    (pgP : PySem.W.plainGet K CP Str.empty = true) (hdP : PySem.W.hasDictIn K CP = true) (poP : PySem.W.plainOver K CP = true) (saP : PySem.W.findIn K (.ref CP) "__setattr__" = some (some (.builtin "object.__setattr__"))) (mkP : PySem.W.makesIn K CP = true) (kcP : PySem.W.keepIn K (.ref CP) = true)
    (nP_ins : PySem.W.findIn K (.ref CP) "ins" = some none)
    (nP_blocks : PySem.W.findIn K (.ref CP) "blocks" = some none)
    (nP_outs : PySem.W.findIn K (.ref CP) "outs" = some none)
    (z_len : PySem.W.nsIn K mainGlobals "len" = some none)
    (z_range : PySem.W.nsIn K mainGlobals "range" = some none)
    (z_int : PySem.W.nsIn K mainGlobals "int" = some none)
    (z_str : PySem.W.nsIn K mainGlobals "str" = some none)
    (z_isinstance : PySem.W.nsIn K mainGlobals "isinstance" = some none)
    (z_zip : PySem.W.nsIn K mainGlobals "zip" = some none)
    (z_list : PySem.W.nsIn K mainGlobals "list" = some none)
    (z_tuple : PySem.W.nsIn K mainGlobals "tuple" = some none)
    (z_dict : PySem.W.nsIn K mainGlobals "dict" = some none)
    (z_bool : PySem.W.nsIn K mainGlobals "bool" = some none)
    (z_all : PySem.W.nsIn K mainGlobals "all" = some none)
    (z_enumerate : PySem.W.nsIn K mainGlobals "enumerate" = some none)
    (z_ValueError : PySem.W.nsIn K mainGlobals "ValueError" = some none)
    (xcR : PySem.W.excIn K ENoPack bmV "ValueError.__new__" = true) (xcF : PySem.W.excIn K EFloorError bmV "ValueError.__new__" = true) (xsb : PySem.W.mroIn K ENoPack (.ref EFloorError) = some true)
    (xga : PySem.W.findIn K (.ref ENoPack) "__getattribute__" = some (some (.builtin "BaseException.__getattribute__"))) (xgt : PySem.W.findIn K (.ref ENoPack) "__getattr__" = some none) (xcl : PySem.W.findIn K (.ref ENoPack) "__class__" = some (some (.builtin "object.__class__")))
    (xsg : PySem.W.specialIn K (.builtin "object.__class__") "__get__" = some (some (.builtin "getset_descriptor.__get__"))) (xtk : PySem.W.takesIn K (.builtin "object.__class__") = some true) (xmo : PySem.W.mroIn K ENoPack (.type "object") = some true)
    (w_NoText : PySem.W.kitOne K (.ref ENoPack) (.ref ENoText) = some false)
    (w_NoSense : PySem.W.kitOne K (.ref ENoPack) (.ref ENoSense) = some false)
    (w_NoNet : PySem.W.kitOne K (.ref ENoPack) (.ref ENoNet) = some false)
    (w_NoRow : PySem.W.kitOne K (.ref ENoPack) (.ref ENoRow) = some false)
    (w_NoTables : PySem.W.kitOne K (.ref ENoPack) (.ref ENoTables) = some false)
    (w_NoPack : PySem.W.kitOne K (.ref ENoPack) (.ref ENoPack) = some true)
    (w_NoFloor : PySem.W.kitOne K (.ref ENoPack) (.ref ENoFloor) = some false)
    (w_OutOfFloor : PySem.W.kitOne K (.ref ENoPack) (.ref EOutOfFloor) = some false)
    (w_NoRoom : PySem.W.kitOne K (.ref ENoPack) (.ref ENoRoom) = some false)
    (w_NoWays : PySem.W.kitOne K (.ref ENoPack) (.ref ENoWays) = some false)
    (w_NoBits : PySem.W.kitOne K (.ref ENoPack) (.ref ENoBits) = some false)
    (w_V : PySem.W.kitOne K (.ref ENoPack) (.type "ValueError") = some true)
    (oclP : PySem.W.findIn K (.ref CP) "__class__" = some (some (.builtin "object.__class__"))) (omoP : PySem.W.mroIn K CP (.type "object") = some true) (owP : PySem.W.kitOne K (.ref CP) (.ref CP) = some true) :
    ∃ fd : FuncData, (∀ (s : Shared) (v : Value), BindsTo s fd ⟨[v], []⟩ [("_law_script", v)]) ∧ ∀ base : Heap, K.In base → base.Ns mainGlobals mg → FnOk l.prog w K mg base CX0 11 fa fd ["_law_script"] (spLaw K) := by
  have e := hfa.symm.trans (PySem.W.mg_of X G a21)
  cases e
  have F0 := fun_mk (st := top 14) l0 c0 k0
  have b0 := F0.binds (ps := ["thing"]) fun _ _ _ _ _ _ us hl => match us, hl with | [_], _ => rfl
  have m0 := PySem.W.mg_of X G a0
  have F1 := fun_mk (st := top 15) l1 c1 k1
  have b1 := F1.binds (ps := ["thing", "bound"]) fun _ _ _ _ _ _ us hl => match us, hl with | [_, _], _ => rfl
  have m1 := PySem.W.mg_of X G a1
  have F2 := fun_mk (st := top 16) l2 c2 k2
  have b2 := F2.binds (ps := ["thing"]) fun _ _ _ _ _ _ us hl => match us, hl with | [_], _ => rfl
  have m2 := PySem.W.mg_of X G a2
  have F3 := fun_mk (st := top 17) l3 c3 k3
  have b3 := F3.binds (ps := ["thing", "counts"]) fun _ _ _ _ _ _ us hl => match us, hl with | [_, _], _ => rfl
  have m3 := PySem.W.mg_of X G a3
  have F4 := fun_mk (st := top 19) l4 c4 k4
  have b4 := F4.binds (ps := ["thing", "counts"]) fun _ _ _ _ _ _ us hl => match us, hl with | [_, _], _ => rfl
  have m4 := PySem.W.mg_of X G a4
  have F5 := fun_mk (st := top 21) l5 c5 k5
  have b5 := F5.binds (ps := ["thing", "counts"]) fun _ _ _ _ _ _ us hl => match us, hl with | [_, _], _ => rfl
  have m5 := PySem.W.mg_of X G a5
  have F6 := fun_mk (st := top 22) l6 c6 k6
  have b6 := F6.binds (ps := ["blocks", "number"]) fun _ _ _ _ _ _ us hl => match us, hl with | [_, _], _ => rfl
  have m6 := PySem.W.mg_of X G a6
  have F7 := fun_mk (st := top 23) l7 c7 k7
  have b7 := F7.binds (ps := ["blocks"]) fun _ _ _ _ _ _ us hl => match us, hl with | [_], _ => rfl
  have m7 := PySem.W.mg_of X G a7
  have F8 := fun_mk (st := top 24) l8 c8 k8
  have b8 := F8.binds (ps := ["blocks"]) fun _ _ _ _ _ _ us hl => match us, hl with | [_], _ => rfl
  have m8 := PySem.W.mg_of X G a8
  have F9 := fun_mk (st := top 25) l9 c9 k9
  have b9 := F9.binds (ps := ["ins", "blocks", "outs"]) fun _ _ _ _ _ _ us hl => match us, hl with | [_, _, _], _ => rfl
  have m9 := PySem.W.mg_of X G a9
  have F10 := fun_mk (st := top 28) l10 c10 k10
  have b10 := F10.binds (ps := ["_law_script", "_law_at"]) fun _ _ _ _ _ _ us hl => match us, hl with | [_, _], _ => rfl
  have m10 := PySem.W.mg_of X G a10
  have F11 := fun_mk (st := top 29) l11 c11 k11
  have b11 := F11.binds (ps := ["_law_script", "_law_at", "_law_many"]) fun _ _ _ _ _ _ us hl => match us, hl with | [_, _, _], _ => rfl
  have m11 := PySem.W.mg_of X G a11
  have F12 := fun_mk (st := top 30) l12 c12 k12
  have b12 := F12.binds (ps := ["_law_found", "_law_due"]) fun _ _ _ _ _ _ us hl => match us, hl with | [_, _], _ => rfl
  have m12 := PySem.W.mg_of X G a12
  have F13 := fun_mk (st := top 31) l13 c13 k13
  have b13 := F13.binds (ps := ["_law_script", "_law_at", "_law_ins", "_law_blocks"]) fun _ _ _ _ _ _ us hl => match us, hl with | [_, _, _, _], _ => rfl
  have m13 := PySem.W.mg_of X G a13
  have F14 := fun_mk (st := top 32) l14 c14 k14
  have b14 := F14.binds (ps := ["_law_script", "_law_at", "_law_ins", "_law_many", "_law_outs"]) fun _ _ _ _ _ _ us hl => match us, hl with | [_, _, _, _, _], _ => rfl
  have m14 := PySem.W.mg_of X G a14
  have F15 := fun_mk (st := top 33) l15 c15 k15
  have b15 := F15.binds (ps := ["_law_caught", "_law_kind"]) fun _ _ _ _ _ _ us hl => match us, hl with | [_, _], _ => rfl
  have m15 := PySem.W.mg_of X G a15
  have F16 := fun_mk (st := top 34) l16 c16 k16
  have b16 := F16.binds (ps := ["_law_pack", "_law_ins", "_law_blocks", "_law_outs"]) fun _ _ _ _ _ _ us hl => match us, hl with | [_, _, _, _], _ => rfl
  have m16 := PySem.W.mg_of X G a16
  have F17 := fun_mk (st := top 35) l17 c17 k17
  have b17 := F17.binds (ps := ["_law_ins", "_law_blocks", "_law_outs"]) fun _ _ _ _ _ _ us hl => match us, hl with | [_, _, _], _ => rfl
  have m17 := PySem.W.mg_of X G a17
  have F18 := fun_mk (st := top 36) l18 c18 k18
  have b18 := F18.binds (ps := ["_law_m", "_law_ins", "_law_blocks"]) fun _ _ _ _ _ _ us hl => match us, hl with | [_, _, _], _ => rfl
  have m18 := PySem.W.mg_of X G a18
  have F19 := fun_mk (st := top 37) l19 c19 k19
  have b19 := F19.binds (ps := ["_law_blocks"]) fun _ _ _ _ _ _ us hl => match us, hl with | [_], _ => rfl
  have m19 := PySem.W.mg_of X G a19
  have F20 := fun_mk (st := top 38) l20 c20 k20
  have b20 := F20.binds (ps := ["_law_script", "_law_at"]) fun _ _ _ _ _ _ us hl => match us, hl with | [_, _], _ => rfl
  have m20 := PySem.W.mg_of X G a20
  have F21 := fun_mk (st := top 39) l21 c21 k21
  have F22 := fun_mk (st := inClass (top 26) 0) l22 c22 k22
  have b22 := F22.binds (ps := ["self", "ins", "blocks", "outs"]) fun _ _ _ _ _ _ us hl => match us, hl with | [_, _, _, _], _ => rfl
  have z_len := PySem.W.mg_none_of X G z_len
  have z_range := PySem.W.mg_none_of X G z_range
  have z_int := PySem.W.mg_none_of X G z_int
  have z_str := PySem.W.mg_none_of X G z_str
  have z_isinstance := PySem.W.mg_none_of X G z_isinstance
  have z_zip := PySem.W.mg_none_of X G z_zip
  have z_list := PySem.W.mg_none_of X G z_list
  have z_tuple := PySem.W.mg_none_of X G z_tuple
  have z_dict := PySem.W.mg_none_of X G z_dict
  have z_bool := PySem.W.mg_none_of X G z_bool
  have z_all := PySem.W.mg_none_of X G z_all
  have z_enumerate := PySem.W.mg_none_of X G z_enumerate
  have z_ValueError := PySem.W.mg_none_of X G z_ValueError
  have m_FloorError := PySem.W.mg_of X G eFloorError
  have m_NoRow := PySem.W.mg_of X G eNoRow
  have m_NoTables := PySem.W.mg_of X G eNoTables
  have m_NoPack := PySem.W.mg_of X G eNoPack
  have m_NoFloor := PySem.W.mg_of X G eNoFloor
  have m_OutOfFloor := PySem.W.mg_of X G eOutOfFloor
  have m_NoRoom := PySem.W.mg_of X G eNoRoom
  have m_NoText := PySem.W.mg_of X G eNoText
  have m_NoSense := PySem.W.mg_of X G eNoSense
  have m_NoNet := PySem.W.mg_of X G eNoNet
  have m_NoWays := PySem.W.mg_of X G eNoWays
  have m_NoBits := PySem.W.mg_of X G eNoBits
  have mP := PySem.W.mg_of X G aP
  have clP : Cls K CP := ⟨pgP, hdP, poP, saP⟩
  have XR : XC K ENoPack := xcR
  have XF : XC K EFloorError := xcF
  have xa : XA K ENoPack := ⟨XR, xga, xgt, xcl, xsg, xtk, xmo, cls_of xmo⟩
  have sub : XSub K ENoPack EFloorError := xsub_of xsb
  refine ⟨PySem.W.fnOf "law" "law" (defArgs (top 39)) (defBody (top 39)) (defScope (top 39)) .none kV21 dc21 pm21 an21 cd21 ct21, fun s v => .of_eq rfl, fun base _ _ => ?_⟩
  have wp : WP K ENoPack ENoText ENoSense ENoNet ENoRow ENoTables ENoFloor EOutOfFloor ENoRoom ENoWays ENoBits := ⟨xa, w_NoText, w_NoSense, w_NoNet, w_NoRow, w_NoTables, w_NoPack, w_NoFloor, w_OutOfFloor, w_NoRoom, w_NoWays, w_NoBits, w_V⟩
  have D_is_whole_1 : DefOk l.prog w K mg base CX0 1 "is_whole" ["thing"] spWholeG := ⟨f0, _, ok_wholeG (k := 0) F0 z_isinstance z_int z_bool, b0, k0, m0⟩
  have D_is_listed_1 : DefOk l.prog w K mg base CX0 1 "is_listed" ["thing"] spListed := ⟨f2, _, ok_listed (k := 0) F2 z_isinstance z_list z_tuple, b2, k2, m2⟩
  have D_is_below_2 : DefOk l.prog w K mg base CX0 2 "is_below" ["thing", "bound"] spBelowG := ⟨f1, _, ok_belowG (k := 1) F1 D_is_whole_1, b1, k1, m1⟩
  have D_is_place_3 : DefOk l.prog w K mg base CX0 3 "is_place" ["thing", "counts"] spPlaceG := ⟨f3, _, ok_placeG (k := 2) F3 D_is_below_2 z_isinstance z_tuple z_str z_len, b3, k3, m3⟩
  have D_is_table_4 : DefOk l.prog w K mg base CX0 4 "is_table" ["thing", "counts"] spTableG := ⟨f4, _, ok_tableG (k := 3) F4 (D_is_below_2.mono (by omega)) (D_is_listed_1.mono (by omega)) D_is_place_3 z_isinstance z_tuple z_all z_len, b4, k4, m4⟩
  have D_is_block_5 : DefOk l.prog w K mg base CX0 5 "is_block" ["thing", "counts"] spBlockG := ⟨f5, _, ok_blockG (k := 4) F5 (D_is_below_2.mono (by omega)) D_is_table_4 z_isinstance z_tuple z_len, b5, k5, m5⟩
  have D_loose_sources_1 : DefOk l.prog w K mg base CX0 1 "loose_sources" ["blocks", "number"] spLS := ⟨f6, _, ok_ls (k := 0) F6, b6, k6, m6⟩
  have D_loose_order_2 : DefOk l.prog w K mg base CX0 2 "loose_order" ["blocks"] spLO := ⟨f7, _, ok_lo (k := 1) F7 D_loose_sources_1 z_enumerate z_len z_dict, b7, k7, m7⟩
  have D_has_ring_3 : DefOk l.prog w K mg base CX0 3 "has_ring" ["blocks"] spRing := ⟨f8, _, ok_ring (k := 2) F8 D_loose_order_2 z_len, b8, k8, m8⟩
  have DX_ask_pack_6 : DefOk l.prog w K mg base (CXE l.prog w) 6 "ask_pack" ["ins", "blocks", "outs"] (spAskX ENoPack) := ⟨f9, _, ok_askX (k := 5) F9 (D_is_whole_1.mono (by omega)) (D_is_listed_1.mono (by omega)) D_is_block_5 (D_is_place_3.mono (by omega)) (D_has_ring_3.mono (by omega)) z_len z_all m_NoPack XR, b9, k9, m9⟩
  have TX := ok_PackX (k := 6) F22 clP nP_ins nP_blocks nP_outs DX_ask_pack_6 z_tuple
  have MkX : MakeOk l.prog w K mg base (CXE l.prog w) 7 CP "Pack" ["self", "ins", "blocks", "outs"] (spPackX CP ENoPack) := ⟨⟨f22, _, TX, b22, ⟨mkP, a22, i22, kcP⟩, mP⟩⟩
  have MkP : MakeOk l.prog w K mg base CX0 7 CP "Pack" ["self", "ins", "blocks", "outs"] (spPack CP) := ⟨⟨f22, _, TX.calm pack_calm, b22, ⟨mkP, a22, i22, kcP⟩, mP⟩⟩
  have D__law_next_1 : DefOk l.prog w K mg base CX0 1 "_law_next" ["_law_script", "_law_at"] (spNext K) := ⟨f10, _, ok_next (k := 0) F10 z_len z_range, b10, k10, m10⟩
  have D__law_some_bits_2 : DefOk l.prog w K mg base CX0 2 "_law_some_bits" ["_law_script", "_law_at", "_law_many"] (spBits K) := ⟨f11, _, ok_bits (k := 1) F11 D__law_next_1 z_range, b11, k11, m11⟩
  have D__law_same_1 : DefOk l.prog w K mg base CX0 1 "_law_same" ["_law_found", "_law_due"] (spSame 0) := ⟨f12, _, ok_sameF (k := 0) F12, b12, k12, m12⟩
  have D__law_same_2 : DefOk l.prog w K mg base CX0 2 "_law_same" ["_law_found", "_law_due"] (spSame 1) := ⟨f12, _, ok_same 0 (k := 1) F12 D__law_same_1 z_isinstance z_dict z_list z_tuple z_str z_int z_bool z_len z_all z_zip, b12, k12, m12⟩
  have D__law_same_3 : DefOk l.prog w K mg base CX0 3 "_law_same" ["_law_found", "_law_due"] (spSame 2) := ⟨f12, _, ok_same 1 (k := 2) F12 D__law_same_2 z_isinstance z_dict z_list z_tuple z_str z_int z_bool z_len z_all z_zip, b12, k12, m12⟩
  have D__law_same_4 : DefOk l.prog w K mg base CX0 4 "_law_same" ["_law_found", "_law_due"] (spSame 3) := ⟨f12, _, ok_same 2 (k := 3) F12 D__law_same_3 z_isinstance z_dict z_list z_tuple z_str z_int z_bool z_len z_all z_zip, b12, k12, m12⟩
  have D__law_same_5 : DefOk l.prog w K mg base CX0 5 "_law_same" ["_law_found", "_law_due"] (spSame 4) := ⟨f12, _, ok_same 3 (k := 4) F12 D__law_same_4 z_isinstance z_dict z_list z_tuple z_str z_int z_bool z_len z_all z_zip, b12, k12, m12⟩
  have D__law_same_6 : DefOk l.prog w K mg base CX0 6 "_law_same" ["_law_found", "_law_due"] (spSame 5) := ⟨f12, _, ok_same 4 (k := 5) F12 D__law_same_5 z_isinstance z_dict z_list z_tuple z_str z_int z_bool z_len z_all z_zip, b12, k12, m12⟩
  have D__law_drawn_source_2 : DefOk l.prog w K mg base CX0 2 "_law_drawn_source" ["_law_script", "_law_at", "_law_ins", "_law_blocks"] (spSrc K) := ⟨f13, _, ok_src (k := 1) F13 D__law_next_1, b13, k13, m13⟩
  have D__law_pack_lists_3 : DefOk l.prog w K mg base CX0 3 "_law_pack_lists" ["_law_script", "_law_at", "_law_ins", "_law_many", "_law_outs"] (spPL K) := ⟨f14, _, ok_pl (k := 2) F14 (D__law_next_1.mono (by omega)) D__law_some_bits_2 D__law_drawn_source_2 z_range z_len, b14, k14, m14⟩
  have D__law_only_1 : DefOk l.prog w K mg base CX0 1 "_law_only" ["_law_caught", "_law_kind"] (spOnly ENoPack) := ⟨f15, _, ok_only (k := 0) F15 wp m_NoText m_NoSense m_NoNet m_NoRow m_NoTables m_NoPack m_NoFloor m_OutOfFloor m_NoRoom m_NoWays m_NoBits z_isinstance z_ValueError z_len, b15, k15, m15⟩
  have D__law_refused_9 : DefOk l.prog w K mg base CX0 9 "_law_refused" ["_law_ins", "_law_blocks", "_law_outs"] spRef := ⟨f17, _, ok_ref (k := 7) F17 MkX (D__law_only_1.mono (by omega)) m_FloorError XF XR sub, b17, k17, m17⟩
  have D__law_right_7 : DefOk l.prog w K mg base CX0 7 "_law_right" ["_law_pack", "_law_ins", "_law_blocks", "_law_outs"] (spRight CP) := ⟨f16, _, ok_right (k := 6) F16 D__law_same_6 mP clP nP_ins nP_blocks nP_outs oclP xsg xtk omoP owP z_isinstance z_tuple, b16, k16, m16⟩
  have D__law_strange_1 : DefOk l.prog w K mg base CX0 1 "_law_strange" ["_law_m", "_law_ins", "_law_blocks"] spStr := ⟨f18, _, ok_str (k := 0) F18 z_len, b18, k18, m18⟩
  have D__law_ring_1 : DefOk l.prog w K mg base CX0 1 "_law_ring" ["_law_blocks"] spRg := ⟨f19, _, ok_rg (k := 0) F19 z_len, b19, k19, m19⟩
  have D__law_round_10 : DefOk l.prog w K mg base CX0 10 "_law_round" ["_law_script", "_law_at"] (spRnd K) := ⟨f20, _, ok_rnd (k := 8) F20 clP nP_ins nP_blocks nP_outs (D__law_next_1.mono (by omega)) (D__law_pack_lists_3.mono (by omega)) (D__law_right_7.mono (by omega)) D__law_refused_9 (D__law_strange_1.mono (by omega)) (D__law_ring_1.mono (by omega)) (MkP.mono (by omega)) z_range z_list z_tuple z_len, b20, k20, m20⟩
  exact ok_law (k := 10) F21 D__law_round_10 z_range z_len
end

end B17
open PySem PySem.W PyProof.Rows
theorem PySem.W.Fast.tw6981340365615672362 : True := trivial
theorem PySem.W.Fast.tw8266023948171476386 : True := trivial
theorem PySem.W.Fast.tw3379808488070135033 : True := trivial
theorem PySem.W.Fast.tw10936662376900878215 : True := trivial
theorem PySem.W.Fast.tw15631274383967772648 : True := trivial
theorem PySem.W.Fast.tw4399462477216547790 : True := trivial
theorem PySem.W.Fast.tw335725096699491103 : True := trivial
theorem PySem.W.Fast.tw11561042135246757786 : True := trivial
theorem PySem.W.Fast.tw853111816255363645 : True := trivial
theorem PySem.W.Fast.tw5585135010727386288 : True := trivial
theorem PySem.W.Fast.tw17499261798664552901 : True := trivial
theorem PySem.W.Fast.tw11585156882023194998 : True := trivial
theorem PySem.W.Fast.tw8149268233429951364 : True := trivial
theorem PySem.W.Fast.tw13792574106712616880 : True := trivial
theorem PySem.W.Fast.tw16849462490279518796 : True := trivial
theorem PySem.W.Fast.tw4167075572027349676 : True := trivial
theorem PySem.W.Fast.tw9876771294643710069 : True := trivial
theorem PySem.W.Fast.tw2162332976559340840 : True := trivial
theorem PySem.W.Fast.tw13698445348417048156 : True := trivial
theorem PySem.W.Fast.tw13276657896987697742 : True := trivial
theorem PySem.W.Fast.tw9855937213775542068 : True := trivial
theorem PySem.W.Fast.tw12161608486428461342 : True := trivial
theorem PySem.W.Fast.tw6610803875645014 : True := trivial
theorem PySem.W.Fast.tw16873435448957797267 : True := trivial
theorem PySem.W.Fast.tw4077519029461444585 : True := trivial
theorem PySem.W.Fast.tw4996450981039637293 : True := trivial
theorem PySem.W.Fast.tw6019565039753989545 : True := trivial
theorem PySem.W.Fast.tw49952709313757894 : True := trivial
theorem PySem.W.Fast.tw11345024953927525555 : True := trivial
theorem PySem.W.Fast.tw1705304235653356009 : True := trivial
theorem PySem.W.Fast.tw10690458273767144380 : True := trivial
theorem PySem.W.Fast.tw12251689254080402496 : True := trivial
theorem PySem.W.Fast.tw17231980692446581546 : True := trivial
theorem PySem.W.Fast.tw11915634110782690822 : True := trivial
theorem PySem.W.Fast.tw5394289500734900915 : True := trivial
theorem PySem.W.Fast.tw3207795106918376071 : True := trivial
theorem PySem.W.Fast.tw2565654142127328469 : True := trivial
theorem PySem.W.Fast.tw12295343169896114909 : True := trivial
theorem PySem.W.Fast.tw8954445329839769041 : True := trivial
theorem PySem.W.Fast.tw1079791004272521656 : True := trivial
theorem PySem.W.Fast.tw9853734331441848115 : True := trivial
theorem PySem.W.Fast.tw14818968061373293873 : True := trivial
theorem PySem.W.Fast.tw13989929296213209481 : True := trivial
theorem PySem.W.Fast.tw11985162723690977227 : True := trivial
theorem PySem.W.Fast.tw1046771901489413205 : True := trivial
theorem PySem.W.Fast.tw6005315222249971817 : True := trivial
theorem PySem.W.Fast.tw5821048946038852731 : True := trivial
theorem PySem.W.Fast.tw3244199179683346854 : True := trivial
theorem PySem.W.Fast.tw9188578543439385104 : True := trivial
theorem PySem.W.Fast.tw16238264073805102366 : True := trivial
theorem PySem.W.Fast.tw5796465402404173232 : True := trivial
theorem PySem.W.Fast.tw2077464948244468055 : True := trivial
theorem PySem.W.Fast.tw17131506820518514825 : True := trivial
theorem PySem.W.Fast.tw1630064922383011644 : True := trivial
theorem PySem.W.Fast.tw348722688963647551 : True := trivial
theorem PySem.W.Fast.tw6614847814088738387 : True := trivial
theorem PySem.W.Fast.tw9299915996511318358 : True := trivial
theorem PySem.W.Fast.tw374481886560996629 : True := trivial
theorem PySem.W.Fast.tw3556576377300890827 : True := trivial
theorem PySem.W.Fast.tw5998758102653506251 : True := trivial
theorem PySem.W.Fast.tw11154855097362766135 : True := trivial
theorem PySem.W.Fast.tw3027974331886270210 : True := trivial
theorem PySem.W.Fast.tw8806821978028138767 : True := trivial
theorem PySem.W.Fast.tw1745953556867685123 : True := trivial
theorem PySem.W.Fast.tw8194022477081674170 : True := trivial
theorem PySem.W.Fast.tw16474216721718690897 : True := trivial
theorem PySem.W.Fast.tw7205076791567885007 : True := trivial
theorem PySem.W.Fast.tw13224327758646602518 : True := trivial
theorem PySem.W.Fast.tw16174095026807826641 : True := trivial
theorem PySem.W.Fast.tw10053455819696239743 : True := trivial
theorem PySem.W.Fast.tw9446604509084630402 : True := trivial
theorem PySem.W.Fast.tw18207730216758319398 : True := trivial
theorem PySem.W.Fast.tw5514560632852725356 : True := trivial
theorem PySem.W.Fast.tw6393487015013148960 : True := trivial
theorem PySem.W.Fast.tw16332241120739206455 : True := trivial
theorem PySem.W.Fast.tw15551102338953883020 : True := trivial
theorem PySem.W.Fast.tw3918123890213433036 : True := trivial
theorem PySem.W.Fast.tw14894304023126191169 : True := trivial
theorem PySem.W.Fast.tw14156441583200979307 : True := trivial
theorem PySem.W.Fast.tw16902421521096664977 : True := trivial
theorem PySem.W.Fast.tw4370711032531134998 : True := trivial
theorem PySem.W.Fast.tw1323383402690892365 : True := trivial
theorem PySem.W.Fast.tw8635665793431497023 : True := trivial
theorem PySem.W.Fast.tw5327876597134709809 : True := trivial
theorem PySem.W.Fast.tw1706101318139556755 : True := trivial
theorem PySem.W.Fast.tw5566377760364019825 : True := trivial
theorem PySem.W.Fast.tw6599811706238766093 : True := trivial
theorem PySem.W.Fast.tw17257698234293809382 : True := trivial
theorem PySem.W.Fast.tw6788428711124630276 : True := trivial
theorem PySem.W.Fast.tw13159057147583093011 : True := trivial
set_option maxRecDepth 100000 in
set_option maxHeartbeats 0 in
theorem PySem.Challenge.cw_bitfloor_k41_packs_holds : PySem.Challenge.rw_bitfloor_k41_packs.Holds := by
  w_on; o_law; k_head; (case hw => w_witness2)
  k_fill
  refine L2.walk_ofK (l := PySem.Challenge.rw_bitfloor_k41_packs) (n := 63) (k := 11) (x := "_law_script") (CX := L2.CX0) (sp := B17.spLaw) rfl (by decide) rfl ⟨rfl, by decide, by decide⟩ (fun w h Y => PySem.W.kIn_of Y) ?F ?S ?C
  case F =>
    intro w mg fa h KX G hmg
    refine' B17.all_mk KX G hmg ?aP ?eFloorError ?eNoRow ?eNoTables ?eNoPack ?eNoFloor ?eOutOfFloor ?eNoRoom ?eNoText ?eNoSense ?eNoNet ?eNoWays ?eNoBits ?a0 ?l0 ?c0 ?k0 ?a1 ?l1 ?c1 ?k1 ?a2 ?l2 ?c2 ?k2 ?a3 ?l3 ?c3 ?k3 ?a4 ?l4 ?c4 ?k4 ?a5 ?l5 ?c5 ?k5 ?a6 ?l6 ?c6 ?k6 ?a7 ?l7 ?c7 ?k7 ?a8 ?l8 ?c8 ?k8 ?a9 ?l9 ?c9 ?k9 ?a10 ?l10 ?c10 ?k10 ?a11 ?l11 ?c11 ?k11 ?a12 ?l12 ?c12 ?k12 ?a13 ?l13 ?c13 ?k13 ?a14 ?l14 ?c14 ?k14 ?a15 ?l15 ?c15 ?k15 ?a16 ?l16 ?c16 ?k16 ?a17 ?l17 ?c17 ?k17 ?a18 ?l18 ?c18 ?k18 ?a19 ?l19 ?c19 ?k19 ?a20 ?l20 ?c20 ?k20 ?a21 ?l21 ?c21 ?k21 ?a22 ?l22 ?c22 ?k22 ?i22 ?pgP ?hdP ?poP ?saP ?mkP ?kcP ?nP_ins ?nP_blocks ?nP_outs ?z_len ?z_range ?z_int ?z_str ?z_isinstance ?z_zip ?z_list ?z_tuple ?z_dict ?z_bool ?z_all ?z_enumerate ?z_ValueError ?xcR ?xcF ?xsb ?xga ?xgt ?xcl ?xsg ?xtk ?xmo ?w_NoText ?w_NoSense ?w_NoNet ?w_NoRow ?w_NoTables ?w_NoPack ?w_NoFloor ?w_OutOfFloor ?w_NoRoom ?w_NoWays ?w_NoBits ?w_V ?oclP ?omoP ?owP
    (case aP => k_is)
    (case eFloorError => k_is)
    (case eNoRow => k_is)
    (case eNoTables => k_is)
    (case eNoPack => k_is)
    (case eNoFloor => k_is)
    (case eOutOfFloor => k_is)
    (case eNoRoom => k_is)
    (case eNoText => k_is)
    (case eNoSense => k_is)
    (case eNoNet => k_is)
    (case eNoWays => k_is)
    (case eNoBits => k_is)
    (case a0 => k_is)
    (case l0 => k_is)
    (case c0 => k_is)
    (case k0 => k_is)
    (case a1 => k_is)
    (case l1 => k_is)
    (case c1 => k_is)
    (case k1 => k_is)
    (case a2 => k_is)
    (case l2 => k_is)
    (case c2 => k_is)
    (case k2 => k_is)
    (case a3 => k_is)
    (case l3 => k_is)
    (case c3 => k_is)
    (case k3 => k_is)
    (case a4 => k_is)
    (case l4 => k_is)
    (case c4 => k_is)
    (case k4 => k_is)
    (case a5 => k_is)
    (case l5 => k_is)
    (case c5 => k_is)
    (case k5 => k_is)
    (case a6 => k_is)
    (case l6 => k_is)
    (case c6 => k_is)
    (case k6 => k_is)
    (case a7 => k_is)
    (case l7 => k_is)
    (case c7 => k_is)
    (case k7 => k_is)
    (case a8 => k_is)
    (case l8 => k_is)
    (case c8 => k_is)
    (case k8 => k_is)
    (case a9 => k_is)
    (case l9 => k_is)
    (case c9 => k_is)
    (case k9 => k_is)
    (case a10 => k_is)
    (case l10 => k_is)
    (case c10 => k_is)
    (case k10 => k_is)
    (case a11 => k_is)
    (case l11 => k_is)
    (case c11 => k_is)
    (case k11 => k_is)
    (case a12 => k_is)
    (case l12 => k_is)
    (case c12 => k_is)
    (case k12 => k_is)
    (case a13 => k_is)
    (case l13 => k_is)
    (case c13 => k_is)
    (case k13 => k_is)
    (case a14 => k_is)
    (case l14 => k_is)
    (case c14 => k_is)
    (case k14 => k_is)
    (case a15 => k_is)
    (case l15 => k_is)
    (case c15 => k_is)
    (case k15 => k_is)
    (case a16 => k_is)
    (case l16 => k_is)
    (case c16 => k_is)
    (case k16 => k_is)
    (case a17 => k_is)
    (case l17 => k_is)
    (case c17 => k_is)
    (case k17 => k_is)
    (case a18 => k_is)
    (case l18 => k_is)
    (case c18 => k_is)
    (case k18 => k_is)
    (case a19 => k_is)
    (case l19 => k_is)
    (case c19 => k_is)
    (case k19 => k_is)
    (case a20 => k_is)
    (case l20 => k_is)
    (case c20 => k_is)
    (case k20 => k_is)
    (case a21 => k_is)
    (case l21 => k_is)
    (case c21 => k_is)
    (case k21 => k_is)
    (case a22 => k_is)
    (case l22 => k_is)
    (case c22 => k_is)
    (case k22 => k_is)
    (case i22 => k_is)
    (case pgP => k_is)
    (case hdP => k_is)
    (case poP => k_is)
    (case saP => k_is)
    (case mkP => k_is)
    (case kcP => k_is)
    (case nP_ins => k_is)
    (case nP_blocks => k_is)
    (case nP_outs => k_is)
    (case z_len => k_is)
    (case z_range => k_is)
    (case z_int => k_is)
    (case z_str => k_is)
    (case z_isinstance => k_is)
    (case z_zip => k_is)
    (case z_list => k_is)
    (case z_tuple => k_is)
    (case z_dict => k_is)
    (case z_bool => k_is)
    (case z_all => k_is)
    (case z_enumerate => k_is)
    (case z_ValueError => k_is)
    (case xcR => k_exc)
    (case xcF => k_exc)
    (case xsb => k_is)
    (case xga => k_is)
    (case xgt => k_is)
    (case xcl => k_is)
    (case xsg => k_is)
    (case xtk => k_is)
    (case xmo => k_is)
    (case w_NoText => kit_is)
    (case w_NoSense => kit_is)
    (case w_NoNet => kit_is)
    (case w_NoRow => kit_is)
    (case w_NoTables => kit_is)
    (case w_NoPack => kit_is)
    (case w_NoFloor => kit_is)
    (case w_OutOfFloor => kit_is)
    (case w_NoRoom => kit_is)
    (case w_NoWays => kit_is)
    (case w_NoBits => kit_is)
    (case w_V => kit_is)
    (case oclP => k_is)
    (case omoP => k_is)
    (case owP => kit_is)
  case S => exact fun K H a ns hl hO hS => ⟨a, ns, rfl, L2.Scr.of hS hl hO, fun _ => rfl⟩
  case C => exact fun _ _ _ _ z => z
