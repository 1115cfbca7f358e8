import PyProof.Rows.All
import Wide.All
import OpenK.AllK
import Wide.FinOn
import Lean
import PyProof.EqAt
import PyProof.EqKinds
import PyProof.TupleCall
import PySem.Challenge.RW_errandend_k03_tree_texts_refused
set_option Elab.async false
set_option linter.all false
set_option maxRecDepth 100000
/-! THE HAND LAYER, for ints, bools, texts, own classes, LISTS and tuples (index, slices, in, append, pop ..), calls, loops. Paste it whole ahead of your own text; what your proof does not reach may be deleted. -/
namespace L2
open PySem PySem.Spec PyProof.Rows

/-- a key: an int or a str -/
abbrev Key := Sum Int Str
def keyIs : Key → Value → Bool
  | .inl k, v => Value.isInt k v
  | .inr x, v => Value.isStrOf x v
def keyH (w : World) : Key → Int
  | .inl k => hashInt k
  | .inr x => hashStr w x
theorem keyIs_shape : ∀ {k : Key} {v : Value}, keyIs k v = true → (∃ i t, k = Sum.inl i ∧ v = Value.int i t) ∨ (∃ x t, k = Sum.inr x ∧ v = Value.str x t)
  | .inl i, v, h => by
    obtain ⟨t, e⟩ := Value.isInt_shape (k := i) (v := v) h
    exact .inl ⟨i, t, rfl, e⟩
  | .inr x, v, h => by
    obtain ⟨t, e⟩ := Value.isStrOf_shape (x := x) (v := v) h
    exact .inr ⟨x, t, rfl, e⟩
theorem key_ll (a b : Int) : decide ((Sum.inl a : Key) = Sum.inl b) = (a == b) := by
  by_cases e : a = b
  · subst e; simp
  · have h : ¬ (Sum.inl a : Key) = Sum.inl b := fun q => e (Sum.inl.inj q)
    rw [decide_eq_false h]
    exact (beq_eq_false_iff_ne.mpr e).symm
theorem key_rr (a b : Str) : decide ((Sum.inr a : Key) = Sum.inr b) = decide (a = b) := by
  by_cases e : a = b
  · subst e; simp
  · have h : ¬ (Sum.inr a : Key) = Sum.inr b := fun q => e (Sum.inr.inj q)
    rw [decide_eq_false h, decide_eq_false e]
theorem key_lr (a : Int) (b : Str) : decide ((Sum.inl a : Key) = Sum.inr b) = false := decide_eq_false (fun q => nomatch q)
theorem key_rl (a : Str) (b : Int) : decide ((Sum.inr a : Key) = Sum.inl b) = false := decide_eq_false (fun q => nomatch q)

def mixKind (prog : Program) (w : World) : PySem.KeyKind prog w Key where
  is := keyIs
  hash := keyH w
  inj := fun v a b ha hb => by
    rcases keyIs_shape ha with ⟨i, t, rfl, rfl⟩ | ⟨x, t, rfl, rfl⟩
    · rcases keyIs_shape hb with ⟨j, u, rfl, e⟩ | ⟨y, u, rfl, e⟩
      · injection e with e1 _; rw [e1]
      · exact nomatch e
    · rcases keyIs_shape hb with ⟨j, u, rfl, e⟩ | ⟨y, u, rfl, e⟩
      · exact nomatch e
      · injection e with e1 _; rw [e1]
  byValue := fun k v h => by
    rcases keyIs_shape h with ⟨i, t, rfl, rfl⟩ | ⟨x, t, rfl, rfl⟩ <;> rfl
  pyHash := fun hv h => by
    rcases keyIs_shape hv with ⟨i, t, rfl, rfl⟩ | ⟨x, t, rfl, rfl⟩
    · exact wpAny_pyHash_int h
    · exact wpAny_pyHash_str h
  eqBool := fun hu hv h => by
    rcases keyIs_shape hu with ⟨i, t, rfl, rfl⟩ | ⟨x, t, rfl, rfl⟩
    · rcases keyIs_shape hv with ⟨j, u, rfl, rfl⟩ | ⟨y, u, rfl, rfl⟩
      · rw [key_ll] at h; exact wpAny_eqBool_int h
      · rw [key_lr] at h; exact SeqAt.EqAt.int_str i t y u _ _ _ _ h
    · rcases keyIs_shape hv with ⟨j, u, rfl, rfl⟩ | ⟨y, u, rfl, rfl⟩
      · rw [key_rl] at h; exact SeqAt.EqAt.str_int x t j u _ _ _ _ h
      · rw [key_rr] at h; exact wpAny_eqBool_str h
  «strs» := fun k x t v h => by
    rcases keyIs_shape h with ⟨i, u, rfl, e⟩ | ⟨y, u, rfl, e⟩
    · exact nomatch e
    · injection e with e1 _
      subst e1
      cases v <;> rfl

end L2

namespace L2
open PySem PySem.Spec PyProof.Rows

/-- a value, without the heap -/
inductive V where
  | non | bl (b : Bool) | int (i : Int) | str (x : Str) | byt (b : Array UInt8) | flt (b : UInt64) | ref (a : Addr) | ty (n : String)
  deriving DecidableEq

def RelV : V → Value → Prop
  | .non, u => u = Value.none
  | .bl b, u => u = Value.bool b
  | .int i, u => ∃ t, u = Value.int i t
  | .str x, u => ∃ t, u = Value.str x t
  | .byt b, u => ∃ t, u = Value.bytes b t
  | .flt b, u => ∃ t, u = Value.float b t
  | .ref a, u => u = Value.ref a
  | .ty n, u => u = Value.type n

abbrev Vals : List V → List Value → Prop := Paired RelV
theorem Vals.length {xs : List V} {us : List Value} (r : Vals xs us) : xs.length = us.length := Paired.length r
theorem Vals.get : ∀ {xs : List V} {us : List Value} {i : Nat} {x : V}, Vals xs us → xs[i]? = some x → ∃ u, us[i]? = some u ∧ RelV x u
  | _, _, _, _, .nil, e => by simp at e
  | _, _, 0, _, .cons r _, e => by simp at e; subst e; exact ⟨_, rfl, r⟩
  | _, _, i + 1, x, .cons _ t, e => by
    obtain ⟨u, h1, h2⟩ := Vals.get (i := i) (x := x) t (by simpa using e)
    exact ⟨u, by simpa using h1, h2⟩
theorem Vals.set {x : V} {u : Value} (r : RelV x u) : ∀ {xs : List V} {us : List Value} (i : Nat), Vals xs us → Vals (xs.set i x) (us.set i u)
  | _, _, _, .nil => .nil
  | _, _, 0, .cons _ t => .cons r t
  | _, _, i + 1, .cons q t => .cons q (Vals.set r i t)
theorem Vals.append : ∀ {xs ys : List V} {us ws : List Value}, Vals xs us → Vals ys ws → Vals (xs ++ ys) (us ++ ws)
  | _, _, _, _, .nil, s => s
  | _, _, _, _, .cons r t, s => .cons r (Vals.append t s)
theorem Vals.take : ∀ {xs : List V} {us : List Value} (n : Nat), Vals xs us → Vals (xs.take n) (us.take n)
  | _, _, 0, _ => .nil
  | _, _, _ + 1, .nil => .nil
  | _, _, n + 1, .cons r t => .cons r (Vals.take n t)
theorem Vals.drop : ∀ {xs : List V} {us : List Value} (n : Nat), Vals xs us → Vals (xs.drop n) (us.drop n)
  | _, _, 0, r => r
  | _, _, _ + 1, .nil => .nil
  | _, _, n + 1, .cons _ t => Vals.drop n t
def RelO : Option V → Option Value → Prop
  | some v, some u => RelV v u
  | none, none => True
  | _, _ => False
def KV {κ : Type} : List (κ × V) → List (κ × Value) → Prop := Paired fun (p : κ × V) (q : κ × Value) => p.1 = q.1 ∧ RelV p.2 q.2

/-- a key of a dict (00_mix): an int or a text -/
def kV : Key → V
  | .inl i => .int i
  | .inr x => .str x

/-- what stands at a tracked address -/
inductive HO where
  /-- a list -/
  | lst (xs : List V)
  /-- a tuple (never changes) -/
  | tup (xs : List V)
  /-- a dict whose keys are ints and texts; one whose keys are tuples of ints and texts (the empty one is both) -/
  | dK (kvs : List (Key × V)) | dT (kvs : List (List Key × V))
  /-- a set of ints: its members, its size -/
  | set (S : Int → Bool) (n : Nat)
  /-- an instance of the class at C, its dict at dx, its attributes -/
  | ins (C dx : Addr) (fs : List (Str × V))
  /-- the dict of the instance at x -/
  | own (x : Addr)
  /-- the dict of an exception -/
  | xd (fs : List (Str × V))
  /-- a bound method, f of x -/
  | met (f x : Addr)
  /-- a range object lo, lo + 1, .. below hi -/
  | rng (lo hi : Int)
  /-- a thing that is known to the object (the script; a dict while a loop walks it): read, never written while it is so -/
  | frz (o : Obj) (u : HO)
  /-- a code object's table -/
  | tbl (ps : Array Value)
  /-- any other thing, by what is true of its one object (a def of one's own: SetO a S n := HO.ext fun h => ..) -/
  | ext (φ : Heap → Prop)

abbrev Hp := Addr → Option HO
def upd (H : Hp) (a : Addr) (o : HO) : Hp := fun b => if b = a then some o else H b
theorem upd_same {H : Hp} {a : Addr} {o : HO} : upd H a o a = some o := by unfold upd; rw [if_pos rfl]
theorem upd_ne {H : Hp} {a b : Addr} {o : HO} (h : b ≠ a) : upd H a o b = H b := by unfold upd; rw [if_neg h]
/-- two objects of different content stand apart -/
theorem ne_of {H : Hp} {a b : Addr} {o u : HO} (h : H a = some o) (h' : H b = some u) (d : o ≠ u) : a ≠ b := by
  intro e; subst e; rw [h] at h'; exact d (Option.some.inj h')
theorem ne_of_none {H : Hp} {a b : Addr} {o : HO} (h : H a = some o) (h' : H b = none) : a ≠ b := by
  intro e; subst e; rw [h] at h'; cases h'

section
variable (P : Program) (w : World)
def ObjOk (H : Hp) (h : Heap) (a : Addr) : HO → Prop
  | .lst xs => xs.length ≤ sizeLine ∧ ∃ (its : List Value) (n : Nat), Vals xs its ∧ h.get? a = some { cls := .type "list", data := .seq its.toArray n }
  | .tup xs => xs.length ≤ sizeLine ∧ ∃ its : List Value, Vals xs its ∧ IsTup h a its.toArray
  | .dK kvs => kvs.length ≤ sizeLine ∧ (a == sysModules) = false ∧ ∃ vs, KV kvs vs ∧ h.DictOf (mixKind P w) a vs
  | .dT kvs => kvs.length ≤ sizeLine ∧ (a == sysModules) = false ∧ ∃ xs : List (List Key × Addr × Value),
      Paired (fun (p : List Key × V) (q : List Key × Addr × Value) => p.1 = q.1 ∧ H q.2.1 = some (.tup (p.1.map kV)) ∧ RelV p.2 q.2.2) kvs xs ∧
      ∃ o es ep, h.get? a = some o ∧ o.ExactDict ∧ o.data = .dict es ep ∧ es.toList = xs.map (entryOfKey (tupleKind (mixKind P w))) ∧ (xs.map (·.1)).Nodup
  | .set S n => h.SetOf (intKind P w) a S n
  | .ins C dx fs => H dx = some (.own a) ∧ fs.length ≤ 1000 ∧ dx ≠ a ∧ h.get? a = some (PySem.W.instObj C dx) ∧
      ∃ mA, h.Ns1 dx mA ∧ (∀ f, RelO (fs.lookup f) (mA f)) ∧ PySem.Within mA (fs.map (·.1))
  | .own _ => ∃ o, h.get? a = some o
  | .xd fs => ∃ mA, h.Ns1 a mA ∧ ∀ f, RelO (fs.lookup f) (mA f)
  | .rng lo hi => ∃ t u v, h.get? a = some { cls := .type "range", data := .fields #[.int lo t, .int hi u, .int 1 v] }
  | .frz o u => h.get? a = some o ∧ ObjOk H h a u
  | .tbl ps => h.get? a = some { cls := .none, data := .fields ps }
  | .met f x => h.get? a = some (PySem.W.methodObj (.ref f) (.ref x))
  | .ext φ => φ h ∧ (∃ o, h.get? a = some o) ∧ ∀ h1 h2 : Heap, φ h1 → (∀ o, h1.get? a = some o → h2.get? a = some o) → φ h2
/-- the abstract heap is held -/
def HOk (H : Hp) (h : Heap) : Prop := ∀ a o, H a = some o → ObjOk P w H h a o
end

section
variable {P : Program} {w : World} {H H' : Hp} {h h' : Heap} {a : Addr} {o : HO}
theorem ObjOk.lt (x : ObjOk P w H h a o) : a < h.objs.size := by
  cases o with
  | lst xs => obtain ⟨_, _, _, _, e⟩ := x; exact Heap.lt_size e
  | tup xs => obtain ⟨_, _, _, p⟩ := x; exact p.lt
  | dK kvs => obtain ⟨_, _, _, _, o, _, _, e, _⟩ := x; exact Heap.lt_size e
  | dT kvs => obtain ⟨_, _, _, _, o, _, _, e, _⟩ := x; exact Heap.lt_size e
  | set S n => obtain ⟨o, _, _, _, e, _⟩ := x; exact Heap.lt_size e
  | ins C dx fs => obtain ⟨_, _, _, e, _⟩ := x; exact Heap.lt_size e
  | own y => obtain ⟨_, e⟩ := x; exact Heap.lt_size e
  | xd fs => obtain ⟨_, ⟨_, _, _, e, _⟩, _⟩ := x; exact Heap.lt_size e
  | rng lo hi => obtain ⟨_, _, _, e⟩ := x; exact Heap.lt_size e
  | frz ob u => obtain ⟨e, _⟩ := x; exact Heap.lt_size e
  | tbl ps => exact Heap.lt_size (show h.get? a = some _ from x)
  | met f y => exact Heap.lt_size (show h.get? a = some _ from x)
  | ext φ => obtain ⟨_, ⟨_, e⟩, _⟩ := x; exact Heap.lt_size e
theorem Paired.mapP {α β : Type} {F G : α → β → Prop} : ∀ {l₁ : List α} {l₂ : List β}, Paired F l₁ l₂ → (∀ a b, F a b → G a b) → Paired G l₁ l₂
  | _, _, .nil, _ => .nil
  | _, _, .cons r t, f => .cons (f _ _ r) (Paired.mapP t f)
/-- what an object's description leans on: its own object, its own dict, the tuples -/
theorem ObjOk.stay (x : ObjOk P w H h a o) (k : ∀ b u, (b = a ∨ H b = some (.own a)) → h.get? b = some u → h'.get? b = some u)
    (ho : ∀ b, H b = some (.own a) → H' b = some (.own a)) (ht : ∀ b xs, H b = some (.tup xs) → H' b = some (.tup xs)) : ObjOk P w H' h' a o := by
  induction o with
  | lst xs => obtain ⟨z, its, n, r, e⟩ := x; exact ⟨z, its, n, r, k _ _ (.inl rfl) e⟩
  | tup xs => obtain ⟨z, its, r, ob, e, c⟩ := x; exact ⟨z, its, r, ob, k _ _ (.inl rfl) e, c⟩
  | dK kvs => obtain ⟨z, y, vs, r, ob, es, ep, e, c⟩ := x; exact ⟨z, y, vs, r, ob, es, ep, k _ _ (.inl rfl) e, c⟩
  | dT kvs =>
    obtain ⟨z, y, xs, r, ob, es, ep, e, c⟩ := x
    exact ⟨z, y, xs, Paired.mapP r fun p q z => ⟨z.1, ht _ _ z.2.1, z.2.2⟩, ob, es, ep, k _ _ (.inl rfl) e, c⟩
  | set S n => obtain ⟨ob, es, ep, t, e, c⟩ := x; exact ⟨ob, es, ep, t, k _ _ (.inl rfl) e, c⟩
  | ins C dx fs =>
    obtain ⟨d, z, ne, e, mA, ⟨od, es, ep, e2, c⟩, r⟩ := x
    exact ⟨ho _ d, z, ne, k _ _ (.inl rfl) e, mA, ⟨od, es, ep, k _ _ (.inr d) e2, c⟩, r⟩
  | own y => obtain ⟨ob, e⟩ := x; exact ⟨ob, k _ _ (.inl rfl) e⟩
  | xd fs => obtain ⟨mA, ⟨od, es, ep, e, c⟩, r⟩ := x; exact ⟨mA, ⟨od, es, ep, k _ _ (.inl rfl) e, c⟩, r⟩
  | rng lo hi => obtain ⟨t, u, v, e⟩ := x; exact ⟨t, u, v, k _ _ (.inl rfl) e⟩
  | frz ob u ih => obtain ⟨e, q⟩ := x; exact ⟨k _ _ (.inl rfl) e, ih q⟩
  | tbl ps =>
    have e : h.get? a = some { cls := .none, data := .fields ps } := x
    show h'.get? a = some { cls := .none, data := .fields ps }
    exact k a _ (.inl rfl) e
  | met f y =>
    have e : h.get? a = some (PySem.W.methodObj (.ref f) (.ref y)) := x
    show h'.get? a = some (PySem.W.methodObj (.ref f) (.ref y))
    exact k a _ (.inl rfl) e
  | ext φ => obtain ⟨p, ⟨o, e⟩, st⟩ := x; exact ⟨st _ _ p fun o q => k _ _ (.inl rfl) q, ⟨o, k _ _ (.inl rfl) e⟩, st⟩
theorem HOk.lt (x : HOk P w H h) (e : H a = some o) : a < h.objs.size := (x a o e).lt
theorem HOk.fresh (x : HOk P w H h) (e : h.objs.size ≤ a) : H a = none := by
  cases q : H a with
  | none => rfl
  | some u => exact absurd (Nat.lt_of_lt_of_le (x.lt q) e) (Nat.lt_irrefl _)
/-- every object of the heap is kept -/
theorem HOk.kept (x : HOk P w H h) (k : ∀ b u, h.get? b = some u → h'.get? b = some u) : HOk P w H h' := fun a o e =>
  (x a o e).stay (fun b u _ q => k b u q) (fun _ q => q) fun _ _ q => q
/-- a new object is laid and tracked -/
theorem HOk.laid (x : HOk P w H h) (k : ∀ b u, h.get? b = some u → h'.get? b = some u) (hp : h.objs.size ≤ a) (new : ObjOk P w (upd H a o) h' a o) : HOk P w (upd H a o) h' := fun b u e => by
  have hn := x.fresh hp
  by_cases hb : b = a
  · subst hb; rw [upd_same] at e; cases e; exact new
  · rw [upd_ne hb] at e
    exact (x b u e).stay (fun c v _ q => k c v q) (fun c q => by rw [upd_ne (ne_of_none q hn)]; exact q) fun c xs q => by rw [upd_ne (ne_of_none q hn)]; exact q
end

/-- what may be read as u: it is u, or a known u -/
def Rd (H : Hp) (a : Addr) (u : HO) : Prop := H a = some u ∨ ∃ o, H a = some (.frz o u)
theorem Rd.of {H : Hp} {a : Addr} {u : HO} (h : H a = some u) : Rd H a u := .inl h
theorem Rd.ok {P : Program} {w : World} {H : Hp} {h : Heap} {a : Addr} {u : HO} (r : Rd H a u) (x : HOk P w H h) : ObjOk P w H h a u := by
  rcases r with r | ⟨o, r⟩
  · exact x a u r
  · obtain ⟨_, q⟩ := x a _ r
    exact q
/-- what may be written -/
def Mut : Option HO → Prop
  | some (.lst _) => True
  | some (.dK _) => True
  | some (.dT _) => True
  | some (.set _ _) => True
  | some (.ins _ _ _) => True
  | some (.ext _) => True
  | _ => False
section
variable {P : Program} {w : World} {H : Hp} {h h' : Heap} {x e : Addr} {o' : HO}
/-- the object at e is changed: x itself, or the dict of the instance x -/
theorem HOk.write (ok : HOk P w H h) (mu : Mut (H x)) (he : e = x ∨ H e = some (.own x)) (k : ∀ b u, b ≠ e → h.get? b = some u → h'.get? b = some u) (heo : ∃ u, h'.get? e = some u)
    (new : ObjOk P w (upd H x o') h' x o') : HOk P w (upd H x o') h' := fun b u q => by
  have nown : ∀ c y, H c = some (.own y) → c ≠ x := fun c y r z => by subst z; rw [r] at mu; exact mu
  have ntup : ∀ c xs, H c = some (.tup xs) → c ≠ x := fun c xs r z => by subst z; rw [r] at mu; exact mu
  by_cases hb : b = x
  · subst hb; rw [upd_same] at q; cases q; exact new
  · rw [upd_ne hb] at q
    by_cases hbe : b = e
    · have q' : H b = some (.own x) := by
        rcases he with z | z
        · exact absurd (hbe.trans z) hb
        · rw [hbe]; exact z
      rw [q] at q'; cases q'
      obtain ⟨v, hv⟩ := heo
      exact ⟨v, by rw [hbe]; exact hv⟩
    · refine (ok b u q).stay (fun c v hc r => k c v ?_ r) (fun c r => by rw [upd_ne (nown c b r)]; exact r) fun c xs r => by rw [upd_ne (ntup c xs r)]; exact r
      rcases hc with rfl | hc
      · exact hbe
      · rintro rfl
        rcases he with z | z
        · exact nown c b hc z
        · rw [hc] at z; cases z; exact hb rfl
end

/-! ### kept unless tracked; of the frames at fs (the callers') the slots may change (an exception that passes writes there); of the records at ex (iterators) nothing is said -/
structure Un (fs ex : List Addr) (H H' : Hp) (h h' : Heap) : Prop where
  keep : ∀ b o, h.get? b = some o → H b = none → b ∉ fs → b ∉ ex → h'.get? b = some o
  slot : ∀ b o, h.get? b = some o → H b = none → b ∈ fs → b ∉ ex → ∃ sl, h'.get? b = some { o with slots := sl }
  free : ∀ b o, h.get? b = some o → H b = none → b ∉ ex → H' b = none
  there : ∀ b o, h.get? b = some o → b ∉ ex → ∃ o', h'.get? b = some o'
  tups : ∀ b xs, H b = some (.tup xs) → H' b = some (.tup xs)
  frzs : ∀ b o u, H b = some (.frz o u) → H' b = some (.frz o u)
  tbls : ∀ b ps, H b = some (.tbl ps) → ∃ more, H' b = some (.tbl (ps ++ more))
section
variable {fs fs' ex ex' : List Addr} {H H1 H2 : Hp} {h h1 h2 h' : Heap} {a x e : Addr} {o : HO}
theorem Un.any (u : Un fs ex H H1 h h1) {b : Addr} {ob : Obj} (q : h.get? b = some ob) (n : H b = none) (hx : b ∉ ex) : ∃ sl, h1.get? b = some { ob with slots := sl } := by
  by_cases hb : b ∈ fs
  · exact u.slot b ob q n hb hx
  · exact ⟨ob.slots, u.keep b ob q n hb hx⟩
theorem Un.trans (a : Un fs ex H H1 h h1) (b : Un fs ex H1 H2 h1 h2) : Un fs ex H H2 h h2 where
  keep := fun c ob q n hc hx => b.keep c ob (a.keep c ob q n hc hx) (a.free c ob q n hx) hc hx
  slot := fun c ob q n hc hx => by
    obtain ⟨sl, e1⟩ := a.slot c ob q n hc hx
    obtain ⟨sl', e2⟩ := b.slot c _ e1 (a.free c ob q n hx) hc hx
    exact ⟨sl', e2⟩
  free := fun c ob q n hx => by
    obtain ⟨o', e1⟩ := a.there c ob q hx
    exact b.free c o' e1 (a.free c ob q n hx) hx
  there := fun c ob q hx => by
    obtain ⟨o', e1⟩ := a.there c ob q hx
    exact b.there c o' e1 hx
  tups := fun c xs q => b.tups c xs (a.tups c xs q)
  frzs := fun c ob xs q => b.frzs c ob xs (a.frzs c ob xs q)
  tbls := fun c ps q => by
    obtain ⟨m1, e1⟩ := a.tbls c ps q
    obtain ⟨m2, e2⟩ := b.tbls c _ e1
    exact ⟨m1 ++ m2, by rw [e2, Array.append_assoc]⟩
theorem Un.kept (k : ∀ b u, h.get? b = some u → h'.get? b = some u) : Un fs ex H H h h' :=
  ⟨fun b ob q _ _ _ => k b ob q, fun b ob q _ _ _ => ⟨ob.slots, k b ob q⟩, fun _ _ _ n _ => n, fun b ob q _ => ⟨ob, k b ob q⟩, fun _ _ q => q, fun _ _ _ q => q, fun _ ps q => ⟨#[], by rw [q]; simp⟩⟩
theorem Un.refl : Un fs ex H H h h := Un.kept fun _ _ q => q
theorem Un.laid (k : ∀ b u, h.get? b = some u → h'.get? b = some u) (hp : h.objs.size ≤ a) (hn : H a = none) : Un fs ex H (upd H a o) h h' where
  keep := fun b u q _ _ _ => k b u q
  slot := fun b u q _ _ _ => ⟨u.slots, k b u q⟩
  free := fun b u q n _ => by rw [upd_ne (Nat.ne_of_lt (Nat.lt_of_lt_of_le (Heap.lt_size q) hp))]; exact n
  there := fun b u q _ => ⟨u, k b u q⟩
  tups := fun b xs q => by rw [upd_ne (ne_of_none q hn)]; exact q
  frzs := fun b u xs q => by rw [upd_ne (ne_of_none q hn)]; exact q
  tbls := fun b ps q => ⟨#[], by rw [upd_ne (ne_of_none q hn), q]; simp⟩
theorem Un.write (mu : Mut (H x)) (he : e = x ∨ H e = some (.own x)) (k : ∀ b u, b ≠ e → h.get? b = some u → h'.get? b = some u) (heo : ∃ u, h'.get? e = some u) : Un fs ex H (upd H x o) h h' := by
  have hx : ∀ b, H b = none → b ≠ x := fun b n z => by subst z; rw [n] at mu; exact mu
  have hb : ∀ b, H b = none → b ≠ e := fun b n z => by
    subst z
    rcases he with r | r
    · exact hx b n r
    · rw [n] at r; cases r
  have hm : ∀ b u, H b = some u → ¬ Mut (some u) → b ≠ x := fun b u q nm z => by subst z; rw [q] at mu; exact nm mu
  refine ⟨fun b u q n _ _ => k b u (hb b n) q, fun b u q n _ _ => ⟨u.slots, k b u (hb b n) q⟩, fun b u q n _ => by rw [upd_ne (hx b n)]; exact n, fun b u q _ => ?_,
    fun b xs q => by rw [upd_ne (hm b _ q fun z => z)]; exact q, fun b u xs q => by rw [upd_ne (hm b _ q fun z => z)]; exact q, fun b ps q => ⟨#[], by rw [upd_ne (hm b _ q fun z => z), q]; simp⟩⟩
  by_cases hbe : b = e
  · subst hbe; exact heo
  · exact ⟨u, k b u hbe q⟩
theorem Un.mono (u : Un fs ex H H1 h h1) (hs : ∀ b ∈ fs, b ∈ fs') (hx : ∀ b ∈ ex, b ∈ ex') : Un fs' ex' H H1 h h1 :=
  ⟨fun b ob q n hb he => u.keep b ob q n (fun z => hb (hs b z)) fun z => he (hx b z), fun _ _ q n _ he => u.any q n fun z => he (hx _ z), fun b ob q n he => u.free b ob q n fun z => he (hx b z), fun b ob q he => u.there b ob q fun z => he (hx b z), u.tups, u.frzs, u.tbls⟩
end

/-! ### the heap without what is tracked -/
def trk (h : Heap) (H : Hp) : List Addr := (List.range h.objs.size).filter fun a => (H a).isSome
def hidT (h : Heap) (H : Hp) : Heap := PySem.W.hideAll h (trk h H)
theorem hidT_size (h : Heap) (H : Hp) : (hidT h H).objs.size = h.objs.size := PySem.W.hideAll_size _ _
theorem hidT_get {h : Heap} {H : Hp} {b : Addr} {o : Obj} (e : h.get? b = some o) (n : H b = none) : (hidT h H).get? b = some o :=
  PySem.W.hideAll_get _ e fun hm => by
    have q : (H b).isSome = true := (List.mem_filter.mp hm).2
    rw [n] at q; simp at q
theorem of_hidT {h : Heap} {H : Hp} {b : Addr} {o : Obj} (e : (hidT h H).get? b = some o) : h.get? b = some o ∧ H b = none := by
  have e' : h.get? b = some o := PySem.W.of_hideAll (trk h H) e
  refine ⟨e', ?_⟩
  cases q : H b with
  | none => rfl
  | some x =>
    have hm : b ∈ trk h H := List.mem_filter.mpr ⟨List.mem_range.mpr (Heap.lt_size e'), by simp [q]⟩
    have z : (hidT h H).get? b = none := PySem.W.hideAll_none (trk h H) hm
    rw [z] at e; cases e

/-! ### OpenK's ledger, filled with every new object but one -/
def allNews (g h : Heap) (L : Addr) : List (Addr × Obj) := (List.range h.objs.size).filterMap fun a => if a = L ∨ (g.get? a).isSome = true then none else (h.get? a).map fun o => (a, o)
def rest (g h : Heap) (L d : Addr) : List (Addr × Obj) := (allNews g h L).filter fun p => decide (p.1 ≠ d)
end L2

namespace L2
open PySem PySem.Spec PyProof.Rows

/-- the module's facts, over the base: the heap at the law's entry without what is tracked there -/
structure Mod (K : PySem.W.Frag) (mg : Str → Option Value) (base : Heap) : Prop where
  kin : K.In base
  glob : base.Ns mainGlobals mg
  blt : ∃ mb, base.Ns builtinsNs mb ∧ ∀ x : Str, x ≠ "__name__" → mb x = bootBuiltins x
  nolimit : base.NoLimit

/-- the context: a def's body (or a comprehension's block) running. base: fixed through the whole law; s₀, H₀: the entry; outer: the frames whose slots others may change (a def's callers); stack: all frames that run;
   ex: iterators that were made ahead of the entry and are walked here (a comprehension's); fn: the names whose cells were made at the entry (a def: all; a comprehension's block: its own); calm: not within an except suite; pn: pins that every state bears; xe: what is wanted of an exception that leaves the code -/
structure Cx where
  prog : Program
  w : World
  K : PySem.W.Frag
  mg : Str → Option Value
  base : Heap
  A : Around
  N : List Str
  s₀ : Shared
  H₀ : Hp
  env : Env
  outer : List Env
  stack : List Env
  ex : List Addr
  fn : Str → Bool
  calm : Bool
  pn : List (Addr × Obj)
  xe : Value → Shared → Prop
/-- the callers' frames -/
def frs (l : List Env) : List Addr := l.filterMap (·.frame)
abbrev Cx.fs (X : Cx) : List Addr := frs X.outer

def Vis (sc : Scope) (x : Str) : Prop := sc.names.lookup x = some .local ∨ sc.names.lookup x = some .cell ∨ sc.names.lookup x = some .free
def Loc (sc : Scope) (x : Str) : Prop := sc.names.lookup x = some .local ∨ sc.names.lookup x = some .cell
def Look (env : Env) (h : Heap) (m : Str → Option Value) (x : Str) (u : Value) : Prop :=
  (env.kindOf x = some .local ∧ m x = some u) ∨ ((env.kindOf x = some .cell ∨ env.kindOf x = some .free) ∧ ∃ c, env.cells.lookup x = some c ∧ h.IsCell c (some u))

structure Cx.Ok (X : Cx) : Prop where
  mod : Mod X.K X.mg X.base
  kind : X.env.scope.kind = .function
  glob : X.env.globals = mainGlobals
  blt : X.env.builtins = builtinsNs
  above : X.s₀.heap.objs.size ≤ X.env.locals
  inj : ∀ x y c, X.env.cells.lookup x = some c → X.env.cells.lookup y = some c → x = y
  has : ∀ x, (X.env.kindOf x = some .cell ∨ X.env.kindOf x = some .free) → ∃ c, X.env.cells.lookup x = some c
  cab : ∀ x c, X.fn x = true → X.env.cells.lookup x = some c → X.s₀.heap.objs.size ≤ c
  hd : X.calm = true → X.A.handled = none
  frames : X.A.frames = some X.stack
  stk : X.stack = X.outer ∨ (X.stack = X.env :: X.outer ∧ X.env.frame = some X.env.locals)
  exf : ∀ b ∈ X.ex, b ≠ X.env.locals ∧ ∀ x c, X.env.cells.lookup x = some c → c ≠ b
  bs : ∀ b o, X.base.get? b = some o → X.s₀.heap.get? b = some o ∧ X.H₀ b = none
  bsz : X.base.objs.size ≤ X.s₀.heap.objs.size
  noex : ∀ b o, X.base.get? b = some o → b ∉ X.ex
  exfs : ∀ b ∈ X.ex, b ∉ X.fs
  funs : X.s₀.heap.FunFrames X.base X.outer
  frf : ∀ b ∈ X.fs, X.H₀ b = none

structure Inv (X : Cx) (pins : List (Addr × Obj)) (σ : List (Option V)) (H : Hp) (s : Shared) : Prop where
  ok : X.Ok
  os : s.os = X.s₀.os
  bare : AllBare s.gens
  base : Un X.fs X.ex X.H₀ H X.s₀.heap s.heap
  loc : ∃ m, s.heap.Ns X.env.locals m ∧ ∀ (i : Nat) (x : Str) (v : V), X.N[i]? = some x → σ[i]? = some (some v) → Vis X.env.scope x → ∃ u, RelV v u ∧ Look X.env s.heap m x u
  cell : ∀ x c, X.env.cells.lookup x = some c → ∃ v, s.heap.IsCell c v
  free : H X.env.locals = none
  freeC : ∀ x c, X.env.cells.lookup x = some c → H c = none
  pin : ∀ p ∈ X.pn ++ pins, s.heap.get? p.1 = some p.2 ∧ H p.1 = none ∧ p.1 ≠ X.env.locals ∧ p.1 ∉ X.fs ∧ ∀ v, p.2.data ≠ .cell v
  hok : HOk X.prog X.w H s.heap
  len : σ.length = X.N.length

section
variable {X : Cx} {pins : List (Addr × Obj)} {σ : List (Option V)} {H H' : Hp} {s : Shared} {h' : Heap}

theorem Cx.Ok.nofr (ok : X.Ok) {b : Addr} {o : Obj} (e : X.base.get? b = some o) : b ∉ X.fs := fun hb => by
  have := (ok.funs.mem hb).1
  rw [e] at this; cases this
theorem Inv.bs (I : Inv X pins σ H s) : ∀ b o, X.base.get? b = some o → s.heap.get? b = some o ∧ H b = none := fun b o e =>
  ⟨I.base.keep b o (I.ok.bs b o e).1 (I.ok.bs b o e).2 (I.ok.nofr e) (I.ok.noex b o e), I.base.free b o (I.ok.bs b o e).1 (I.ok.bs b o e).2 (I.ok.noex b o e)⟩
theorem Inv.bk (I : Inv X pins σ H s) : ∀ b o, X.base.get? b = some o → s.heap.get? b = some o := fun b o e => (I.bs b o e).1
theorem Inv.mod (I : Inv X pins σ H s) : Mod X.K X.mg X.base := I.ok.mod
theorem Inv.kIn (I : Inv X pins σ H s) : X.K.In s.heap := I.ok.mod.kin.keeps I.bk
theorem Inv.nolimit (I : Inv X pins σ H s) : s.heap.NoLimit := I.ok.mod.nolimit.keeps I.bk
/-- the frame over the base: for OpenK's rules (K.In X.base is I.mod.kin) -/
theorem Inv.fr (I : Inv X pins σ H s) : ∃ m, Fr X.base X.env.locals s.heap m :=
  let ⟨m, hn, _⟩ := I.loc
  ⟨m, hn, I.bk, Nat.le_trans I.ok.bsz I.ok.above⟩
theorem Inv.lt (I : Inv X pins σ H s) : X.env.locals < s.heap.objs.size := let ⟨_, hn, _⟩ := I.loc; hn.lt
theorem Inv.sz (I : Inv X pins σ H s) : X.s₀.heap.objs.size ≤ s.heap.objs.size := Nat.le_trans I.ok.above (Nat.le_of_lt I.lt)
theorem Inv.nofs (I : Inv X pins σ H s) {a : Addr} (h : s.heap.objs.size ≤ a) : a ∉ X.fs := fun hb => by
  obtain ⟨_, o, ho, _⟩ := I.ok.funs.mem hb
  exact absurd (Nat.lt_of_lt_of_le (Heap.lt_size ho) (Nat.le_trans I.sz h)) (Nat.lt_irrefl _)
theorem Inv.cne (I : Inv X pins σ H s) : ∀ x c, X.env.cells.lookup x = some c → c ≠ X.env.locals := fun x c e z => by
  obtain ⟨v, o, ho, hd⟩ := I.cell x c e
  obtain ⟨m, ⟨o', es, ep, ho', hd', _⟩, _⟩ := I.loc
  rw [z, ho'] at ho; cases ho; rw [hd'] at hd; cases hd
theorem Inv.funs (I : Inv X pins σ H s) : s.heap.FunFrames X.base X.outer := by
  have all : ∀ (l : List Env), (∀ b ∈ frs l, b ∈ X.fs) → X.s₀.heap.FunFrames X.base l → s.heap.FunFrames X.base l := by
    intro l
    induction l with
    | nil => intro _ _; trivial
    | cons env r ih =>
      intro hs hl
      obtain ⟨hk, ⟨L, o, hf, hn, ho, hd⟩, hr⟩ := hl
      have hL : L ∈ X.fs := hs L (by unfold frs; rw [List.filterMap_cons, hf]; exact List.mem_cons_self)
      obtain ⟨sl, e⟩ := I.base.slot L o ho (I.ok.frf L hL) hL fun z => I.ok.exfs L z hL
      exact ⟨hk, ⟨L, _, hf, hn, e, hd⟩, ih (fun b hb => hs b (by unfold frs; rw [List.filterMap_cons, hf]; exact List.mem_cons_of_mem _ hb)) hr⟩
  exact all X.outer (fun _ hb => hb) I.ok.funs

/-- the frames that run, for a call -/
theorem Inv.stack (I : Inv X pins σ H s) : s.heap.FunFrames X.base X.stack := by
  rcases I.ok.stk with e | ⟨e, hf⟩
  · rw [e]; exact I.funs
  · rw [e]
    obtain ⟨m, hn, _⟩ := I.loc
    refine .cons (by rw [I.ok.kind]; decide) hf hn ?_ I.funs
    exact Heap.get?_none_of_le (Nat.le_trans I.ok.bsz I.ok.above)
theorem Inv.stkSub (I : Inv X pins σ H s) : ∀ b ∈ frs X.stack, b ∈ X.env.locals :: X.fs := fun b hb => by
  rcases I.ok.stk with e | ⟨e, hf⟩
  · rw [e] at hb; exact List.mem_cons_of_mem _ hb
  · rw [e] at hb
    unfold frs at hb
    rw [List.filterMap_cons, hf] at hb
    exact hb
theorem Inv.stkFree (I : Inv X pins σ H s) : ∀ b ∈ frs X.stack, H b = none := fun b hb => by
  rcases List.mem_cons.mp (I.stkSub b hb) with e | hb
  · rw [e]; exact I.free
  · obtain ⟨_, o, ho, _⟩ := I.ok.funs.mem hb
    exact I.base.free b o ho (I.ok.frf b hb) fun z => I.ok.exfs b z hb

/-- THE STEP: the untracked objects but the frame and the records at ch are kept (the callers' frames up to slots), the frame's map is kept, the new abstract heap is held -/
theorem Inv.step {g' : Array GenState} {t' : Nat} {d' : Drawn} {ch : List Addr} (I : Inv X pins σ H s)
    (hch : ∀ b ∈ ch, (b ∈ X.ex ∨ X.s₀.heap.objs.size ≤ b) ∧ b ≠ X.env.locals ∧ (∀ x c, X.env.cells.lookup x = some c → c ≠ b) ∧ ∀ p ∈ X.pn ++ pins, p.1 ≠ b)
    (keep : ∀ b o, b ≠ X.env.locals → b ∉ X.fs → b ∉ ch → s.heap.get? b = some o → H b = none → h'.get? b = some o)
    (slot : ∀ b o, b ≠ X.env.locals → b ∈ X.fs → b ∉ ch → s.heap.get? b = some o → H b = none → ∃ sl, h'.get? b = some { o with slots := sl }) (free : ∀ b o, b ∉ ch → s.heap.get? b = some o → H b = none → H' b = none)
    (there : ∀ b o, b ∉ ch → s.heap.get? b = some o → ∃ o', h'.get? b = some o')
    (tups : ∀ b xs, H b = some (.tup xs) → H' b = some (.tup xs)) (frzs : ∀ b o u, H b = some (.frz o u) → H' b = some (.frz o u)) (tbls : ∀ b ps, H b = some (.tbl ps) → ∃ more, H' b = some (.tbl (ps ++ more)))
    (ns : ∀ m, s.heap.Ns X.env.locals m → h'.Ns X.env.locals m) (hok : HOk X.prog X.w H' h') (hg : AllBare g') :
    Inv X pins σ H' { s with heap := h', gens := g', drawn := d', toks := t' } := by
  have neL : ∀ b o, X.s₀.heap.get? b = some o → b ≠ X.env.locals := fun b o e => Nat.ne_of_lt (Nat.lt_of_lt_of_le (Heap.lt_size e) I.ok.above)
  have neC : ∀ b o, X.s₀.heap.get? b = some o → b ∉ X.ex → b ∉ ch := fun b o e hx hb => by
    rcases (hch b hb).1 with z | z
    · exact hx z
    · exact absurd (Nat.lt_of_lt_of_le (Heap.lt_size e) z) (Nat.lt_irrefl _)
  have cellK : ∀ x c, X.env.cells.lookup x = some c → ∀ v, s.heap.IsCell c v → h'.IsCell c v := fun x c e v ⟨o, ho, hd⟩ => by
    have nch : c ∉ ch := fun z => (hch c z).2.2.1 x c e rfl
    by_cases hc : c ∈ X.fs
    · obtain ⟨sl, q⟩ := slot c o (I.cne x c e) hc nch ho (I.freeC x c e)
      exact ⟨_, q, hd⟩
    · exact ⟨o, keep c o (I.cne x c e) hc nch ho (I.freeC x c e), hd⟩
  refine ⟨I.ok, I.os, hg, ⟨fun b o e n hb hx => ?_, fun b o e n hb hx => ?_, fun b o e n hx => ?_, fun b o e hx => ?_, fun b xs e => tups b xs (I.base.tups b xs e), fun b o xs e => frzs b o xs (I.base.frzs b o xs e), fun b ps e => ?_⟩, ?_, fun x c e => ?_, ?_, fun x c e => ?_, fun p hp => ?_, hok, I.len⟩
  · exact keep b o (neL b o e) hb (neC b o e hx) (I.base.keep b o e n hb hx) (I.base.free b o e n hx)
  · obtain ⟨sl, e1⟩ := I.base.slot b o e n hb hx
    obtain ⟨sl', e2⟩ := slot b _ (neL b o e) hb (neC b o e hx) e1 (I.base.free b o e n hx)
    exact ⟨sl', e2⟩
  · obtain ⟨o', e1⟩ := I.base.there b o e hx
    exact free b o' (neC b o e hx) e1 (I.base.free b o e n hx)
  · obtain ⟨o', e1⟩ := I.base.there b o e hx
    exact there b o' (neC b o e hx) e1
  · obtain ⟨m1, e1⟩ := I.base.tbls b ps e
    obtain ⟨m2, e2⟩ := tbls b _ e1
    exact ⟨m1 ++ m2, by rw [e2, Array.append_assoc]⟩
  · obtain ⟨m, hn, hl⟩ := I.loc
    refine ⟨m, ns m hn, fun i x v e1 e2 e3 => ?_⟩
    obtain ⟨u, r, l⟩ := hl i x v e1 e2 e3
    refine ⟨u, r, ?_⟩
    rcases l with l | ⟨k, c, e, z⟩
    · exact .inl l
    · exact .inr ⟨k, c, e, cellK x c e _ z⟩
  · obtain ⟨v, z⟩ := I.cell x c e
    exact ⟨v, cellK x c e v z⟩
  · obtain ⟨m, ⟨o, _, _, ho, _⟩, _⟩ := I.loc
    exact free _ o (fun z => (hch _ z).2.1 rfl) ho I.free
  · obtain ⟨v, o, ho, hd⟩ := I.cell x c e
    exact free c o (fun z => (hch c z).2.2.1 x c e rfl) ho (I.freeC x c e)
  · obtain ⟨e, n, ne, nf, d⟩ := I.pin p hp
    have nch : p.1 ∉ ch := fun z => (hch p.1 z).2.2.2 p hp rfl
    exact ⟨keep p.1 p.2 ne nf nch e n, free p.1 p.2 nch e n, ne, nf, d⟩
/-- .. where the frame's own object is kept too -/
theorem Inv.un {t' : Nat} (I : Inv X pins σ H s) (u : Un X.fs [] H H' s.heap h') (hok : HOk X.prog X.w H' h') : Inv X pins σ H' { s with heap := h', toks := t' } := by
  obtain ⟨m, ⟨o, es, ep, ho, r⟩, _⟩ := id I.loc
  obtain ⟨sl, hL⟩ := u.any ho I.free (by simp)
  exact I.step (g' := s.gens) (d' := s.drawn) (ch := []) (fun _ z => nomatch z) (fun b o _ hb _ e n => u.keep b o e n hb (by simp)) (fun b o _ hb _ e n => u.slot b o e n hb (by simp)) (fun b o _ e n => u.free b o e n (by simp)) (fun b o _ e => u.there b o e (by simp)) u.tups u.frzs u.tbls (fun m' hm => by
    obtain ⟨o', es', ep', ho', r'⟩ := hm
    rw [ho] at ho'; cases ho'
    exact ⟨_, es', ep', hL, r'⟩) hok I.bare
/-- behind a call (or a comprehension's block): the slots of this frame may have changed too, the records at ch may have turned -/
theorem Inv.call {g' : Array GenState} {t' : Nat} {d' : Drawn} {ch : List Addr} (I : Inv X pins σ H s) (u : Un (frs X.stack) ch H H' s.heap h') (hok : HOk X.prog X.w H' h') (hg : AllBare g')
    (hch : ∀ b ∈ ch, (b ∈ X.ex ∨ X.s₀.heap.objs.size ≤ b) ∧ b ≠ X.env.locals ∧ (∀ x c, X.env.cells.lookup x = some c → c ≠ b) ∧ ∀ p ∈ X.pn ++ pins, p.1 ≠ b) :
    Inv X pins σ H' { s with heap := h', gens := g', drawn := d', toks := t' } := by
  obtain ⟨m, ⟨o, es, ep, ho, r⟩, _⟩ := id I.loc
  obtain ⟨sl, hL⟩ := u.any ho I.free fun z => (hch _ z).2.1 rfl
  exact I.step (ch := ch) hch (fun b o hL hb hc e n => u.keep b o e n (fun z => (List.mem_cons.mp (I.stkSub b z)).elim hL hb) hc) (fun b o _ _ hc e n => u.any e n hc) (fun b o hc e n => u.free b o e n hc) (fun b o hc e => u.there b o e hc) u.tups u.frzs u.tbls (fun m' hm => by
    obtain ⟨o', es', ep', ho', r'⟩ := hm
    rw [ho] at ho'; cases ho'
    exact ⟨_, es', ep', hL, r'⟩) hok hg
/-- an untracked record of ours (an iterator) has turned -/
theorem Inv.turned {t' : Nat} {it : Addr} (I : Inv X pins σ H s) (k : ∀ b o, b ≠ it → s.heap.get? b = some o → h'.get? b = some o) (hn : H it = none) (hL : it ≠ X.env.locals)
    (h1 : it ∈ X.ex ∨ X.s₀.heap.objs.size ≤ it) (h2 : ∀ x c, X.env.cells.lookup x = some c → c ≠ it) (h3 : ∀ p ∈ X.pn ++ pins, p.1 ≠ it) : Inv X pins σ H { s with heap := h', toks := t' } := by
  have nit : ∀ b u, H b = some u → b ≠ it := fun b u e z => by rw [z, hn] at e; cases e
  refine I.step (g' := s.gens) (d' := s.drawn) (ch := [it]) (fun b hb => ?_) (fun b o _ _ hc e _ => k b o (fun z => hc (by simp [z])) e) (fun b o _ _ hc e _ => ⟨o.slots, k b o (fun z => hc (by simp [z])) e⟩) (fun _ _ _ _ n => n)
    (fun b o hc e => ⟨o, k b o (fun z => hc (by simp [z])) e⟩) (fun _ _ e => e) (fun _ _ _ e => e) (fun b ps e => ⟨#[], by rw [e]; simp⟩) (fun m hm => ?_) (fun b u e => ?_) I.bare
  · have e : b = it := by simpa using hb
    subst e
    exact ⟨h1, hL, h2, h3⟩
  · obtain ⟨o, es, ep, ho, r⟩ := hm
    exact ⟨o, es, ep, k _ o (Ne.symm hL) ho, r⟩
  · refine (I.hok b u e).stay (fun c v hc q => k c v ?_ q) (fun _ q => q) fun _ _ q => q
    rcases hc with z | z
    · rw [z]; exact nit b u e
    · exact nit c _ z
theorem Inv.tok (I : Inv X pins σ H s) (t : Nat) : Inv X pins σ H { s with toks := t } := I.un (h' := s.heap) (t' := t) Un.refl I.hok
/-- all objects kept -/
theorem Inv.kept {t' : Nat} (I : Inv X pins σ H s) (k : ∀ b u, s.heap.get? b = some u → h'.get? b = some u) : Inv X pins σ H { s with heap := h', toks := t' } := I.un (Un.kept k) (I.hok.kept k)
/-- a new object laid and tracked -/
theorem Inv.laid {a : Addr} {o : HO} {t' : Nat} (I : Inv X pins σ H s) (k : ∀ b u, s.heap.get? b = some u → h'.get? b = some u) (hp : s.heap.objs.size ≤ a) (new : ObjOk X.prog X.w (upd H a o) h' a o) :
    Inv X pins σ (upd H a o) { s with heap := h', toks := t' } := I.un (Un.laid k hp (I.hok.fresh hp)) (I.hok.laid k hp new)
/-- an object written -/
theorem Inv.write {x e : Addr} {o : HO} {t' : Nat} (I : Inv X pins σ H s) (mu : Mut (H x)) (he : e = x ∨ H e = some (.own x)) (k : ∀ b u, b ≠ e → s.heap.get? b = some u → h'.get? b = some u) (heo : ∃ u, h'.get? e = some u)
    (new : ObjOk X.prog X.w (upd H x o) h' x o) : Inv X pins σ (upd H x o) { s with heap := h', toks := t' } := I.un (Un.write mu he k heo) (I.hok.write mu he k heo new)
theorem Inv.pins_of {pins' : List (Addr × Obj)} (I : Inv X pins σ H s) (h : ∀ p ∈ pins', s.heap.get? p.1 = some p.2 ∧ H p.1 = none ∧ p.1 ≠ X.env.locals ∧ p.1 ∉ X.fs ∧ ∀ v, p.2.data ≠ .cell v) : Inv X pins' σ H s :=
  ⟨I.ok, I.os, I.bare, I.base, I.loc, I.cell, I.free, I.freeC, fun p hp => (List.mem_append.mp hp).elim (fun z => I.pin p (List.mem_append_left _ z)) (h p), I.hok, I.len⟩

theorem nodup_ix {N : List Str} (hN : N.Nodup) {i j : Nat} {x : Str} (a : N[i]? = some x) (b : N[j]? = some x) : i = j := by
  obtain ⟨h1, e1⟩ := List.getElem?_eq_some_iff.mp a
  obtain ⟨h2, e2⟩ := List.getElem?_eq_some_iff.mp b
  exact (List.getElem_inj hN).mp (e1.trans e2.symm)

/-- a name is stored; what changed -/
theorem store_ok2 {M : Model} {A : Around} {E : Value → Shared → Prop} {i : Nat} {x : Str} {v : V} {u : Value} {Q : Unit → Shared → Prop} (I : Inv X pins σ H s) (hN : X.N.Nodup) (hi : X.N[i]? = some x) (hx : Loc X.env.scope x) (r : RelV v u)
    (h : ∀ s', Inv X pins (σ.set i (some v)) H s' → (∃ a, Heap.SameBut a s.heap s'.heap ∧ (a = X.env.locals ∨ X.env.cells.lookup x = some a)) → Q () s') (hf : X.fn x = true ∨ X.env.scope.names.lookup x = some .local := by first | exact .inl rfl | exact .inr rfl | assumption) : wpAny M A (storeName X.env x u) Q E s := by
  obtain ⟨m, hn, hl⟩ := id I.loc
  have hcls : (X.env.scope.kind == .class || (X.env.scope.kind == .module && X.env.locals != X.env.globals)) = false := by rw [I.ok.kind]; rfl
  have hiσ : i < σ.length := by rw [I.len]; exact (List.getElem?_eq_some_iff.mp hi).1
  have cne := I.cne
  have tracked : ∀ {a : Addr} {h' : Heap}, (∃ o, s.heap.get? a = some o ∧ H a = none) → Heap.SameBut a s.heap h' → HOk X.prog X.w H h' := fun {a h'} ha hs b ob e => by
    obtain ⟨_, _, hfree⟩ := ha
    refine (I.hok b ob e).stay (fun c w' hc q => (hs.2 c ?_).trans q) (fun _ q => q) fun _ _ q => q
    rintro rfl
    rcases hc with rfl | hc
    · rw [hfree] at e; cases e
    · rw [hfree] at hc; cases hc
  rcases hx with hk | hk
  · refine wpAny_storeName_local hk hn (fun h' hn' hs => ?_) hcls
    obtain ⟨oL, _, _, hoL, _⟩ := id hn
    refine h _ ⟨I.ok, I.os, I.bare, ⟨fun b o e n hb hx => ?_, fun b o e n hb hx => ?_, I.base.free, fun b o e hx => ?_, I.base.tups, I.base.frzs, I.base.tbls⟩, ⟨_, hn', fun j y v' e1 e2 e3 => ?_⟩, fun y c e => ?_, I.free, I.freeC, fun p hp => ?_, tracked ⟨oL, hoL, I.free⟩ hs, by simpa using I.len⟩ ⟨_, hs, .inl rfl⟩
    · exact (hs.2 b (Nat.ne_of_lt (Nat.lt_of_lt_of_le (Heap.lt_size e) I.ok.above))).trans (I.base.keep b o e n hb hx)
    · obtain ⟨sl, e1⟩ := I.base.slot b o e n hb hx
      exact ⟨sl, (hs.2 b (Nat.ne_of_lt (Nat.lt_of_lt_of_le (Heap.lt_size e) I.ok.above))).trans e1⟩
    · obtain ⟨o', e1⟩ := I.base.there b o e hx
      exact ⟨o', (hs.2 b (Nat.ne_of_lt (Nat.lt_of_lt_of_le (Heap.lt_size e) I.ok.above))).trans e1⟩
    · by_cases hj : j = i
      · subst hj
        rw [hi] at e1; cases e1
        rw [List.getElem?_set_self hiσ] at e2
        cases e2
        exact ⟨u, r, .inl ⟨hk, by simp⟩⟩
      · rw [List.getElem?_set_ne (Ne.symm hj)] at e2
        obtain ⟨u', r', q⟩ := hl j y v' e1 e2 e3
        refine ⟨u', r', ?_⟩
        rcases q with ⟨k, e⟩ | ⟨k, c, e, z⟩
        · refine .inl ⟨k, ?_⟩
          have : y ≠ x := fun e => hj (nodup_ix hN e1 (e ▸ hi))
          simp [this, e]
        · exact .inr ⟨k, c, e, z.sameBut hs (cne y c e)⟩
    · obtain ⟨w', z⟩ := I.cell y c e
      exact ⟨w', z.sameBut hs (cne y c e)⟩
    · obtain ⟨e, n, ne, nf, d⟩ := I.pin p hp
      exact ⟨(hs.2 p.1 ne).trans e, n, ne, nf, d⟩
  · have hfn : X.fn x = true := by
      rcases hf with z | z
      · exact z
      · rw [z] at hk; cases hk
    obtain ⟨c, hc⟩ := I.ok.has x (.inl hk)
    obtain ⟨w', z⟩ := I.cell x c hc
    refine wpAny_storeName_cell I.ok.kind hk hc z (fun h' hc' hs => ?_)
    obtain ⟨oc, hoc, hocd⟩ := id z
    refine h { s with heap := h' } ⟨I.ok, I.os, I.bare, ⟨fun b o e n hb hx => ?_, fun b o e n hb hx => ?_, I.base.free, fun b o e hx => ?_, I.base.tups, I.base.frzs, I.base.tbls⟩, ⟨m, hn.sameBut hs (Ne.symm (cne x c hc)), fun j y v' e1 e2 e3 => ?_⟩, fun y c' e => ?_, I.free, I.freeC, fun p hp => ?_, tracked ⟨oc, hoc, I.freeC x c hc⟩ hs, by simpa using I.len⟩ ⟨c, hs, .inr hc⟩
    · exact (hs.2 b (Nat.ne_of_lt (Nat.lt_of_lt_of_le (Heap.lt_size e) (I.ok.cab x c hfn hc)))).trans (I.base.keep b o e n hb hx)
    · obtain ⟨sl, e1⟩ := I.base.slot b o e n hb hx
      exact ⟨sl, (hs.2 b (Nat.ne_of_lt (Nat.lt_of_lt_of_le (Heap.lt_size e) (I.ok.cab x c hfn hc)))).trans e1⟩
    · obtain ⟨o', e1⟩ := I.base.there b o e hx
      exact ⟨o', (hs.2 b (Nat.ne_of_lt (Nat.lt_of_lt_of_le (Heap.lt_size e) (I.ok.cab x c hfn hc)))).trans e1⟩
    · by_cases hj : j = i
      · subst hj
        rw [hi] at e1; cases e1
        rw [List.getElem?_set_self hiσ] at e2
        cases e2
        exact ⟨u, r, .inr ⟨.inl hk, c, hc, hc'⟩⟩
      · rw [List.getElem?_set_ne (Ne.symm hj)] at e2
        obtain ⟨u', r', q⟩ := hl j y v' e1 e2 e3
        refine ⟨u', r', ?_⟩
        rcases q with q | ⟨k, c', e, z'⟩
        · exact .inl q
        · refine .inr ⟨k, c', e, z'.sameBut hs ?_⟩
          rintro rfl
          exact hj (nodup_ix hN e1 (I.ok.inj _ _ _ e hc ▸ hi))
    · by_cases hcc : c' = c
      · subst hcc; exact ⟨_, hc'⟩
      · obtain ⟨w2, z2⟩ := I.cell y c' e
        exact ⟨w2, z2.sameBut hs hcc⟩
    · obtain ⟨e, n, ne, nf, d⟩ := I.pin p hp
      refine ⟨(hs.2 p.1 ?_).trans e, n, ne, nf, d⟩
      intro q
      rw [q, hoc] at e
      have q' : oc = p.2 := Option.some.inj e
      exact d w' (by rw [← q']; exact hocd)
theorem store_ok {M : Model} {A : Around} {E : Value → Shared → Prop} {i : Nat} {x : Str} {v : V} {u : Value} {Q : Unit → Shared → Prop} (I : Inv X pins σ H s) (hN : X.N.Nodup) (hi : X.N[i]? = some x) (hx : Loc X.env.scope x) (r : RelV v u)
    (h : ∀ s', Inv X pins (σ.set i (some v)) H s' → Q () s') (hf : X.fn x = true ∨ X.env.scope.names.lookup x = some .local := by first | exact .inl rfl | exact .inr rfl | assumption) : wpAny M A (storeName X.env x u) Q E s :=
  store_ok2 I hN hi hx r (fun s' I' _ => h s' I') hf
/-- behind a call or a block, the state as it is -/
theorem Inv.call' {s' : Shared} {ch : List Addr} (I : Inv X pins σ H s) (ho : s'.os = s.os) (u : Un (frs X.stack) ch H H' s.heap s'.heap) (hok : HOk X.prog X.w H' s'.heap) (hg : AllBare s'.gens)
    (hch : ∀ b ∈ ch, (b ∈ X.ex ∨ X.s₀.heap.objs.size ≤ b) ∧ b ≠ X.env.locals ∧ (∀ x c, X.env.cells.lookup x = some c → c ≠ b) ∧ ∀ p ∈ X.pn ++ pins, p.1 ≠ b) : Inv X pins σ H' s' := by
  obtain ⟨h', g', d', t', o'⟩ := s'
  have e : o' = s.os := ho
  subst e
  exact I.call (g' := g') (t' := t') (d' := d') u hok hg hch
end

/-! ### the judgements -/
/-- an exception: its class, its own dict's address (where it has one), the abstract heap behind it -/
abbrev XK := Value → Option Addr → Hp → Prop
abbrev St := List (Option V)
abbrev VK := V → Hp → Prop
/-- an expression's reading; a test's; an argument list's -/
abbrev TE := St → Hp → VK → Prop
abbrev TT := St → Hp → (Bool → Hp → Prop) → Prop
abbrev TA := St → Hp → (List V → Hp → Prop) → Prop
/-- what is wanted behind a statement -/
structure Ends where
  nx : St → Hp → Prop
  rt : VK
  bk : St → Hp → Prop := fun _ _ => False
  ct : St → Hp → Prop := fun _ _ => False
abbrev TS := Ends → St → Hp → Prop

def EP (X : Cx) (pins : List (Addr × Obj)) (σ : St) (Q : VK) (u : Value) (s' : Shared) : Prop := ∃ v H', Inv X pins σ H' s' ∧ RelV v u ∧ Q v H'
def TP (X : Cx) (pins : List (Addr × Obj)) (σ : St) (Q : Bool → Hp → Prop) (b : Bool) (s' : Shared) : Prop := ∃ H', Inv X pins σ H' s' ∧ Q b H'
def AP (X : Cx) (pins : List (Addr × Obj)) (σ : St) (Q : List V → Hp → Prop) (us : List Value) (s' : Shared) : Prop := ∃ vs H', Inv X pins σ H' s' ∧ Vals vs us ∧ Q vs H'
def SP (X : Cx) (pins : List (Addr × Obj)) (D : Ends) (f : Flow) (s' : Shared) : Prop :=
  match f with
  | .next => ∃ σ' H', Inv X pins σ' H' s' ∧ D.nx σ' H'
  | .brk => ∃ σ' H', Inv X pins σ' H' s' ∧ D.bk σ' H'
  | .cont => ∃ σ' H', Inv X pins σ' H' s' ∧ D.ct σ' H'
  | .ret u => ∃ v σ' H', Inv X pins σ' H' s' ∧ RelV v u ∧ D.rt v H'

def PE (X : Cx) (e : Expr) (t : TE) : Prop :=
  ∀ (pins : List (Addr × Obj)) (s : Shared) (σ : St) (H : Hp) (Q : VK), Inv X pins σ H s → t σ H Q → wpAny (model X.prog X.w) X.A (eval e X.env) (EP X pins σ Q) X.xe s
def PT (X : Cx) (e : Expr) (t : TT) : Prop :=
  ∀ (pins : List (Addr × Obj)) (s : Shared) (σ : St) (H : Hp) (Q : Bool → Hp → Prop), Inv X pins σ H s → t σ H Q → wpAny (model X.prog X.w) X.A (isTrue e X.env (eval e X.env)) (TP X pins σ Q) X.xe s
/-- a test whatever its 'whole' is (and, or) -/
def PW (X : Cx) (e : Expr) (t : TT) : Prop :=
  ∀ (whole : Sem Value) (pins : List (Addr × Obj)) (s : Shared) (σ : St) (H : Hp) (Q : Bool → Hp → Prop), Inv X pins σ H s → t σ H Q → wpAny (model X.prog X.w) X.A (isTrue e X.env whole) (TP X pins σ Q) X.xe s
theorem PW.pt {X : Cx} {e : Expr} {t : TT} (h : PW X e t) : PT X e t := h _
/-- an argument list (no star), from the left -/
def PA (X : Cx) (es : List Expr) (t : TA) : Prop :=
  ∀ (pos : Pos) (pins : List (Addr × Obj)) (s : Shared) (σ : St) (H : Hp) (Q : List V → Hp → Prop), Inv X pins σ H s → t σ H Q → wpAny (model X.prog X.w) X.A (spliced (backTo pos (starEach es X.env))) (AP X pins σ Q) X.xe s
def PS (X : Cx) (st : Stmt) (t : TS) : Prop :=
  ∀ (pins : List (Addr × Obj)) (s : Shared) (σ : St) (H : Hp) (D : Ends), Inv X pins σ H s → t D σ H → wpAny (model X.prog X.w) X.A (exec st X.env) (SP X pins D) X.xe s
def PSs (X : Cx) (st : List Stmt) (t : TS) : Prop :=
  ∀ (pins : List (Addr × Obj)) (s : Shared) (σ : St) (H : Hp) (D : Ends), Inv X pins σ H s → t D σ H → wpAny (model X.prog X.w) X.A (execs st X.env) (SP X pins D) X.xe s
/-- weaken the end -/
theorem thn {α : Type} {t : Sem α} {Q Q' : α → Shared → Prop} {M : Model} {A : Around} {E : Value → Shared → Prop} {s : Shared} (h : wpAny M A t Q E s) (hQ : ∀ a s, Q a s → Q' a s) : wpAny M A t Q' E s := wpAny_mono h hQ fun _ _ x => x
end L2

namespace L2
open PySem PySem.Spec PyProof.Rows
section
variable {X : Cx}

/-! ### names and constants -/
def tVar (i : Nat) : TE := fun σ H Q => ∃ v, σ[i]? = some (some v) ∧ Q v H
def tC (v : V) : TE := fun _ H Q => Q v H
theorem pe_var {i : Nat} {x : Str} {pos : Pos} (hN : X.N[i]? = some x) (hv : Vis X.env.scope x) (hd : (x == ("__debug__" : Str)) = false := by decide) (hcd : (x == ("__classdict__" : Str)) = false := by decide) : PE X (.Name x pos) (tVar i) := by
  intro pins s σ H Q I h
  obtain ⟨v, e, h⟩ := h
  obtain ⟨m, hn, hl⟩ := I.loc
  obtain ⟨u, r, l⟩ := hl i x v hN e hv
  have fin : EP X pins σ Q u s := ⟨v, H, I, r, h⟩
  rcases l with ⟨hk, hm⟩ | ⟨hk, c, hc, hcell⟩
  · exact wpAny_Name (wpAny_loadName_local I.ok.kind hk hn hm fin) hd
  · rcases hk with hk | hk
    · exact wpAny_Name (wpAny_loadName_cell I.ok.kind hk hc hcell fin) hd
    · exact wpAny_Name (wpAny_loadName_free I.ok.kind hk hc hcell fin hcd) hd
theorem pe_int {i j pos} : PE X (.Constant (.int i) j pos) (tC (.int i)) := fun _ _ _ H _ I h => wpAny_Constant_int ⟨.int i, H, I.tok _, ⟨_, rfl⟩, h⟩
theorem pe_bl {b j pos} : PE X (.Constant (.bool b) j pos) (tC (.bl b)) := fun _ _ _ H _ I h => Constant_bool ⟨.bl b, H, I, rfl, h⟩
theorem pe_non {j pos} : PE X (.Constant .none j pos) (tC .non) := fun _ _ _ H _ I h => Constant_none ⟨.non, H, I, rfl, h⟩
theorem pe_str {x j pos} : PE X (.Constant (.str x) j pos) (tC (.str x)) := fun _ _ _ H _ I h => Calls.Constant_str ⟨.str x, H, I.tok _, ⟨_, rfl⟩, h⟩

/-- a global name of the def -/
def Gl (X : Cx) (x : Str) : Prop := X.env.kindOf x = some .globalImplicit
theorem ld_glob {E : Value → Shared → Prop} {pins : List (Addr × Obj)} {s : Shared} {σ : St} {H : Hp} {x : Str} {u : Value} {pos : Pos} {Q : Value → Shared → Prop} (I : Inv X pins σ H s) (hg : Gl X x) (hm : X.mg x = some u) (h : Q u s)
    (hd : (x == ("__debug__" : Str)) = false := by decide) : wpAny (model X.prog X.w) X.A (eval (.Name x pos) X.env) Q E s :=
  Calls.Name_function_global I.ok.kind hg (Calls.loadGlobal_global (by rw [I.ok.glob]; exact I.mod.glob.keeps I.bk) hm h) hd
theorem ld_blt {E : Value → Shared → Prop} {pins : List (Addr × Obj)} {s : Shared} {σ : St} {H : Hp} {x : Str} {u : Value} {pos : Pos} {Q : Value → Shared → Prop} (I : Inv X pins σ H s) (hg : Gl X x) (hm : X.mg x = none) (hv : bootBuiltins x = some u) (h : Q u s)
    (hn : x ≠ "__name__" := by decide) (hd : (x == ("__debug__" : Str)) = false := by decide) : wpAny (model X.prog X.w) X.A (eval (.Name x pos) X.env) Q E s := by
  obtain ⟨mb, h1, h2⟩ := I.mod.blt
  exact Calls.Name_function_global I.ok.kind hg (Calls.loadGlobal_builtin (by rw [I.ok.glob]; exact I.mod.glob.keeps I.bk) hm (by rw [I.ok.blt]; exact h1.keeps I.bk) ((h2 x hn).trans hv) h) hd
/-- a module's constant, a class, a function, as a value -/
theorem pe_glob {x : Str} {v : V} {u : Value} {pos : Pos} (hg : Gl X x) (hm : X.mg x = some u) (r : RelV v u) (hd : (x == ("__debug__" : Str)) = false := by decide) : PE X (.Name x pos) (tC v) :=
  fun _ _ _ H _ I h => ld_glob I hg hm ⟨v, H, I, r, h⟩ hd
theorem pe_bltn {x : Str} {v : V} {u : Value} {pos : Pos} (hg : Gl X x) (hm : X.mg x = none) (hv : bootBuiltins x = some u) (r : RelV v u) (hn : x ≠ "__name__" := by decide) (hd : (x == ("__debug__" : Str)) = false := by decide) : PE X (.Name x pos) (tC v) :=
  fun _ _ _ H _ I h => ld_blt I hg hm hv ⟨v, H, I, r, h⟩ hn hd

variable {a b : Expr} {ta tb : TE} {pos : Pos}
/-- a comparison as a value, as a test -/
def tB (t : TE) : TT := fun σ H Q => t σ H fun x H1 => ∃ c, x = .bl c ∧ Q c H1
/-- an expression whose value is a bool, as a test -/
theorem pt_val {e : Expr} {t : TE} (h : PE X e t) (he : ∀ whole, isTrue e X.env whole = (do let v ← whole; standAt e.pos; holding [v] (truthy v)) := by intro _; rfl) : PT X e (tB t) := by
  intro pins s σ H Q I hw
  refine isTrue_plain (thn (h pins s σ H _ I hw) fun v s1 ⟨x, H1, I1, r1, q1⟩ => ?_) (he _)
  obtain ⟨d, rfl, q⟩ := q1
  cases r1
  exact wpAny_truthy_bool ⟨H1, I1, q⟩

/-! ### and, or, not -/
variable {tA tB' : TT} {rest : List Expr}
def tAnd (t u : TT) : TT := fun σ H Q => t σ H fun c H1 => if c = true then u σ H1 Q else Q false H1
def tOr (t u : TT) : TT := fun σ H Q => t σ H fun c H1 => if c = true then Q true H1 else u σ H1 Q
def tNot (t : TT) : TT := fun σ H Q => t σ H fun c H1 => Q (!c) H1
theorem pw_and1 (ha : PT X a tA) : PW X (.BoolOp .And [a] pos) tA := by
  intro wh pins s σ H Q I h
  refine isTrue_and (thn (ha pins s σ H Q I h) fun c s1 e => ?_)
  cases c with
  | true => exact isTrue_and_nil e
  | false => exact e
theorem pw_or1 (ha : PT X a tA) : PW X (.BoolOp .Or [a] pos) tA := by
  intro wh pins s σ H Q I h
  refine isTrue_or (thn (ha pins s σ H Q I h) fun c s1 e => ?_)
  cases c with
  | false => exact isTrue_or_nil e
  | true => exact e
theorem pw_and (ha : PT X a tA) (hb : PW X (.BoolOp .And (b :: rest) pos) tB') : PW X (.BoolOp .And (a :: b :: rest) pos) (tAnd tA tB') := by
  intro wh pins s σ H Q I h
  refine isTrue_and (thn (ha pins s σ H _ I h) fun c s1 ⟨H1, I1, q1⟩ => ?_)
  cases c with
  | true => exact hb wh pins s1 σ H1 Q I1 q1
  | false => exact ⟨H1, I1, q1⟩
theorem pw_or (ha : PT X a tA) (hb : PW X (.BoolOp .Or (b :: rest) pos) tB') : PW X (.BoolOp .Or (a :: b :: rest) pos) (tOr tA tB') := by
  intro wh pins s σ H Q I h
  refine isTrue_or (thn (ha pins s σ H _ I h) fun c s1 ⟨H1, I1, q1⟩ => ?_)
  cases c with
  | true => exact ⟨H1, I1, q1⟩
  | false => exact hb wh pins s1 σ H1 Q I1 q1
theorem pt_not (ha : PT X a tA) : PT X (.UnaryOp .Not a pos) (tNot tA) := by
  intro pins s σ H Q I h
  exact isTrue_not (ha pins s σ H (fun c H1 => Q (!c) H1) I h)
/-- .. as values (bools) -/
def tAndV (ta tb : TE) : TE := fun σ H Q => ta σ H fun x H1 => ∃ c, x = .bl c ∧ if c = true then tb σ H1 Q else Q (.bl false) H1
def tNotV (ta : TE) : TE := fun σ H Q => ta σ H fun x H1 => ∃ c, x = .bl c ∧ Q (.bl (!c)) H1
theorem pe_one {op} {t : TE} (h : PE X a t) : PE X (.BoolOp op [a] pos) t := fun pins s σ H Q I hw => BoolOp_one (h pins s σ H Q I hw)
theorem pe_and (ha : PE X a ta) (hb : PE X (.BoolOp .And (b :: rest) pos) tb) : PE X (.BoolOp .And (a :: b :: rest) pos) (tAndV ta tb) := by
  intro pins s σ H Q I h
  refine BoolOp_and (thn (ha pins s σ H _ I h) fun v s1 ⟨x, H1, I1, r1, q1⟩ => ?_)
  obtain ⟨c, rfl, q1⟩ := q1
  cases r1
  refine wpAny_truthy_bool ?_
  cases c with
  | true => exact hb pins s1 σ H1 Q I1 q1
  | false => exact ⟨.bl false, H1, I1, rfl, q1⟩
theorem pe_not (ha : PE X a ta) : PE X (.UnaryOp .Not a pos) (tNotV ta) := by
  intro pins s σ H Q I h
  refine UnaryOp_ (thn (ha pins s σ H _ I h) fun v s1 ⟨x, H1, I1, r1, q1⟩ => ?_)
  obtain ⟨c, rfl, q1⟩ := q1
  cases r1
  exact not_of (wpAny_truthy_bool ⟨.bl (!c), H1, I1, rfl, q1⟩)
end
end L2

namespace L2
open PySem PySem.Spec PyProof.Rows

/-! ### a list, a tuple that is read: tracked, frozen, or an object of the module -/
def SqL (K : PySem.W.Frag) (H : Hp) (a : Addr) (xs : List V) : Prop :=
  Rd H a (.lst xs) ∨
    ∃ (o : Obj) (its : Array Value) (n : Nat), K.lookup a = some o ∧ o.cls = .type "list" ∧ o.dict = none ∧ o.data = .seq its n ∧ its.size ≤ sizeLine ∧ Vals xs its.toList
def SqT (K : PySem.W.Frag) (H : Hp) (a : Addr) (xs : List V) : Prop :=
  Rd H a (.tup xs) ∨
    ∃ (o : Obj) (its : Array Value) (n : Nat), K.lookup a = some o ∧ o.cls = .type "tuple" ∧ o.data = .seq its n ∧ its.size ≤ sizeLine ∧ Vals xs its.toList
def absV : Value → Option V
  | .none => some .non
  | .bool b => some (.bl b)
  | .int i _ => some (.int i)
  | .str x _ => some (.str x)
  | .bytes b _ => some (.byt b)
  | .float b _ => some (.flt b)
  | .ref a => some (.ref a)
  | .type n => some (.ty n)
  | _ => none
theorem RelV.abs {x : V} {u : Value} (r : RelV x u) : absV u = some x := by
  cases x with
  | non => cases r; rfl
  | bl _ => cases r; rfl
  | int _ => obtain ⟨t, rfl⟩ := r; rfl
  | str _ => obtain ⟨t, rfl⟩ := r; rfl
  | byt _ => obtain ⟨t, rfl⟩ := r; rfl
  | flt _ => obtain ⟨t, rfl⟩ := r; rfl
  | ref _ => cases r; rfl
  | ty _ => cases r; rfl
theorem RelV.inj {x y : V} {u : Value} (r : RelV x u) (q : RelV y u) : x = y := Option.some.inj (r.abs.symm.trans q.abs)
theorem Vals.inj : ∀ {xs ys : List V} {us : List Value}, Vals xs us → Vals ys us → xs = ys
  | _, _, _, .nil, .nil => rfl
  | _, _, _, .cons r t, .cons r' t' => by rw [r.inj r', Vals.inj t t']
section
variable {X : Cx} {pins : List (Addr × Obj)} {σ : St} {H : Hp} {s : Shared} {a : Addr} {xs ys : List V}
theorem SqL.of {K : PySem.W.Frag} (h : H a = some (.lst xs)) : SqL K H a xs := .inl (.inl h)
theorem SqT.of {K : PySem.W.Frag} (h : H a = some (.tup xs)) : SqT K H a xs := .inl (.inl h)
theorem Inv.list (I : Inv X pins σ H s) (h : SqL X.K H a xs) : ∃ its : List Value, Vals xs its ∧ PlainL s.heap a its.toArray ∧ xs.length ≤ sizeLine := by
  rcases h with h | ⟨o, its, n, hk, hc, hd, hs, hz, r⟩
  · obtain ⟨z, its, n, r, e⟩ := h.ok I.hok
    exact ⟨its, r, ⟨_, n, e, rfl, rfl, rfl⟩, z⟩
  · refine ⟨its.toList, r, ⟨o, n, I.kIn a o hk, hc, hd, by simpa using hs⟩, ?_⟩
    have e := r.length
    simp only [Array.length_toList] at e
    omega
theorem Inv.tuple (I : Inv X pins σ H s) (h : SqT X.K H a xs) : ∃ its : List Value, Vals xs its ∧ IsTup s.heap a its.toArray ∧ xs.length ≤ sizeLine := by
  rcases h with h | ⟨o, its, n, hk, hc, hs, hz, r⟩
  · obtain ⟨z, its, r, p⟩ := h.ok I.hok
    exact ⟨its, r, p, z⟩
  · refine ⟨its.toList, r, ⟨o, I.kIn a o hk, hc, n, by simpa using hs⟩, ?_⟩
    have e := r.length
    simp only [Array.length_toList] at e
    omega
theorem Inv.list_inj (I : Inv X pins σ H s) (h : SqL X.K H a xs) (h' : SqL X.K H a ys) : xs = ys := by
  obtain ⟨its, r, ⟨o, n, e, _, _, d⟩, _⟩ := I.list h
  obtain ⟨its', r', ⟨o', n', e', _, _, d'⟩, _⟩ := I.list h'
  rw [e] at e'; cases e'
  rw [d] at d'
  injection d' with d1 _
  have : its = its' := by simpa using congrArg Array.toList d1
  subst this
  exact r.inj r'
theorem Inv.tuple_inj (I : Inv X pins σ H s) (h : SqT X.K H a xs) (h' : SqT X.K H a ys) : xs = ys := by
  obtain ⟨its, r, ⟨o, e, _, n, d⟩, _⟩ := I.tuple h
  obtain ⟨its', r', ⟨o', e', _, n', d'⟩, _⟩ := I.tuple h'
  rw [e] at e'; cases e'
  rw [d] at d'
  injection d' with d1 _
  have : its = its' := by simpa using congrArg Array.toList d1
  subst this
  exact r.inj r'
end

/-! ### another wish about exceptions -/
abbrev Cx.wish (X : Cx) (E : Value → Shared → Prop) : Cx := { X with xe := E }
/-- no exception leaves -/
abbrev Cx.nox (X : Cx) : Cx := X.wish fun _ _ => False
theorem Cx.Ok.wish {X : Cx} (ok : X.Ok) (E : Value → Shared → Prop) : (X.wish E).Ok :=
  ⟨ok.mod, ok.kind, ok.glob, ok.blt, ok.above, ok.inj, ok.has, ok.cab, ok.hd, ok.frames, ok.stk, ok.exf, ok.bs, ok.bsz, ok.noex, ok.exfs, ok.funs, ok.frf⟩
theorem Cx.Ok.unwish {X : Cx} {E : Value → Shared → Prop} (ok : (X.wish E).Ok) : X.Ok :=
  ⟨ok.mod, ok.kind, ok.glob, ok.blt, ok.above, ok.inj, ok.has, ok.cab, ok.hd, ok.frames, ok.stk, ok.exf, ok.bs, ok.bsz, ok.noex, ok.exfs, ok.funs, ok.frf⟩
section
variable {X : Cx} {pins : List (Addr × Obj)} {σ : St} {H : Hp} {s : Shared} {E : Value → Shared → Prop}
theorem Inv.wish (I : Inv X pins σ H s) (E : Value → Shared → Prop) : Inv (X.wish E) pins σ H s := ⟨I.ok.wish E, I.os, I.bare, I.base, I.loc, I.cell, I.free, I.freeC, I.pin, I.hok, I.len⟩
theorem Inv.unwish (I : Inv (X.wish E) pins σ H s) : Inv X pins σ H s := ⟨I.ok.unwish, I.os, I.bare, I.base, I.loc, I.cell, I.free, I.freeC, I.pin, I.hok, I.len⟩
theorem SP.unwish {D : Ends} {f : Flow} {s' : Shared} (h : SP (X.wish E) pins D f s') : SP X pins D f s' := by
  cases f with
  | next => obtain ⟨σ', H', I, q⟩ := h; exact ⟨σ', H', I.unwish, q⟩
  | brk => obtain ⟨σ', H', I, q⟩ := h; exact ⟨σ', H', I.unwish, q⟩
  | cont => obtain ⟨σ', H', I, q⟩ := h; exact ⟨σ', H', I.unwish, q⟩
  | ret u => obtain ⟨v, σ', H', I, r, q⟩ := h; exact ⟨v, σ', H', I.unwish, r, q⟩
theorem PE.nox {e : Expr} {t : TE} (h : PE X.nox e t) : PE X e t := fun pins s σ H Q I hw =>
  wpAny_mono (h pins s σ H Q (I.wish _) hw) (fun _ _ ⟨v, H', I', r, q⟩ => ⟨v, H', I'.unwish, r, q⟩) fun _ _ z => False.elim z
theorem PT.nox {e : Expr} {t : TT} (h : PT X.nox e t) : PT X e t := fun pins s σ H Q I hw =>
  wpAny_mono (h pins s σ H Q (I.wish _) hw) (fun _ _ ⟨H', I', q⟩ => ⟨H', I'.unwish, q⟩) fun _ _ z => False.elim z
theorem PSs.nox {st : List Stmt} {t : TS} (h : PSs X.nox st t) : PSs X st t := fun pins s σ H D I hw =>
  wpAny_mono (h pins s σ H D (I.wish _) hw) (fun _ _ q => q.unwish) fun _ _ z => False.elim z
end

/-! ### blocks and small statements -/
section
variable {X : Cx} {st : Stmt} {rest : List Stmt} {t u : TS} {e : Expr} {te : TE} {pos : Pos}
def tNext : TS := fun D σ H => D.nx σ H
def tSeq (t u : TS) : TS := fun D σ H => t { D with nx := u D } σ H
theorem pss_nil : PSs X [] tNext := fun _ _ σ H _ I h => wpAny_execs_nil ⟨σ, H, I, h⟩
theorem pss_cons (h1 : PS X st t) (h2 : PSs X rest u) : PSs X (st :: rest) (tSeq t u) := by
  intro pins s σ H D I h
  refine wpAny_execs_cons (thn (h1 pins s σ H { D with nx := u D } I h) fun f s1 q => ?_)
  cases f with
  | next =>
    obtain ⟨σ', H', I', q⟩ := q
    exact h2 pins s1 σ' H' D I' q
  | ret v => exact q
  | brk => exact q
  | cont => exact q
theorem pss_one (h1 : PS X st t) : PSs X [st] t := by
  intro pins s σ H D I h
  refine wpAny_execs_cons (thn (h1 pins s σ H D I h) fun f s1 q => ?_)
  cases f with
  | next => exact wpAny_execs_nil q
  | ret v => exact q
  | brk => exact q
  | cont => exact q
/-- in a def's body nothing is shown -/
theorem Inv.quiet {pins : List (Addr × Obj)} {σ : St} {H : Hp} {s : Shared} (I : Inv X pins σ H s) : interactive X.env = false := by simp [interactive, I.ok.kind]
/-- an expression whose value is dropped -/
def tDrop (te : TE) : TS := fun D σ H => te σ H fun _ H1 => D.nx σ H1
theorem ps_expr (he : PE X e te) (hs : swapsWith e none pos.line X.env = pure false := by rfl) : PS X (.Expr e pos) (tDrop te) := by
  intro pins s σ H D I h
  exact wpAny_Expr_any (thn (he pins s σ H _ I h) fun v s1 ⟨x, H1, I1, r1, q1⟩ => ⟨σ, H1, I1, q1⟩) I.quiet hs
def tRet (te : TE) : TS := fun D σ H => te σ H D.rt
theorem ps_ret (he : PE X e te) : PS X (.Return (some e) pos) (tRet te) := by
  intro pins s σ H D I h
  exact wpAny_Return_some (thn (he pins s σ H _ I h) fun v s1 ⟨x, H1, I1, r1, q1⟩ => ⟨x, σ, H1, I1, r1, q1⟩)
def tIfS (c : TT) (t u : TS) : TS := fun D σ H => c σ H fun b H1 => if b = true then t D σ H1 else u D σ H1
theorem ps_if {c : Expr} {a b : List Stmt} {tc : TT} (hc : PT X c tc) (ha : PSs X a t) (hb : PSs X b u) : PS X (.If c a b pos) (tIfS tc t u) := by
  intro pins s σ H D I h
  refine wpAny_If (thn (hc pins s σ H _ I h) fun d s1 ⟨H1, I1, q1⟩ => ?_)
  cases d with
  | true => exact ha pins s1 σ H1 D I1 q1
  | false => exact hb pins s1 σ H1 D I1 q1
end

/-! ### targets -/
abbrev TG := V → St → Hp → (St → Hp → Prop) → Prop
abbrev TGs := List V → St → Hp → (St → Hp → Prop) → Prop
def PG (X : Cx) (target : Expr) (t : TG) : Prop :=
  ∀ (pins : List (Addr × Obj)) (s : Shared) (σ : St) (H : Hp) (v : V) (u : Value) (Q : St → Hp → Prop), Inv X pins σ H s → RelV v u → t v σ H Q →
    wpAny (model X.prog X.w) X.A (assign target X.env u) (fun _ s' => ∃ σ' H', Inv X pins σ' H' s' ∧ Q σ' H') X.xe s
/-- several targets, one after another -/
def PGs (X : Cx) (ts : List Expr) (t : TGs) : Prop :=
  ∀ (pins : List (Addr × Obj)) (s : Shared) (σ : St) (H : Hp) (vs : List V) (us : List Value) (Q : St → Hp → Prop), Inv X pins σ H s → Vals vs us → t vs σ H Q →
    wpAny (model X.prog X.w) X.A (assignInOrder ((assignEach ts X.env).map (·.2)) us) (fun _ s' => ∃ σ' H', Inv X pins σ' H' s' ∧ Q σ' H') X.xe s
section
variable {X : Cx} {pos : Pos}
def gName (i : Nat) : TG := fun v σ H Q => Q (σ.set i (some v)) H
theorem pg_name {i : Nat} {x : Str} (hN : X.N.Nodup) (hi : X.N[i]? = some x) (hx : Loc X.env.scope x) (hf : X.fn x = true ∨ X.env.scope.names.lookup x = some .local := by first | exact .inl rfl | exact .inr rfl | assumption) : PG X (.Name x pos) (gName i) := by
  intro pins s σ H v u Q I r h
  exact wpAny_assign_Name (store_ok I hN hi hx r (fun s' I' => ⟨_, H, I', h⟩) hf)
/-- target = value -/
def tAsg (te : TE) (g : TG) : TS := fun D σ H => te σ H fun x H1 => g x σ H1 D.nx
/-- name = value -/
theorem ps_set {i : Nat} {x : Str} {e : Expr} {te : TE} {pos' : Pos} (hN : X.N.Nodup) (hi : X.N[i]? = some x) (hx : Loc X.env.scope x) (he : PE X e te) (hs : swapsWith e (some (.Name x pos')) pos.line X.env = pure false := by rfl) (hf : X.fn x = true ∨ X.env.scope.names.lookup x = some .local := by first | exact .inl rfl | exact .inr rfl | assumption) :
    PS X (.Assign [.Name x pos'] e pos) (tAsg te (gName i)) := by
  intro pins s σ H D I h
  refine wpAny_Assign_Name (thn (he pins s σ H _ I h) fun v s1 ⟨y, H1, I1, r1, q1⟩ => ?_) hs
  exact store_ok I1 hN hi hx r1 (fun s2 I2 => ⟨_, H1, I2, q1⟩) hf
end

/-! ### while -/
section
variable {X : Cx} {pos : Pos}
/-- the invariant W with its measure -/
def tWhile (c : TT) (tb : TS) : TS := fun D σ H => ∃ W : Nat → St → Hp → Prop, (∃ m, W m σ H) ∧ ∀ m σ H, W m σ H →
  c σ H fun b H1 => if b = true then ∃ N : St → Hp → Prop, (∀ σ' H', N σ' H' → ∃ m', m' < m ∧ W m' σ' H') ∧ tb { D with nx := N, ct := N, bk := D.nx } σ H1 else D.nx σ H1
theorem ps_while {c : Expr} {body : List Stmt} {tc : TT} {tb : TS} (hp : PassesOwn (model X.prog X.w) X.A X.env X.xe) (hc : PT X c tc) (hb : PSs X body tb) : PS X (.While c body [] pos) (tWhile tc tb) := by
  intro pins s σ H D I h
  obtain ⟨W, ⟨m0, w0⟩, turn⟩ := h
  refine wpAny_While (codeAny_whileLoop (fun n s' => ∃ σ' H', Inv X pins σ' H' s' ∧ W n σ' H') ?_ m0 ⟨σ, H, I, w0⟩)
  rintro n s1 ⟨σ1, H1, I1, w1⟩
  refine wpAny_passesOwn hp (thn (hc pins s1 σ1 H1 _ I1 (turn n σ1 H1 w1)) fun b s2 ⟨H2, I2, q2⟩ => ?_)
  cases b with
  | true =>
    obtain ⟨N, hN, q2⟩ := q2
    rw [if_pos rfl]
    refine wpAny_passesOwn hp (thn (hb pins s2 σ1 H2 _ I2 q2) fun f s3 q3 => ?_)
    cases f with
    | next =>
      obtain ⟨σ3, H3, I3, n3⟩ := q3
      obtain ⟨m', hm, w3⟩ := hN σ3 H3 n3
      exact ⟨m', hm, σ3, H3, I3, w3⟩
    | cont =>
      obtain ⟨σ3, H3, I3, n3⟩ := q3
      obtain ⟨m', hm, w3⟩ := hN σ3 H3 n3
      exact ⟨m', hm, σ3, H3, I3, w3⟩
    | brk => exact q3
    | ret v => exact q3
  | false =>
    rw [if_neg Bool.false_ne_true]
    exact wpAny_execs_nil ⟨σ1, H2, I2, q2⟩
end

/-! ### what a loop or a comprehension walks -/
/-- at turn i: it yields x (the heap may grow), or it stops -/
structure It where
  go : Nat → Hp → Prop
  yld : Nat → Hp → V → Hp → Prop
  stop : Nat → Hp → Prop
/-- the iterator's own objects may turn: they are not the frame's, not pinned, younger than the entry (or a comprehension's own) -/
def FpOk (X : Cx) (pins : List (Addr × Obj)) (H : Hp) (b : Addr) : Prop :=
  H b = none ∧ b ≠ X.env.locals ∧ b ∉ X.fs ∧ (b ∈ X.ex ∨ X.s₀.heap.objs.size ≤ b) ∧ (∀ x c, X.env.cells.lookup x = some c → c ≠ b) ∧ ∀ p ∈ X.pn ++ pins, p.1 ≠ b
theorem Inv.fpOk {X : Cx} {pins : List (Addr × Obj)} {σ : St} {H H' : Hp} {s : Shared} {b : Addr} (I : Inv X pins σ H s) (hb : s.heap.objs.size ≤ b) (hn : H' b = none) : FpOk X pins H' b := by
  refine ⟨hn, Nat.ne_of_gt (Nat.lt_of_lt_of_le I.lt hb), I.nofs hb, .inr (Nat.le_trans I.sz hb), fun x c e z => ?_, fun p hp z => ?_⟩
  · obtain ⟨v, q⟩ := I.cell x c e
    exact absurd (Nat.lt_of_lt_of_le q.lt (by rw [z]; exact hb)) (Nat.lt_irrefl _)
  · exact absurd (Nat.lt_of_lt_of_le (Heap.lt_size (I.pin p hp).1) (by rw [z]; exact hb)) (Nat.lt_irrefl _)
structure Turn (P : Program) (w : World) (K : PySem.W.Frag) (tg : Expr) (J : It) (fp : List Addr) (it : Addr) (tn : Nat → Heap → Prop) : Prop where
  mem : it ∈ fp
  obj : ∀ i h, tn i h → ∀ b ∈ fp, ∃ o, h.get? b = some o ∧ ∀ v, o.data ≠ .cell v
  keep : ∀ i h h', tn i h → (∀ b ∈ fp, ∀ o, h.get? b = some o → h'.get? b = some o) → tn i h'
  item : ∀ (X : Cx), X.prog = P → X.w = w → X.K = K → X.calm = true → ∀ (i : Nat) (pins : List (Addr × Obj)) (s : Shared) (σ : St) (H : Hp) (E : Value → Shared → Prop), Inv X pins σ H s → (∀ b ∈ fp, FpOk X pins H b) → tn i s.heap → J.go i H →
    wpAny (model P w) X.A (pyNext (.ref it)) (fun r s1 => ∃ u, r = some u ∧
      wpAny (model P w) X.A (letOwnedTupleGo tg (.ref it) u) (fun _ s2 => ∃ x H', Inv X pins σ H' s2 ∧ RelV x u ∧ J.yld i H x H' ∧ tn (i + 1) s2.heap ∧ ∀ b ∈ fp, H' b = none) E s1) E s
  done : ∀ (X : Cx), X.prog = P → X.w = w → X.K = K → X.calm = true → ∀ (i : Nat) (pins : List (Addr × Obj)) (s : Shared) (σ : St) (H : Hp) (E : Value → Shared → Prop), Inv X pins σ H s → (∀ b ∈ fp, FpOk X pins H b) → tn i s.heap → J.stop i H →
    wpAny (model P w) X.A (pyNext (.ref it)) (fun r s1 => r = none ∧ Inv X pins σ H s1) E s
  self : ∀ (A : Around) (i : Nat) (s : Shared) (Q : Value → Shared → Prop) (E : Value → Shared → Prop), tn i s.heap → Q (.ref it) s → wpAny (model P w) A (pyIter (.ref it)) Q E s
abbrev TI := St → Hp → (It → Hp → Prop) → Prop
/-- an iterator has come -/
def PIE (X : Cx) (pins : List (Addr × Obj)) (σ : St) (tg : Expr) (R : It → Hp → Prop) (itv : Value) (s2 : Shared) : Prop :=
  ∃ (it : Addr) (fp : List Addr) (tn : Nat → Heap → Prop) (J : It) (H' : Hp), itv = .ref it ∧ Inv X pins σ H' s2 ∧ Turn X.prog X.w X.K tg J fp it tn ∧ tn 0 s2.heap ∧ (∀ b ∈ fp, FpOk X pins H' b) ∧ R J H'
def PI (X : Cx) (tg iter : Expr) (wi : TI) : Prop :=
  ∀ (pins : List (Addr × Obj)) (s : Shared) (σ : St) (H : Hp) (R : It → Hp → Prop), Inv X pins σ H s → wi σ H R →
    wpAny (model X.prog X.w) X.A (eval iter X.env) (fun v s1 => wpAny (model X.prog X.w) X.A (pyIter v) (PIE X pins σ tg R) X.xe s1) X.xe s

/-- the step ahead of the store is nothing for an iterator that keeps no tuple -/
theorem go_of {M : Model} {A : Around} {E : Value → Shared → Prop} {s : Shared} {tg : Expr} {it : Addr} {u : Value} {o : Obj} {n : String} {vs : Array Value} {Q : Unit → Shared → Prop} (ho : s.heap.get? it = some o) (hc : o.cls = .type n) (hd : o.data = .fields vs)
    (hn : ["enumerate", "zip", "dict_itemiterator", "dict_reverseitemiterator", "odict_iterator", "itertools.zip_longest", "itertools.pairwise"].contains n = false) (hQ : Q () s) : wpAny M A (letOwnedTupleGo tg (.ref it) u) Q E s := by
  unfold letOwnedTupleGo
  cases tg <;> first
    | exact wpAny_pure hQ
    | (cases u <;> first
        | exact wpAny_pure hQ
        | (refine wpAny_bind (wpAny_load ho ?_)
           rw [hc, hd]
           show wpAny M A (if (["enumerate", "zip", "dict_itemiterator", "dict_reverseitemiterator", "odict_iterator", "itertools.zip_longest", "itertools.pairwise"].contains n && vs[0]? == some (rawInt _)) = true then _ else _) Q E s
           rw [if_neg (by intro h; rw [hn, Bool.false_and] at h; cases h)]
           exact wpAny_pure hQ))

/-- the list at a, as it stands at each turn (a loop may append to it) -/
def Itl (K : PySem.W.Frag) (a : Addr) : It :=
  ⟨fun i H => ∃ xs x, SqL K H a xs ∧ xs[i]? = some x, fun i H x H' => H' = H ∧ ∀ xs, SqL K H a xs → xs[i]? = some x, fun i H => ∃ xs, SqL K H a xs ∧ xs.length ≤ i⟩
/-- lo, lo + 1, .. (n of them) -/
def Itr (lo : Int) (n : Nat) : It := ⟨fun i _ => i < n, fun i H x H' => H' = H ∧ x = .int (lo + i), fun i _ => n ≤ i⟩
theorem turn_list {P : Program} {w : World} {K : PySem.W.Frag} {tg : Expr} (a it : Addr) : Turn P w K tg (Itl K a) [it] it (fun i h => h.IsListIter it a i) where
  mem := by simp
  obj := fun i h st b hb => by
    have e : b = it := by simpa using hb
    subst e
    obtain ⟨o, e, c, d⟩ := st
    exact ⟨o, e, fun v z => by rw [d] at z; cases z⟩
  keep := fun i h h' st k => st.at fun o e => k it (by simp) o e
  item := by
    intro X hP hw hK hc i pins s σ H E I hf st hg
    subst hP hw hK
    obtain ⟨xs, x, hq, hx⟩ := hg
    obtain ⟨its, rv, p, hz⟩ := I.list hq
    obtain ⟨u, hu, ru⟩ := rv.get hx
    obtain ⟨f0, f1, f2, f3, f4, f5⟩ := hf it (by simp)
    refine wpAny_pyNext_list_item st p.isList (x := u) (by simpa using hu) fun h' st' sb => ?_
    have I1 : Inv X pins σ H { s with heap := h' } := I.turned (t' := s.toks) (fun b o hb e => (sb.2 b hb).trans e) f0 f1 f3 f4 f5
    obtain ⟨o, e, c, d⟩ := id st'
    exact ⟨u, rfl, go_of (s := { s with heap := h' }) e c d (by decide) ⟨x, H, I1, ru, ⟨rfl, fun ys hy => by rw [I.list_inj hy hq]; exact hx⟩, st', fun b hb => (hf b hb).1⟩⟩
  done := by
    intro X hP hw hK hc i pins s σ H E I hf st hg
    subst hP hw hK
    obtain ⟨xs, hq, hx⟩ := hg
    obtain ⟨its, rv, p, hz⟩ := I.list hq
    obtain ⟨f0, f1, f2, f3, f4, f5⟩ := hf it (by simp)
    have hl := rv.length
    exact wpAny_pyNext_list_end (I.ok.hd hc) st p.isList (by simp; omega) fun h' eb => ⟨rfl, I.turned (t' := s.toks) (fun b o hb e => eb b o hb e) f0 f1 f3 f4 f5⟩
  self := fun _ _ _ _ _ st h => wpAny_pyIter_listiter st h
theorem turn_range {P : Program} {w : World} {K : PySem.W.Frag} {tg : Expr} (it : Addr) (lo : Int) (n : Nat) : Turn P w K tg (Itr lo n) [it] it (fun i h => IsRangeIter h it (lo + (i : Nat) * 1) ((n : Int) - (i : Nat)) 1) where
  mem := by simp
  obj := fun i h st b hb => by
    have e : b = it := by simpa using hb
    subst e
    exact ⟨_, st, fun v z => by
      have z' : Data.fields _ = Data.cell v := z
      cases z'⟩
  keep := fun i h h' st k => k it (by simp) _ st
  item := by
    intro X hP hw hK hc i pins s σ H E I hf st hg
    subst hP hw hK
    obtain ⟨f0, f1, f2, f3, f4, f5⟩ := hf it (by simp)
    have W := Walks.range (prog := X.prog) (w := X.w) (I.ok.hd hc) it lo 1 n
    refine W.item i s _ _ hg st fun v h' tk hv st' kk => ?_
    obtain ⟨t, rfl⟩ := hv
    have I1 : Inv X pins σ H { s with heap := h', toks := tk } := I.turned (fun b o hb e => kk b o (by simpa using hb) e) f0 f1 f3 f4 f5
    refine ⟨_, rfl, go_of (s := { s with heap := h', toks := tk }) (n := "range_iterator") st' rfl rfl (by decide) ⟨.int (lo + i), H, I1, ⟨t, ?_⟩, ⟨rfl, rfl⟩, st', fun b hb => (hf b hb).1⟩⟩
    rw [Int.mul_one]
  done := by
    intro X hP hw hK hc i pins s σ H E I hf st hg
    subst hP hw hK
    obtain ⟨f0, f1, f2, f3, f4, f5⟩ := hf it (by simp)
    exact wpAny_pyNext_range_end (I.ok.hd hc) st (by have : n ≤ i := hg; omega) fun h' eb => ⟨rfl, I.turned (t' := s.toks) (fun b o hb e => eb b o hb e) f0 f1 f3 f4 f5⟩
  self := fun _ _ _ _ _ st h => wpAny_pyIter_rangeiter st h
end L2

namespace L2
open PySem PySem.Spec PyProof.Rows
section
variable {X : Cx} {tg : Expr}
def iList (K : PySem.W.Frag) (tl : TE) : TI := fun σ H R => tl σ H fun x H1 => ∃ a, x = .ref a ∧ (∃ xs, SqL K H1 a xs) ∧ R (Itl K a) H1
theorem pi_list {l : Expr} {tl : TE} (hl : PE X l tl) : PI X tg l (iList X.K tl) := by
  intro pins s σ H R I h
  refine thn (hl pins s σ H _ I h) fun v s1 ⟨x, H1, I1, r1, q1⟩ => ?_
  obtain ⟨a, e, ⟨xs, hq⟩, q⟩ := q1
  subst e
  cases r1
  obtain ⟨its, rv, p, hz⟩ := I1.list hq
  refine wpAny_pyIter_list p.isList ?_
  refine ⟨s1.heap.objs.size, [s1.heap.objs.size], _, _, H1, rfl, I1.kept (t' := s1.toks) fun b o e => Heap.get?_push_of_some _ e, turn_list a _, ⟨_, Heap.get?_push_size _ rfl, rfl, rfl⟩, fun b hb => ?_, q⟩
  have e : b = s1.heap.objs.size := by simpa using hb
  subst e
  exact I1.fpOk (Nat.le_refl _) (I1.hok.fresh (Nat.le_refl _))
/-- a range object just made, walked -/
theorem range_it {pins : List (Addr × Obj)} {σ : St} {H : Hp} {s : Shared} {R : It → Hp → Prop} {E : Value → Shared → Prop} {lo hi : Int} {t u v : Tok} {tk : Nat} (I : Inv X pins σ H s) (h1 : -(2 ^ 62) ≤ lo) (h2 : lo < 2 ^ 62) (h3 : -(2 ^ 62) ≤ hi) (h4 : hi < 2 ^ 62)
    (q : R (Itr lo (hi - lo).toNat) H) : wpAny (model X.prog X.w) X.A (pyIter (.ref s.heap.objs.size)) (PIE X pins σ tg R) E { s with heap := s.heap.push { cls := .type "range", data := .fields #[.int lo t, .int hi u, .int 1 v] }, toks := tk } := by
  refine wpAny_pyIter_range (IsRange.new ..) (small_one h1 h2 h3 h4) ?_
  have I1 : Inv X pins σ H { s with heap := s.heap.push { cls := .type "range", data := .fields #[.int lo t, .int hi u, .int 1 v] }, toks := tk } := I.kept fun b o e => Heap.get?_push_of_some _ e
  refine ⟨(s.heap.push { cls := .type "range", data := .fields #[.int lo t, .int hi u, .int 1 v] }).objs.size, [(s.heap.push { cls := .type "range", data := .fields #[.int lo t, .int hi u, .int 1 v] }).objs.size], _, _, H, rfl,
    I1.kept (t' := tk) fun b o e => Heap.get?_push_of_some _ e, turn_range _ lo (hi - lo).toNat, ?_, fun b hb => ?_, q⟩
  · have e1 : lo + ((0 : Nat) : Int) * 1 = lo := by simp
    have e2 : (((hi - lo).toNat : Nat) : Int) - ((0 : Nat) : Int) = Builtin.Range.rangeSize lo hi 1 := by rw [rangeSize_one]; split <;> omega
    show IsRangeIter _ _ (lo + ((0 : Nat) : Int) * 1) ((((hi - lo).toNat : Nat) : Int) - ((0 : Nat) : Int)) 1
    rw [e1, e2]
    exact Heap.get?_push_size _ rfl
  · have e : b = (s.heap.push { cls := .type "range", data := .fields #[.int lo t, .int hi u, .int 1 v] }).objs.size := by simpa using hb
    subst e
    exact I1.fpOk (Nat.le_refl _) (I1.hok.fresh (Nat.le_refl _))
def iRng1 (ta : TA) : TI := fun σ H R => ta σ H fun vs H1 => ∃ j : Int, vs = [.int j] ∧ -(2 ^ 62) ≤ j ∧ j < 2 ^ 62 ∧ R (Itr 0 j.toNat) H1
theorem pi_range1 {a : Expr} {ta : TA} {p pos : Pos} (hg : Gl X "range") (hm : X.mg "range" = none) (ha : PA X [a] ta) (hs : starEach [a] X.env = [(false, eval a X.env)] := by rfl) : PI X tg (.Call (.Name "range" p) [a] [] pos) (iRng1 ta) := by
  intro pins s σ H R I h
  refine Call_ (ld_blt I hg hm boot_range (PyProof.Rows.callWith_type1 (thn (ha pos pins s σ H _ I h) fun us s1 ⟨vs, H1, I1, r1, q1⟩ => ?_) hs rfl))
  obtain ⟨j, e, q1, q2, q⟩ := q1
  subst e
  cases r1 with
  | cons r rr =>
    cases rr
    obtain ⟨t, rfl⟩ := r
    exact call_range_1 (range_it I1 (by omega) (by omega) q1 q2 (by simpa using q))
/-! ### for -/
/-- W: the invariant by the turn and a measure; N: what the body is to reach -/
def tFor (wi : TI) (g : TG) (tb : TS) : TS := fun D σ H => wi σ H fun J H1 => ∃ W : Nat → Nat → St → Hp → Prop, (∃ m, W 0 m σ H1) ∧ ∀ i m σ H, W i m σ H →
  (J.stop i H ∧ D.nx σ H) ∨ (J.go i H ∧ ∃ N : St → Hp → Prop, (∀ σ' H', N σ' H' → ∃ m', m' < m ∧ W (i + 1) m' σ' H') ∧ ∀ x H', J.yld i H x H' → g x σ H' fun σ2 H2 => tb { D with nx := N, ct := N, bk := D.nx } σ2 H2)
/-- the records at fp as they stand -/
def pinsAt (fp : List Addr) (h : Heap) : List (Addr × Obj) := fp.filterMap fun b => (h.get? b).map fun o => (b, o)
theorem mem_pinsAt {fp : List Addr} {h : Heap} {b : Addr} {o : Obj} (hb : b ∈ fp) (e : h.get? b = some o) : (b, o) ∈ pinsAt fp h := List.mem_filterMap.mpr ⟨b, hb, by rw [e]; rfl⟩
theorem of_pinsAt {fp : List Addr} {h : Heap} {p : Addr × Obj} (hp : p ∈ pinsAt fp h) : p.1 ∈ fp ∧ h.get? p.1 = some p.2 := by
  obtain ⟨b, hb, e⟩ := List.mem_filterMap.mp hp
  cases q : h.get? b with
  | none => rw [q] at e; cases e
  | some o =>
    rw [q] at e
    have e' : (b, o) = p := Option.some.inj e
    subst e'
    exact ⟨hb, q⟩
theorem Inv.pinned {pins : List (Addr × Obj)} {σ : St} {H : Hp} {s : Shared} {fp : List Addr} (I : Inv X pins σ H s) (hf : ∀ b ∈ fp, FpOk X pins H b) (ho : ∀ b ∈ fp, ∃ o, s.heap.get? b = some o ∧ ∀ v, o.data ≠ .cell v) : Inv X (pins ++ pinsAt fp s.heap) σ H s :=
  I.pins_of fun p hp => (List.mem_append.mp hp).elim (fun z => I.pin p (List.mem_append_right _ z)) fun z => by
    obtain ⟨hb, e⟩ := of_pinsAt z
    obtain ⟨f0, f1, f2, _⟩ := hf p.1 hb
    obtain ⟨o, e', d⟩ := ho p.1 hb
    rw [e] at e'; cases e'
    exact ⟨e, f0, f1, f2, d⟩
theorem Inv.unpinned {pins pl : List (Addr × Obj)} {σ : St} {H : Hp} {s : Shared} (I : Inv X (pins ++ pl) σ H s) : Inv X pins σ H s := I.pins_of fun p hp => I.pin p (List.mem_append_right _ (List.mem_append_left _ hp))
theorem ps_for {iter : Expr} {body : List Stmt} {wi : TI} {g : TG} {tb : TS} {pos : Pos} (hp : PassesOwn (model X.prog X.w) X.A X.env X.xe) (hc : X.calm = true) (hi : PI X tg iter wi) (hg : PG X tg g) (hb : PSs X body tb)
    (hs : ∀ x, foldedSetIterable iter X.env x = pure x := by intro _; rfl) : PS X (.For tg iter body [] pos) (tFor wi g tb) := by
  intro pins s σ H D I h
  refine wpAny_For (thn (hi pins s σ H _ I h) fun v s1 h1 => thn h1 fun itv s2 h2 => ?_) hs
  obtain ⟨it, fp, tn, J, H2, e, I2, T, st2, f2, W, ⟨m0, w0⟩, turn⟩ := h2
  subst e
  -- what stays true of the iterator's objects through the loop
  have stat : ∀ {H' : Hp}, (∀ b ∈ fp, H' b = none) → ∀ b ∈ fp, FpOk X pins H' b := fun hn b hb => ⟨hn b hb, (f2 b hb).2⟩
  refine codeAny_forLoop_any (fun n s' => ∃ i σ' H', Inv X pins σ' H' s' ∧ tn i s'.heap ∧ (∀ b ∈ fp, H' b = none) ∧ W i n σ' H') ?_ m0 ⟨0, σ, H2, I2, st2, fun b hb => (f2 b hb).1, w0⟩
  rintro n s3 ⟨i, σ3, H3, I3, st3, fr3, w3⟩
  rcases turn i n σ3 H3 w3 with ⟨stop, qn⟩ | ⟨go, N, hN, step⟩
  · refine wpAny_passesOwn hp (thn (T.done X rfl rfl rfl hc i pins s3 σ3 H3 X.xe I3 (stat fr3) st3 stop) fun r s4 ⟨hr, I4⟩ => ?_)
    subst hr
    exact wpAny_execs_nil ⟨σ3, H3, I4, qn⟩
  · refine wpAny_passesOwn hp (thn (T.item X rfl rfl rfl hc i pins s3 σ3 H3 X.xe I3 (stat fr3) st3 go) fun r s4 ⟨u, hr, h4⟩ => ?_)
    subst hr
    refine wpAny_passesOwn hp (thn h4 fun _ s5 ⟨x, H5, I5, r5, y5, st5, fr5⟩ => ?_)
    have I5' := I5.pinned (stat fr5) (T.obj _ _ st5)
    refine wpAny_passesOwn hp (thn (hg _ s5 σ3 H5 x u _ I5' r5 (step x H5 y5)) fun _ s6 ⟨σ6, H6, I6, q6⟩ => ?_)
    refine wpAny_passesOwn hp (thn (hb _ s6 σ6 H6 _ I6 q6) fun f s7 q7 => ?_)
    have again : ∀ {σ7 : St} {H7 : Hp}, Inv X (pins ++ pinsAt fp s5.heap) σ7 H7 s7 → N σ7 H7 → ∃ m, m < n ∧ ∃ i σ' H', Inv X pins σ' H' s7 ∧ tn i s7.heap ∧ (∀ b ∈ fp, H' b = none) ∧ W i m σ' H' := fun {σ7 H7} I7 n7 => by
      obtain ⟨m', hm, w7⟩ := hN σ7 H7 n7
      refine ⟨m', hm, i + 1, σ7, H7, I7.unpinned, T.keep _ _ _ st5 fun b hb o e => (I7.pin (b, o) (List.mem_append_right _ (List.mem_append_right _ (mem_pinsAt hb e)))).1, fun b hb => ?_, w7⟩
      obtain ⟨o, e, d⟩ := T.obj _ _ st5 b hb
      exact (I7.pin (b, o) (List.mem_append_right _ (List.mem_append_right _ (mem_pinsAt hb e)))).2.1
    cases f with
    | next => obtain ⟨σ7, H7, I7, n7⟩ := q7; exact again I7 n7
    | cont => obtain ⟨σ7, H7, I7, n7⟩ := q7; exact again I7 n7
    | brk => obtain ⟨σ7, H7, I7, q7⟩ := q7; exact ⟨σ7, H7, I7.unpinned, q7⟩
    | ret v => obtain ⟨x7, σ7, H7, I7, r7, q7⟩ := q7; exact ⟨x7, σ7, H7, I7.unpinned, r7, q7⟩
end

end L2

namespace L2
open PySem PySem.Spec PyProof.Rows

abbrev R2 := V → V → Hp → VK → Prop
/-- a two-place operation on values: f is binaryOp op, inplaceOp op or compareOp op -/
def OpR (X : Cx) (f : Value → Value → Sem Value) (r : R2) : Prop :=
  ∀ (pins : List (Addr × Obj)) (s : Shared) (σ : St) (H : Hp) (x y : V) (v u : Value) (Q : VK), Inv X pins σ H s → RelV x v → RelV y u → r x y H Q →
    wpAny (model X.prog X.w) X.A (f v u) (EP X pins σ Q) X.xe s
/-- a one-place operation -/
def UnR (X : Cx) (f : Value → Sem Value) (r : V → Hp → VK → Prop) : Prop :=
  ∀ (pins : List (Addr × Obj)) (s : Shared) (σ : St) (H : Hp) (x : V) (v : Value) (Q : VK), Inv X pins σ H s → RelV x v → r x H Q →
    wpAny (model X.prog X.w) X.A (f v) (EP X pins σ Q) X.xe s
/-- a call of a value that is known (a builtin, a type) with values -/
def CallR (X : Cx) (f : Value) (r : List V → Hp → VK → Prop) : Prop :=
  ∀ (pins : List (Addr × Obj)) (s : Shared) (σ : St) (H : Hp) (xs : List V) (us : List Value) (Q : VK), Inv X pins σ H s → Vals xs us → r xs H Q →
    wpAny (model X.prog X.w) X.A (call f us) (EP X pins σ Q) X.xe s
/-- a value's truth -/
def TruR (X : Cx) (r : V → Hp → (Bool → Hp → Prop) → Prop) : Prop :=
  ∀ (pins : List (Addr × Obj)) (s : Shared) (σ : St) (H : Hp) (x : V) (v : Value) (Q : Bool → Hp → Prop), Inv X pins σ H s → RelV x v → r x H Q →
    wpAny (model X.prog X.w) X.A (truthy v) (TP X pins σ Q) X.xe s

def tOp (r : R2) (ta tb : TE) : TE := fun σ H Q => ta σ H fun x H1 => tb σ H1 fun y H2 => r x y H2 Q
def tUn (r : V → Hp → VK → Prop) (ta : TE) : TE := fun σ H Q => ta σ H fun x H1 => r x H1 Q
/-- ints in, under C, and a value out -/
def rI (C : Int → Int → Prop) (g : Int → Int → V) : R2 := fun x y H Q => ∃ i j, x = .int i ∧ y = .int j ∧ C i j ∧ Q (g i j) H
def rI0 (g : Int → Int → V) : R2 := fun x y H Q => ∃ i j, x = .int i ∧ y = .int j ∧ Q (g i j) H
def rU (g : Int → V) : V → Hp → VK → Prop := fun x H Q => ∃ i, x = .int i ∧ Q (g i) H

section
variable {X : Cx} {a b c : Expr} {ta tb tc : TE} {pos : Pos}

theorem binT (ha : PE X a ta) (hb : PE X b tb) {pins : List (Addr × Obj)} {s : Shared} {σ : St} {H : Hp} {R : V → V → Hp → Prop} (I : Inv X pins σ H s)
    (h : ta σ H fun x H1 => tb σ H1 fun y H2 => R x y H2) {Q : Value → Shared → Prop} {f : Value → Value → Sem Value}
    (hf : ∀ v u s2 x y H2, Inv X pins σ H2 s2 → RelV x v → RelV y u → R x y H2 → wpAny (model X.prog X.w) X.A (f v u) Q X.xe s2) :
    wpAny (model X.prog X.w) X.A (eval a X.env) (fun v s₁ => wpAny (model X.prog X.w) X.A (eval b X.env) (fun u s₂ => wpAny (model X.prog X.w) X.A (f v u) Q X.xe s₂) X.xe s₁) X.xe s := by
  refine thn (ha pins s σ H _ I h) fun v s1 ⟨x, H1, I1, r1, q1⟩ => ?_
  refine thn (hb pins s1 σ H1 _ I1 q1) fun u s2 ⟨y, H2, I2, r2, q2⟩ => ?_
  exact hf v u s2 x y H2 I2 r1 r2 q2

theorem pe_op {op : Operator} {r : R2} (ho : OpR X (binaryOp op) r) (ha : PE X a ta) (hb : PE X b tb) : PE X (.BinOp a op b pos) (tOp r ta tb) := by
  intro pins s σ H Q I h
  exact wpAny_BinOp (binT ha hb I h fun v u s2 x y H2 I2 rx ry q => ho pins s2 σ H2 x y v u Q I2 rx ry q)
theorem pe_un {op : UnaryOp} {r : V → Hp → VK → Prop} (ho : UnR X (unaryOp op) r) (ha : PE X a ta) : PE X (.UnaryOp op a pos) (tUn r ta) := by
  intro pins s σ H Q I h
  exact UnaryOp_ (thn (ha pins s σ H _ I h) fun v s1 ⟨x, H1, I1, r1, q1⟩ => ho pins s1 σ H1 x v Q I1 r1 q1)
/-! ### ints -/
theorem opI {f : Value → Value → Sem Value} {C : Int → Int → Prop} {g : Int → Int → Int}
    (rule : ∀ (i j : Int) (t u : Tok) (s : Shared) (Q : Value → Shared → Prop) (E : Value → Shared → Prop), C i j → Q (.int (g i j) s.toks) { s with toks := s.toks + 1 } → wpAny (model X.prog X.w) X.A (f (.int i t) (.int j u)) Q E s) :
    OpR X f (rI C fun i j => .int (g i j)) := by
  intro pins s σ H x y v u Q I rx ry h
  obtain ⟨i, j, rfl, rfl, hc, q⟩ := h
  obtain ⟨t, rfl⟩ := rx
  obtain ⟨t', rfl⟩ := ry
  exact rule i j t t' s _ _ hc ⟨.int (g i j), H, I.tok _, ⟨_, rfl⟩, q⟩
theorem opI0 {f : Value → Value → Sem Value} {g : Int → Int → Int}
    (rule : ∀ (i j : Int) (t u : Tok) (s : Shared) (Q : Value → Shared → Prop) (E : Value → Shared → Prop), Q (.int (g i j) s.toks) { s with toks := s.toks + 1 } → wpAny (model X.prog X.w) X.A (f (.int i t) (.int j u)) Q E s) :
    OpR X f (rI0 fun i j => .int (g i j)) := by
  intro pins s σ H x y v u Q I rx ry h
  obtain ⟨i, j, rfl, rfl, q⟩ := h
  obtain ⟨t, rfl⟩ := rx
  obtain ⟨t', rfl⟩ := ry
  exact rule i j t t' s _ _ ⟨.int (g i j), H, I.tok _, ⟨_, rfl⟩, q⟩
theorem opB0 {f : Value → Value → Sem Value} {g : Int → Int → Bool}
    (rule : ∀ (i j : Int) (t u : Tok) (s : Shared) (Q : Value → Shared → Prop) (E : Value → Shared → Prop), Q (.bool (g i j)) s → wpAny (model X.prog X.w) X.A (f (.int i t) (.int j u)) Q E s) :
    OpR X f (rI0 fun i j => .bl (g i j)) := by
  intro pins s σ H x y v u Q I rx ry h
  obtain ⟨i, j, rfl, rfl, q⟩ := h
  obtain ⟨t, rfl⟩ := rx
  obtain ⟨t', rfl⟩ := ry
  exact rule i j t t' s _ _ ⟨.bl (g i j), H, I, rfl, q⟩

def CDiv (i j : Int) : Prop := 0 < j ∧ j < 1073741824
def CPow (i j : Int) : Prop := 0 ≤ j ∧ j ≤ 1000000 ∧ i.natAbs < 2 ^ 64
def CMul (i j : Int) : Prop := (-(2 ^ 64) < i ∧ i < 2 ^ 64) ∨ (-(2 ^ 64) < j ∧ j < 2 ^ 64)
theorem CMul.ok {i j : Int} (h : CMul i j) : IntMulOk i j := by
  rcases h with ⟨h1, h2⟩ | ⟨h1, h2⟩
  · exact .of_left (intBits_le_64 h1 h2)
  · exact .of_right (intBits_le_64 h1 h2)
theorem op_add : OpR X (binaryOp .Add) (rI0 fun i j => .int (i + j)) := opI0 fun _ _ _ _ _ _ _ q => add_int q
theorem op_sub : OpR X (binaryOp .Sub) (rI0 fun i j => .int (i - j)) := opI0 fun _ _ _ _ _ _ _ q => sub_int q
/-- // by a positive divisor -/
theorem op_fdiv : OpR X (binaryOp .FloorDiv) (rI CDiv fun i j => .int (i / j)) := opI fun i j _ _ _ _ _ hc q => by
  have h1 : (0 : Int) < j := hc.1
  have h2 : j < 1073741824 := hc.2
  exact floordiv_int (by omega) (by rw [Int.fdiv_eq_ediv_of_nonneg i (by omega)]; exact q) (.inl (PyProof.noPylong_small (by omega)))
/-- % by a positive divisor of any size -/
theorem op_mod : OpR X (binaryOp .Mod) (rI (fun _ j => 0 < j) fun i j => .int (i % j)) := opI fun i j _ _ _ _ _ hc q => by
  have h1 : (0 : Int) < j := hc
  exact mod_int' (by omega) (by rw [Int.fmod_eq_emod_of_nonneg i (by omega)]; exact q)
theorem op_pow : OpR X (binaryOp .Pow) (rI CPow fun i j => .int (i ^ j.toNat)) := opI fun _ _ _ _ _ _ _ hc q => pow_int_small hc.1 hc.2.1 hc.2.2 q
theorem unI {f : Value → Sem Value} {g : Int → Int}
    (rule : ∀ (i : Int) (t : Tok) (s : Shared) (Q : Value → Shared → Prop) (E : Value → Shared → Prop), Q (.int (g i) s.toks) { s with toks := s.toks + 1 } → wpAny (model X.prog X.w) X.A (f (.int i t)) Q E s) :
    UnR X f (rU fun i => .int (g i)) := by
  intro pins s σ H x v Q I rx h
  obtain ⟨i, rfl, q⟩ := h
  obtain ⟨t, rfl⟩ := rx
  exact rule i t s _ _ ⟨.int (g i), H, I.tok _, ⟨_, rfl⟩, q⟩
theorem un_neg : UnR X (unaryOp .USub) (rU fun i => .int (-i)) := unI fun _ _ _ _ _ q => neg_int q
end

/-! ### comparisons -/
/-- the scalars that == tells apart as data does -/
def scal : V → V → Bool
  | .non, .non => true | .non, .int _ => true | .int _, .non => true | .non, .bl _ => true | .bl _, .non => true | .non, .str _ => true | .str _, .non => true
  | .int _, .int _ => true | .bl _, .bl _ => true | .str _, .str _ => true | .byt _, .byt _ => true
  | .int _, .str _ => true | .str _, .int _ => true | .bl _, .str _ => true | .str _, .bl _ => true
  | _, _ => false
def rEq : R2 := fun x y H Q => scal x y = true ∧ Q (.bl (decide (x = y))) H
def rNe : R2 := fun x y H Q => scal x y = true ∧ Q (.bl (!decide (x = y))) H

theorem dec_int {i j : Int} : decide (V.int i = V.int j) = (i == j) := by
  rw [Bool.eq_iff_iff]
  simp
theorem dec_bl {i j : Bool} : decide (V.bl i = V.bl j) = (i == j) := by
  rw [Bool.eq_iff_iff]
  simp
theorem dec_str {i j : Str} : decide (V.str i = V.str j) = (i == j) := by
  rw [Bool.eq_iff_iff]
  simp
theorem dec_byt {i j : Array UInt8} : decide (V.byt i = V.byt j) = (i.toList == j.toList) := by
  rw [Bool.eq_iff_iff]
  cases i
  cases j
  simp

section
variable {X : Cx} {a b c : Expr} {ta tb tc : TE} {pos : Pos}
theorem fin_bl {pins : List (Addr × Obj)} {σ : St} {H : Hp} {s : Shared} {Q : VK} {k k' : Bool} (I : Inv X pins σ H s) (q : Q (.bl k) H) (e : k = k') : EP X pins σ Q (.bool k') s := by
  subst e
  exact ⟨.bl k, H, I, rfl, q⟩
theorem op_eq : OpR X (compareOp .Eq) rEq := by
  intro pins s σ H x y v u Q I rx ry h
  obtain ⟨hs, q⟩ := h
  cases x with
  | non =>
    cases rx
    cases y with
    | non => cases ry; exact PySem.EqNone.eq_none_none (fin_bl I q (by simp))
    | bl j => cases ry; exact PySem.EqNone.eq_none_bool (fin_bl I q (by simp))
    | int j => obtain ⟨t', rfl⟩ := ry; exact PySem.EqNone.eq_none_int (fin_bl I q (by simp))
    | str j => obtain ⟨t', rfl⟩ := ry; exact PySem.EqNone.eq_none_str (fin_bl I q (by simp))
    | _ => exact absurd (show false = true from hs) Bool.false_ne_true
  | bl i =>
    cases rx
    cases y with
    | non => cases ry; exact PySem.EqNone.eq_bool_none (fin_bl I q (by simp))
    | bl j => cases ry; exact eq_bool (fin_bl I q dec_bl)
    | str j => obtain ⟨t', rfl⟩ := ry; exact PySem.EqMixed.eq_bool_str (fin_bl I q (by simp))
    | _ => exact absurd (show false = true from hs) Bool.false_ne_true
  | int i =>
    obtain ⟨t, rfl⟩ := rx
    cases y with
    | non => cases ry; exact PySem.EqNone.eq_int_none (fin_bl I q (by simp))
    | int j => obtain ⟨t', rfl⟩ := ry; exact eq_int (fin_bl I q dec_int)
    | str j => obtain ⟨t', rfl⟩ := ry; exact PySem.EqMixed.eq_int_str (fin_bl I q (by simp))
    | _ => exact absurd (show false = true from hs) Bool.false_ne_true
  | str i =>
    obtain ⟨t, rfl⟩ := rx
    cases y with
    | non => cases ry; exact PySem.EqNone.eq_str_none (fin_bl I q (by simp))
    | bl j => cases ry; exact PySem.EqMixed.eq_str_bool (fin_bl I q (by simp))
    | int j => obtain ⟨t', rfl⟩ := ry; exact PySem.EqMixed.eq_str_int (fin_bl I q (by simp))
    | str j => obtain ⟨t', rfl⟩ := ry; exact eq_str (fin_bl I q dec_str)
    | _ => exact absurd (show false = true from hs) Bool.false_ne_true
  | byt i =>
    obtain ⟨t, rfl⟩ := rx
    cases y with
    | byt j => obtain ⟨t', rfl⟩ := ry; exact PySem.W.eq_bytes (fin_bl I q dec_byt)
    | _ => exact absurd (show false = true from hs) Bool.false_ne_true
  | _ => cases y <;> exact absurd (show false = true from hs) Bool.false_ne_true
theorem op_ne : OpR X (compareOp .NotEq) rNe := by
  intro pins s σ H x y v u Q I rx ry h
  obtain ⟨hs, q⟩ := h
  cases x with
  | non =>
    cases rx
    cases y with
    | non => cases ry; exact PySem.EqNone.ne_none_none (fin_bl I q (by simp))
    | bl j => cases ry; exact PySem.EqNone.ne_none_bool (fin_bl I q (by simp))
    | int j => obtain ⟨t', rfl⟩ := ry; exact PySem.EqNone.ne_none_int (fin_bl I q (by simp))
    | str j => obtain ⟨t', rfl⟩ := ry; exact PySem.EqNone.ne_none_str (fin_bl I q (by simp))
    | _ => exact absurd (show false = true from hs) Bool.false_ne_true
  | bl i =>
    cases rx
    cases y with
    | non => cases ry; exact PySem.EqNone.ne_bool_none (fin_bl I q (by simp))
    | bl j => cases ry; exact ne_bool (fin_bl I q (congrArg not dec_bl))
    | str j => obtain ⟨t', rfl⟩ := ry; exact PySem.EqMixed.ne_bool_str (fin_bl I q (by simp))
    | _ => exact absurd (show false = true from hs) Bool.false_ne_true
  | int i =>
    obtain ⟨t, rfl⟩ := rx
    cases y with
    | non => cases ry; exact PySem.EqNone.ne_int_none (fin_bl I q (by simp))
    | int j => obtain ⟨t', rfl⟩ := ry; exact ne_int (fin_bl I q (congrArg not dec_int))
    | str j => obtain ⟨t', rfl⟩ := ry; exact PySem.EqMixed.ne_int_str (fin_bl I q (by simp))
    | _ => exact absurd (show false = true from hs) Bool.false_ne_true
  | str i =>
    obtain ⟨t, rfl⟩ := rx
    cases y with
    | non => cases ry; exact PySem.EqNone.ne_str_none (fin_bl I q (by simp))
    | bl j => cases ry; exact PySem.EqMixed.ne_str_bool (fin_bl I q (by simp))
    | int j => obtain ⟨t', rfl⟩ := ry; exact PySem.EqMixed.ne_str_int (fin_bl I q (by simp))
    | str j => obtain ⟨t', rfl⟩ := ry; exact ne_str (fin_bl I q (congrArg not dec_str))
    | _ => exact absurd (show false = true from hs) Bool.false_ne_true
  | byt i =>
    obtain ⟨t, rfl⟩ := rx
    cases y with
    | byt j => obtain ⟨t', rfl⟩ := ry; exact PySem.W.ne_bytes (fin_bl I q (congrArg not dec_byt))
    | _ => exact absurd (show false = true from hs) Bool.false_ne_true
  | _ => cases y <;> exact absurd (show false = true from hs) Bool.false_ne_true

theorem op_lt : OpR X (compareOp .Lt) (rI0 fun i j => .bl (decide (i < j))) := opB0 fun _ _ _ _ _ _ _ q => lt_int q
theorem op_gt : OpR X (compareOp .Gt) (rI0 fun i j => .bl (decide (j < i))) := opB0 fun _ _ _ _ _ _ _ q => gt_int q
/-- is None, is not None: the right side a value none -/
theorem op_isN : OpR X (compareOp .Is) (fun x y H Q => y = .non ∧ Q (.bl (decide (x = .non))) H) := by
  intro pins s σ H x y v u Q I rx ry h
  obtain ⟨rfl, q⟩ := h
  cases ry
  refine is_none_gen (fin_bl I q ?_)
  cases x <;> first
    | (cases rx; rfl)
    | (obtain ⟨t, rfl⟩ := rx; rfl)
theorem op_notN : OpR X (compareOp .IsNot) (fun x y H Q => y = .non ∧ Q (.bl (!decide (x = .non))) H) := by
  intro pins s σ H x y v u Q I rx ry h
  obtain ⟨rfl, q⟩ := h
  cases ry
  refine isnot_none_gen (fin_bl I q ?_)
  cases x <;> first
    | (cases rx; rfl)
    | (obtain ⟨t, rfl⟩ := rx; rfl)

theorem nomark (b : Expr) {op : CmpOp} (h : op ≠ .In := by decide) (h2 : op ≠ .NotIn := by decide) : behindInMarks op b = false := by
  have e1 : (op == CmpOp.In) = false := by cases op <;> first | rfl | exact absurd rfl h
  have e2 : (op == CmpOp.NotIn) = false := by cases op <;> first | rfl | exact absurd rfl h2
  cases b <;> simp [behindInMarks, e1, e2]
/-- a comparison as a value; hm: nomark b, or (for in, not in) by with_unfolding_all rfl -/
theorem pe_cmpR {op : CmpOp} {r : R2} (ho : OpR X (compareOp op) r) (ha : PE X a ta) (hb : PE X b tb) (hm : behindInMarks op b = false) : PE X (.Compare a [op] [b] pos) (tOp r ta tb) := by
  intro pins s σ H Q I h
  exact wpAny_Compare1 (binT ha hb I h fun v u s2 x y H2 I2 rx ry q => ho pins s2 σ H2 x y v u Q I2 rx ry q) hm
/-- a reading of a value as a test -/
def tTest (t : TE) : TT := fun σ H Q => t σ H fun x H' => ∃ k, x = .bl k ∧ Q k H'
theorem pt_cmpR {op : CmpOp} {r : R2} (ho : OpR X (compareOp op) r) (ha : PE X a ta) (hb : PE X b tb) (hm : behindInMarks op b = false) : PT X (.Compare a [op] [b] pos) (tTest (tOp r ta tb)) := by
  intro pins s σ H Q I h
  refine wpAny_isTrue_Compare1 (thn (ha pins s σ H _ I h) fun v s1 ⟨x, H1, I1, r1, q1⟩ => thn (hb pins s1 σ H1 _ I1 q1) fun u s2 ⟨y, H2, I2, r2, q2⟩ =>
    thn (ho pins s2 σ H2 x y v u _ I2 r1 r2 q2) fun c s3 ⟨z, H3, I3, r3, k, e, q3⟩ => ?_) hm
  subst e
  cases r3
  exact wpAny_truthy_bool ⟨H3, I3, q3⟩
/-! ### truth -/
/-- a value's truth by the abstract heap -/
def TruV (K : PySem.W.Frag) (x : V) (H : Hp) (k : Bool) : Prop :=
  match x with
  | .non => k = false
  | .bl b => k = b
  | .int i => k = (i != 0)
  | .str y => y.length ≤ sizeLine ∧ k = ((y.length : Int) != 0)
  | .byt y => y.size ≤ sizeLine ∧ k = ((y.size : Int) != 0)
  | .ref p => (∃ xs, SqL K H p xs ∧ k = !xs.isEmpty) ∨ (∃ xs, SqT K H p xs ∧ k = !xs.isEmpty) ∨ ∃ kvs, H p = some (.dK kvs) ∧ k = !kvs.isEmpty
  | _ => False
theorem isEmpty_kv {κ : Type} {kvs : List (κ × V)} {vs : List (κ × Value)} (r : KV kvs vs) : (!vs.isEmpty) = !kvs.isEmpty := by
  cases r <;> rfl
theorem isEmpty_of {xs : List V} {its : List Value} (r : Vals xs its) : (!its.toArray.isEmpty) = !xs.isEmpty := by
  cases r <;> simp
theorem line63 : (sizeLine : Nat) < 2 ^ 63 := by rw [sizeLine_eq]; decide
theorem tru_ok : TruR X (fun x H Q => ∃ k, TruV X.K x H k ∧ Q k H) := by
  intro pins s σ H x v Q I rx h
  obtain ⟨k, e, q⟩ := h
  have hl := line63
  have hs : sizeLine = 16777216 := sizeLine_eq
  cases x with
  | non =>
    cases rx
    have e' : k = false := e
    subst e'
    exact truthy_none ⟨H, I, q⟩
  | bl b =>
    cases rx
    have e' : k = b := e
    subst e'
    exact wpAny_truthy_bool ⟨H, I, q⟩
  | int i =>
    obtain ⟨t, rfl⟩ := rx
    have e' : k = (i != 0) := e
    subst e'
    exact PySem.P.truthy_int ⟨H, I, q⟩
  | str y =>
    obtain ⟨t, rfl⟩ := rx
    obtain ⟨hy, e'⟩ : y.length ≤ sizeLine ∧ k = ((y.length : Int) != 0) := e
    subst e'
    exact PySem.P.truthy_str (by omega) ⟨H, I.tok _, q⟩
  | byt y =>
    obtain ⟨t, rfl⟩ := rx
    obtain ⟨hy, e'⟩ : y.size ≤ sizeLine ∧ k = ((y.size : Int) != 0) := e
    subst e'
    exact PySem.W.truthy_bytes (by omega) ⟨H, I.tok _, q⟩
  | ref p =>
    cases rx
    have e' : (∃ xs, SqL X.K H p xs ∧ k = !xs.isEmpty) ∨ (∃ xs, SqT X.K H p xs ∧ k = !xs.isEmpty) ∨ ∃ kvs, H p = some (.dK kvs) ∧ k = !kvs.isEmpty := e
    rcases e' with ⟨xs, hx, e'⟩ | ⟨xs, hx, e'⟩ | ⟨kvs, hx, e'⟩
    · subst e'
      obtain ⟨its, r, pl, hz⟩ := I.list hx
      have hlen := r.length
      exact wpAny_truthy_list pl.isList (by simp only [List.size_toArray]; omega) ⟨H, I.tok _, by rw [isEmpty_of r]; exact q⟩
    · subst e'
      obtain ⟨its, r, pl, hz⟩ := I.tuple hx
      have hlen := r.length
      exact truthy_tuple pl (by simp only [List.size_toArray]; omega) ⟨H, I.tok _, by rw [isEmpty_of r]; exact q⟩
    · subst e'
      obtain ⟨hz, hS, vs, r, m⟩ : kvs.length ≤ sizeLine ∧ (p == sysModules) = false ∧ ∃ vs, KV kvs vs ∧ s.heap.DictOf (mixKind X.prog X.w) p vs := I.hok p _ hx
      have hlen : kvs.length = vs.length := Paired.length r
      exact wpAny_truthy_dict hS m (by omega) ⟨H, I.tok _, by rw [isEmpty_kv r]; exact q⟩
  | _ => exact (show False from e).elim
/-- any expression whose test is its value's truth (a name, a call, a subscript, a field ..: he by fun _ => rfl) -/
theorem pt_truth (ha : PE X a ta) (he : ∀ whole, isTrue a X.env whole = (do let v ← whole; standAt a.pos; holding [v] (truthy v))) :
    PT X a (fun σ H Q => ta σ H fun x H' => ∃ k, TruV X.K x H' k ∧ Q k H') := by
  intro pins s σ H Q I h
  exact isTrue_plain (thn (ha pins s σ H _ I h) fun v s1 ⟨x, H1, I1, r1, q1⟩ => tru_ok pins s1 σ H1 x v Q I1 r1 q1) (he _)

theorem op_add_str : OpR X (binaryOp .Add) (fun x y H Q => ∃ i j, x = .str i ∧ y = .str j ∧ i.length + j.length ≤ sizeLine ∧ Q (.str (i ++ j)) H) := by
  intro pins s σ H x y v u Q I rx ry h
  obtain ⟨i, j, rfl, rfl, hz, q⟩ := h
  obtain ⟨t, rfl⟩ := rx
  obtain ⟨t', rfl⟩ := ry
  exact add_str (fun t' tk => ⟨.str (i ++ j), H, I.tok _, ⟨_, rfl⟩, q⟩) hz
/-! ### scalar builtins, by CallR -/
theorem vals1 {x : V} {us : List Value} (r : Vals [x] us) : ∃ u, us = [u] ∧ RelV x u := by
  cases r with
  | cons r1 r2 => cases r2; exact ⟨_, rfl, r1⟩
theorem vals2 {x y : V} {us : List Value} (r : Vals [x, y] us) : ∃ u w', us = [u, w'] ∧ RelV x u ∧ RelV y w' := by
  cases r with
  | cons r1 r2 =>
    cases r2 with
    | cons r3 r4 => cases r4; exact ⟨_, _, rfl, r1, r3⟩
end
end L2

namespace L2
open PySem PySem.Spec PyProof.Rows

/-! ### an instance, its attributes a map -/
structure ObjM (h : Heap) (x dx C : Addr) (mA : Str → Option Value) : Prop where
  obj : h.get? x = some (PySem.W.instObj C dx)
  ns : h.Ns1 dx mA
  ne : dx ≠ x

theorem lookIn_ns {h : Heap} {dx : Addr} {mA : Str → Option Value} (n : h.Ns1 dx mA) : ∃ od, h.get? dx = some od ∧ ∀ name, PySem.W.lookIn name od = some (mA name) := by
  obtain ⟨o, es, ep, ho, hd, hk, _, hm⟩ := n
  refine ⟨o, ho, fun name => ?_⟩
  have e := hm name
  unfold nsFind findBy at e
  rw [← Array.find?_toList] at e
  unfold PySem.W.lookIn
  rw [hd]
  dsimp only
  split
  · rename_i y q
    rw [q] at e
    exact congrArg some e
  · rename_i q
    rw [q] at e
    have a : es.toList.any (·.refKey) = false := by
      rw [List.any_eq_false]
      intro y hy
      obtain ⟨z, t, hkey⟩ := hk y (Array.mem_toList_iff.mp hy)
      simp [DictEntry.refKey, hkey]
    have a' : ¬ es.toList.any (·.refKey) = true := by rw [a]; exact Bool.false_ne_true
    rw [if_neg a']
    exact congrArg some e

theorem ObjM.look {h : Heap} {x dx C : Addr} {mA : Str → Option Value} (I : ObjM h x dx C mA) : ∃ od, PySem.W.InstAt h x (PySem.W.instObj C dx) C (some od) ∧ ∀ name, PySem.W.lookIn name od = some (mA name) :=
  let ⟨od, ho, hl⟩ := lookIn_ns I.ns
  ⟨od, ⟨I.obj, rfl, rfl, ho⟩, hl⟩

section
variable {prog : Program} {w : World} {A : Around} {E : Value → Shared → Prop} {s : Shared} {K : PySem.W.Frag} {x dx C f : Addr} {mA : Str → Option Value} {name : Str} {v : Value}

end

section
variable {P : Program} {w : World} {H H' : Hp} {h h' : Heap} {a C dx : Addr} {fs fs' : List (Str × V)}
theorem ins_get (hok : HOk P w H h) (e : H a = some (.ins C dx fs)) : ∃ mA, ObjM h a dx C mA ∧ (∀ f, RelO (fs.lookup f) (mA f)) ∧ PySem.Within mA (fs.map (·.1)) ∧ fs.length ≤ 1000 ∧ H dx = some (.own a) := by
  obtain ⟨d, z, ne, ob, mA, n, r, q⟩ := (show ObjOk P w H h a (.ins C dx fs) from hok a _ e)
  exact ⟨mA, ⟨ob, n, ne⟩, r, q, z, d⟩
end

/-! ### what of the text a class must have -/
structure Cls (K : PySem.W.Frag) (C : Addr) : Prop where
  pg : PySem.W.plainGet K C Str.empty = true
  hd : PySem.W.hasDictIn K C = true
  po : PySem.W.plainOver K C = true
  sa : PySem.W.findIn K (.ref C) "__setattr__" = some (some (.builtin "object.__setattr__"))
theorem Cls.get {K : PySem.W.Frag} {C : Addr} (c : Cls K C) (f : Str) : PySem.W.plainGet K C f = true := c.pg
/-- a constant of the class -/
structure Con (K : PySem.W.Frag) (C : Addr) (f : Str) (v : V) (u : Value) : Prop where
  at_ : PySem.W.findIn K (.ref C) f = some (some u)
  rel : RelV v u
  get : PySem.W.specialIn K u "__get__" = some none
  cp : PySem.W.copiedNames.contains f = false
/-- a method: a plain def of the class or of one above it -/
structure Meth (K : PySem.W.Frag) (C : Addr) (m : Str) (f : Addr) : Prop where
  at_ : PySem.W.findIn K (.ref C) m = some (some (.ref f))
  fn : PySem.W.isFn K (.ref f) = true
  kp : PySem.W.keepIn K (.ref f) = true

section
variable {X : Cx} {pins : List (Addr × Obj)} {σ : St} {H : Hp} {s : Shared} {a C dx : Addr} {fs : List (Str × V)} {f : Str} {v : V} {A : Around} {E : Value → Shared → Prop}

end

section
variable {X : Cx} {o e value : Expr} {f : Str} {pos pos' tpos : Pos} {ta tv : TE}
end

/-! ### isinstance -/
section
variable {X : Cx} {pins : List (Addr × Obj)} {σ : St} {H : Hp} {s : Shared} {A : Around} {E : Value → Shared → Prop} {Q : Value → Shared → Prop} {c : Value} {b : Bool}
/-- the type of a value, as the fragment's deciders take it; for an instance its class -/
inductive TyOf (K : PySem.W.Frag) (H : Hp) : V → Value → Prop where
  | non : TyOf K H .non (.type "NoneType")
  | bl (x : Bool) : TyOf K H (.bl x) (.type "bool")
  | int (i : Int) : TyOf K H (.int i) (.type "int")
  | str (x : Str) : TyOf K H (.str x) (.type "str")
  | flt (x : UInt64) : TyOf K H (.flt x) (.type "float")
  | lst {a : Addr} {xs : List V} (e : H a = some (.lst xs)) : TyOf K H (.ref a) (.type "list")
  | frz {a : Addr} {o : Obj} {xs : List V} (e : H a = some (.frz o (.lst xs))) : TyOf K H (.ref a) (.type "list")
  | tup {a : Addr} {xs : List V} (e : H a = some (.tup xs)) : TyOf K H (.ref a) (.type "tuple")
  | dK {a : Addr} {kvs : List (Key × V)} (e : H a = some (.dK kvs)) : TyOf K H (.ref a) (.type "dict")
  | dT {a : Addr} {kvs : List (List Key × V)} (e : H a = some (.dT kvs)) : TyOf K H (.ref a) (.type "dict")
  | ins {a C dx : Addr} {fs : List (Str × V)} (e : H a = some (.ins C dx fs)) (cl : Cls K C) (ha : PySem.W.findIn K (.ref C) "__class__" = some (some (.builtin "object.__class__")))
      (hn : PySem.W.specialIn K (.builtin "object.__class__") "__get__" = some (some (.builtin "getset_descriptor.__get__"))) (htk : PySem.W.takesIn K (.builtin "object.__class__") = some true)
      (hm : PySem.W.mroIn K C (.type "object") = some true) : TyOf K H (.ref a) (.ref C)
/-- isinstance(x, c) for one class c, a built-in or an own one: kitOne's answer -/
theorem isinst_ok {x : V} {u t : Value} (I : Inv X pins σ H s) (rx : RelV x u) (ty : TyOf X.K H x t) (e : PySem.W.kitOne X.K t c = some b) (h : ∀ tk, Q (.bool b) { s with toks := tk }) :
    wpAny (model X.prog X.w) A (call (.builtin "isinstance") [u, c]) Q E s := by
  cases ty with
  | non => cases (show u = Value.none from rx); exact PySem.W.kia_one PySem.W.kitx_none I.kIn True.intro e (fun z => nomatch z) h
  | bl y => cases (show u = Value.bool y from rx); exact PySem.W.kia_one PySem.W.kitx_bool I.kIn True.intro e (fun z => nomatch z) h
  | int i => obtain ⟨t, q⟩ := (show ∃ t, u = Value.int i t from rx); cases q; exact PySem.W.kia_one PySem.W.kitx_int I.kIn True.intro e (fun z => nomatch z) h
  | str y => obtain ⟨t, q⟩ := (show ∃ t, u = Value.str y t from rx); cases q; exact PySem.W.kia_one PySem.W.kitx_str I.kIn True.intro e (fun z => nomatch z) h
  | flt y => obtain ⟨t, q⟩ := (show ∃ t, u = Value.float y t from rx); cases q; exact PySem.W.kia_one PySem.W.kitx_float I.kIn True.intro e (fun z => nomatch z) h
  | @lst a xs ea =>
    cases (show u = Value.ref a from rx)
    obtain ⟨_, _, n, _, h1⟩ := (show ObjOk X.prog X.w H s.heap a (.lst xs) from I.hok a _ ea)
    exact PySem.W.kia_one PySem.W.kitx_list I.kIn ⟨_, h1, rfl⟩ e (fun z => nomatch z) h
  | @frz a ob xs ea =>
    cases (show u = Value.ref a from rx)
    obtain ⟨_, _, _, n, _, h1⟩ := (show ObjOk X.prog X.w H s.heap a (.frz ob (.lst xs)) from I.hok a _ ea)
    exact PySem.W.kia_one PySem.W.kitx_list I.kIn ⟨_, h1, rfl⟩ e (fun z => nomatch z) h
  | @tup a xs ea =>
    cases (show u = Value.ref a from rx)
    obtain ⟨_, _, _, p⟩ := (show ObjOk X.prog X.w H s.heap a (.tup xs) from I.hok a _ ea)
    obtain ⟨o, h1, h2, _⟩ := p
    exact PySem.W.kia_one PySem.W.kitx_tuple I.kIn ⟨o, h1, h2⟩ e (fun z => nomatch z) h
  | @dK a kvs ea =>
    cases (show u = Value.ref a from rx)
    obtain ⟨_, _, vs, _, p⟩ := (show ObjOk X.prog X.w H s.heap a (.dK kvs) from I.hok a _ ea)
    obtain ⟨o, es, ep, h1, h2, _⟩ := p
    exact PySem.W.kia_one PySem.W.kitx_dict I.kIn ⟨o, h1, h2.1⟩ e (fun z => nomatch z) h
  | @dT a kvs ea =>
    cases (show u = Value.ref a from rx)
    obtain ⟨_, _, xs, _, o, es, ep, h1, h2, _⟩ := (show ObjOk X.prog X.w H s.heap a (.dT kvs) from I.hok a _ ea)
    exact PySem.W.kia_one PySem.W.kitx_dict I.kIn ⟨o, h1, h2.1⟩ e (fun z => nomatch z) h
  | @ins a C dx fs ea cl ha hn htk hm =>
    cases (show u = Value.ref a from rx)
    obtain ⟨mA, O, _⟩ := ins_get I.hok ea
    obtain ⟨od, J, _⟩ := O.look
    exact PySem.W.kia_one (PySem.W.kitx_own (cl.get _) cl.hd ha hn htk hm) I.kIn J e (fun z => nomatch z) h
end
end L2

namespace L2
open PySem PySem.Spec PyProof.Rows

/-! ### room -/
structure Room (k : Nat) (A : Around) : Prop where
  hd : A.handled = none
  dp : A.depth + 3 * k + 5 < recursionLimit
  un : A.units + 16 * k + 200 < cLine
theorem Room.mono {j k : Nat} {A : Around} (r : Room k A) (h : j ≤ k) : Room j A := ⟨r.hd, by have := r.dp; omega, by have := r.un; omega⟩
theorem Room.deeper {k : Nat} {A : Around} (r : Room (k + 1) A) (env : Env) : Room k (A.deeper env) :=
  ⟨r.hd, by have := r.dp; show A.depth + 1 + 3 * k + 5 < _; omega, by have := r.un; show A.units + 3 + 16 * k + 200 < _; omega⟩
theorem Room.in1 {k : Nat} {A : Around} (r : Room (k + 1) A) : Room k A.in1 :=
  ⟨r.hd, by have := r.dp; show A.depth + 3 * k + 5 < _; omega, by have := r.un; show A.units + 1 + 16 * k + 200 < _; omega⟩
theorem Room.depth {k : Nat} {A : Around} (r : Room k A) : A.depth < recursionLimit := by have := r.dp; omega
theorem Room.units {k : Nat} {A : Around} (r : Room k A) : A.units + 64 < cLine := by have := r.un; omega
/-! ### argument lists and displays -/
def tNil : TA := fun _ H Q => Q [] H
def tCons (ta : TE) (tr : TA) : TA := fun σ H Q => ta σ H fun x H1 => tr σ H1 fun xs H2 => Q (x :: xs) H2
section
variable {X : Cx} {e : Expr} {es : List Expr} {te : TE} {t : TA} {pos : Pos}
theorem pa_nil : PA X [] tNil := fun _ _ _ _ H Q I h => Calls.spliced_nil ⟨[], H, I, .nil, h⟩
theorem pa_cons (ha : PE X e te) (hr : PA X es t) (hs : starEach (e :: es) X.env = (false, eval e X.env) :: starEach es X.env := by rfl) : PA X (e :: es) (tCons te t) := by
  intro pos pins s σ H Q I h
  rw [hs]
  show wpAny _ _ (spliced ((false, eval e X.env) :: backTo pos (starEach es X.env))) _ _ s
  refine Calls.spliced_cons (thn (ha pins s σ H _ I h) fun u s1 ⟨x, H1, I1, r1, q1⟩ => ?_)
  exact thn (hr pos pins s1 σ H1 _ I1 q1) fun us s2 ⟨xs, H2, I2, r2, q2⟩ => ⟨x :: xs, H2, I2, .cons r1 r2, q2⟩

/-- a tuple, a list of written items -/
def tTup (t : TA) : TE := fun σ H Q => t σ H fun xs H1 => xs.length ≤ sizeLine ∧ ∀ p, H1 p = none → Q (.ref p) (upd H1 p (.tup xs))
def tLst (t : TA) : TE := fun σ H Q => t σ H fun xs H1 => xs.length ≤ sizeLine ∧ ∀ p, H1 p = none → Q (.ref p) (upd H1 p (.lst xs))
theorem pe_tup {x1} (h : PA X es t) : PE X (.Tuple es x1 pos) (tTup t) := by
  intro pins s σ H Q I hq
  refine wpAny_Tuple_spliced (thn (h pos pins s σ H _ I hq) fun us s1 ⟨xs, H1, I1, r, z, q⟩ => ⟨by rw [← r.length]; exact z, ?_⟩)
  have hf : H1 s1.heap.objs.size = none := I1.hok.fresh (Nat.le_refl _)
  refine ⟨.ref s1.heap.objs.size, upd H1 s1.heap.objs.size (.tup xs), I1.laid (t' := s1.toks) (fun b u e => Heap.get?_push_of_some _ e) (Nat.le_refl _) ?_, rfl, q _ hf⟩
  exact ⟨z, us, r, ⟨_, Heap.get?_push_size _ rfl, rfl, _, rfl⟩⟩
theorem pe_lst (h : PA X es t) : PE X (.List es pos) (tLst t) := by
  intro pins s σ H Q I hq
  refine wpAny_List_spliced (thn (h pos pins s σ H _ I hq) fun us s1 ⟨xs, H1, I1, r, z, q⟩ => ⟨by rw [← r.length]; exact z, ?_⟩)
  have hf : H1 s1.heap.objs.size = none := I1.hok.fresh (Nat.le_refl _)
  refine ⟨.ref s1.heap.objs.size, upd H1 s1.heap.objs.size (.lst xs), I1.laid (t' := s1.toks) (fun b u e => Heap.get?_push_of_some _ e) (Nat.le_refl _) ?_, rfl, q _ hf⟩
  exact ⟨z, us, 0, r, Heap.get?_push_size _ rfl⟩
end

/-! ### what a def promises -/
/-- a def's promise: the bound arguments in the parameters' order, the heap, the wanted end, the wanted exception -/
abbrev Sp := List V → Hp → VK → XK → Prop
/-- how an exception lies behind a call (file 08 gives it): the callers' frames, abstract heap and state ahead of the call, the wish, the exception, the state -/
abbrev CXT := List Env → Hp → Shared → XK → Value → Shared → Prop

/-- the state at a call -/
structure Env0 (P : Program) (w : World) (K : PySem.W.Frag) (mg : Str → Option Value) (base : Heap) (A : Around) (outer : List Env) (s : Shared) (H : Hp) : Prop where
  frames : A.frames = some outer
  mod : Mod K mg base
  bs : ∀ b o, base.get? b = some o → s.heap.get? b = some o ∧ H b = none
  bsz : base.objs.size ≤ s.heap.objs.size
  funs : s.heap.FunFrames base outer
  frf : ∀ b ∈ frs outer, H b = none
  hok : HOk P w H s.heap
  bare : AllBare s.gens
/-- a call's end -/
def CE (outer : List Env) (P : Program) (w : World) (H : Hp) (s : Shared) (Q : VK) (u : Value) (s' : Shared) : Prop :=
  ∃ v H', s'.os = s.os ∧ AllBare s'.gens ∧ Un (frs outer) [] H H' s.heap s'.heap ∧ HOk P w H' s'.heap ∧ RelV v u ∧ Q v H'
def CR (CX : CXT) (outer : List Env) (P : Program) (w : World) (H : Hp) (s : Shared) (Q : VK) (E : XK) (r : Result) (s' : Shared) : Prop :=
  match r with
  | .ok (.ret u) => CE outer P w H s Q u s'
  | .ok _ => False
  | .error e => CX outer H s E e s'
structure FnOk (P : Program) (w : World) (K : PySem.W.Frag) (mg : Str → Option Value) (base : Heap) (CX : CXT) (k : Nat) (f : Addr) (fd : FuncData) (ps : List Str) (sp : Sp) : Prop where
  len : ∀ vs H Q E, sp vs H Q E → vs.length = ps.length
  run : ∀ (A : Around) (outer : List Env) (s : Shared) (H : Hp) (args : Args) (us : List Value) (vs : List V) (Q : VK) (E : XK), Room k A → Env0 P w K mg base A outer s H → BindsTo s fd args (ps.zip us) → Vals vs us → sp vs H Q E →
    codeAny (model P w) A (.call (.ref f) args) (CR CX outer P w H s Q E) s
theorem FnOk.mono {P : Program} {w : World} {K : PySem.W.Frag} {mg : Str → Option Value} {base : Heap} {CX : CXT} {j k : Nat} {f : Addr} {fd : FuncData} {ps : List Str} {sp : Sp} (F : FnOk P w K mg base CX j f fd ps sp) (h : j ≤ k) :
    FnOk P w K mg base CX k f fd ps sp := ⟨F.len, fun A outer s H args us vs Q E hr => F.run A outer s H args us vs Q E (hr.mono h)⟩
/-- a weaker promise -/
theorem FnOk.imp {P : Program} {w : World} {K : PySem.W.Frag} {mg : Str → Option Value} {base : Heap} {CX : CXT} {k : Nat} {f : Addr} {fd : FuncData} {ps : List Str} {sp sp' : Sp} (F : FnOk P w K mg base CX k f fd ps sp)
    (h : ∀ vs H Q E, sp' vs H Q E → sp vs H Q E) : FnOk P w K mg base CX k f fd ps sp' :=
  ⟨fun vs H Q E q => F.len vs H Q E (h _ _ _ _ q), fun A outer s H args us vs Q E hr he hb hv hs => F.run A outer s H args us vs Q E hr he hb hv (h _ _ _ _ hs)⟩

theorem Env0.in1 {P : Program} {w : World} {K : PySem.W.Frag} {mg : Str → Option Value} {base : Heap} {A : Around} {outer : List Env} {s : Shared} {H : Hp} (e : Env0 P w K mg base A outer s H) :
    Env0 P w K mg base A.in1 outer s H := ⟨e.frames, e.mod, e.bs, e.bsz, e.funs, e.frf, e.hok, e.bare⟩

section
variable {X : Cx} {pins : List (Addr × Obj)} {σ : St} {H : Hp} {s s' : Shared}
/-- from a body: what a callee wants -/
theorem Inv.env0 (I : Inv X pins σ H s) : Env0 X.prog X.w X.K X.mg X.base X.A X.stack s H :=
  ⟨I.ok.frames, I.ok.mod, I.bs, Nat.le_trans I.ok.bsz I.sz, I.stack, I.stkFree, I.hok, I.bare⟩
/-- behind a call -/
theorem Inv.after {Q : VK} {u : Value} (I : Inv X pins σ H s) (h : CE X.stack X.prog X.w H s Q u s') : EP X pins σ Q u s' := by
  obtain ⟨v, H', os, bare, un, hok, r, q⟩ := h
  obtain ⟨hh, g, d, t, os'⟩ := s'
  obtain rfl : os' = s.os := os
  exact ⟨v, H', I.call (h' := hh) (g' := g) (d' := d) (t' := t) (ch := []) un hok bare (fun b z => absurd z (by simp)), r, q⟩
end

/-- how the parameters are bound: us the positional arguments, kw the keywords' values by name, ds the defaults that fill up -/
def Binds (K : PySem.W.Frag) (fd : FuncData) (ps : List Str) (ds : List Value) : Prop :=
  ∀ (s : Shared) (us : List Value), K.In s.heap → (us ++ ds).length = ps.length → BindsTo s fd ⟨us, []⟩ (ps.zip (us ++ ds))
/-- every parameter is given -/
theorem Binds.all {K : PySem.W.Frag} {fd : FuncData} {ps : List Str} (h : ∀ us : List Value, us.length = ps.length → bindArgs fd ⟨us, []⟩ = pure (ps.zip us)) : Binds K fd ps [] := fun s us _ hl => by
  rw [List.append_nil] at hl ⊢
  exact .of_eq (h us hl)

/-- an exception of a callee reaches what this body wants of exceptions -/
def Passes (CX : CXT) (X : Cx) (E : XK) : Prop := ∀ (pins : List (Addr × Obj)) (σ : St) (H : Hp) (s : Shared) (e : Value) (s' : Shared), Inv X pins σ H s → CX X.stack H s E e s' → X.xe e s'

section
variable {X : Cx} {CX : CXT} {k : Nat} {f C : Addr} {fd : FuncData} {ps : List Str} {sp : Sp} {dvs : List V} {ds : List Value} {E : XK} {x m : Str} {p pos apos : Pos} {e o : Expr} {es : List Expr} {ta : TE} {t : TA}

/-- what a class must have to be made -/
structure Mk (K : PySem.W.Frag) (C f : Addr) : Prop where
  makes : PySem.W.makesIn K C = true
  init : PySem.W.findIn K (.ref C) "__init__" = some (some (.ref f))
  fn : PySem.W.isFn K (.ref f) = true
  kp : PySem.W.keepIn K (.ref C) = true

end

section
variable {X : Cx} {CX : CXT} {k : Nat} {f C : Addr} {fd : FuncData} {ps ks : List Str} {sp : Sp} {E : XK} {x m : Str} {p pos apos kpos : Pos} {e o : Expr} {es : List Expr} {kws : List Keyword} {te ta : TE} {t tk : TA} {nm : Option Str}
/-- how a call with keywords binds: g puts the positional values us and the keywords' values ws (names ks) in the parameters' order, defaults among them -/
structure KBinds (K : PySem.W.Frag) (fd : FuncData) (ps ks : List Str) (g : List Value → List Value → List Value) (gV : List V → List V → List V) : Prop where
  to : ∀ (s : Shared) (us ws : List Value), K.In s.heap → (g us ws).length = ps.length → BindsTo s fd ⟨us, ks.zip ws⟩ (ps.zip (g us ws))
  rel : ∀ {vs : List V} {us : List Value} {zs : List V} {ws : List Value}, Vals vs us → Vals zs ws → Vals (gV vs zs) (g us ws)
variable {g : List Value → List Value → List Value} {gV : List V → List V → List V}
end

/-! ### a def's body keeps its promise -/
/-- names: the parameters first -/
structure FnScope (N P : List Str) (sc : Scope) : Prop where
  kind : sc.kind = .function
  co : sc.isCoroutine = false
  gen : sc.isGenerator = false
  nd : N.Nodup
  pre : N.take P.length = P
  par : ∀ x ∈ P, sc.names.lookup x = some .local ∨ sc.names.lookup x = some .cell
  nofree : ∀ y ∈ sc.names, y.2 ≠ .free

theorem bindL_out {kindOf : Str → Option NameKind} {x : Str} : ∀ {binds : List (Str × Value)} {m : Str → Option Value}, (∀ v, (x, v) ∉ binds) → bindL kindOf binds m x = m x
  | [], _, _ => rfl
  | (n, v) :: r, m, h => by
    unfold bindL
    rw [bindL_out fun w hw => h w (List.mem_cons_of_mem _ hw)]
    split
    · have : x ≠ n := by rintro rfl; exact h v List.mem_cons_self
      simp [this]
    · rfl
theorem bindC_out {kindOf : Str → Option NameKind} {x : Str} : ∀ {binds : List (Str × Value)} {m : Str → Option Value}, (∀ v, (x, v) ∉ binds) → bindC kindOf binds m x = m x
  | [], _, _ => rfl
  | (n, v) :: r, m, h => by
    unfold bindC
    rw [bindC_out fun w hw => h w (List.mem_cons_of_mem _ hw)]
    split
    · rfl
    · have : x ≠ n := by rintro rfl; exact h v List.mem_cons_self
      simp [this]
theorem bindL_get {kindOf : Str → Option NameKind} {x : Str} {v : Value} : ∀ {P : List Str} {vs : List Value} {i : Nat} {m : Str → Option Value}, P.Nodup → P[i]? = some x → vs[i]? = some v → kindOf x = some .local →
    bindL kindOf (P.zip vs) m x = some v
  | [], _, _, _, _, h, _, _ => by simp at h
  | _ :: _, [], _, _, _, _, h, _ => by simp at h
  | p :: P, w :: vs, 0, m, nd, h1, h2, hk => by
    simp at h1 h2; subst h1; subst h2
    show bindL kindOf ((p, w) :: P.zip vs) m p = _
    unfold bindL
    rw [bindL_out fun v hv => (List.nodup_cons.mp nd).1 (List.of_mem_zip hv).1, if_pos hk]
    simp
  | p :: P, w :: vs, i + 1, m, nd, h1, h2, hk => by
    show bindL kindOf ((p, w) :: P.zip vs) m x = _
    unfold bindL
    exact bindL_get (i := i) (List.nodup_cons.mp nd).2 (by simpa using h1) (by simpa using h2) hk
theorem bindC_get {kindOf : Str → Option NameKind} {x : Str} {v : Value} : ∀ {P : List Str} {vs : List Value} {i : Nat} {m : Str → Option Value}, P.Nodup → P[i]? = some x → vs[i]? = some v → kindOf x ≠ some .local →
    bindC kindOf (P.zip vs) m x = some v
  | [], _, _, _, _, h, _, _ => by simp at h
  | _ :: _, [], _, _, _, _, h, _ => by simp at h
  | p :: P, w :: vs, 0, m, nd, h1, h2, hk => by
    simp at h1 h2; subst h1; subst h2
    show bindC kindOf ((p, w) :: P.zip vs) m p = _
    unfold bindC
    rw [bindC_out fun v hv => (List.nodup_cons.mp nd).1 (List.of_mem_zip hv).1, if_neg hk]
    simp
  | p :: P, w :: vs, i + 1, m, nd, h1, h2, hk => by
    show bindC kindOf ((p, w) :: P.zip vs) m x = _
    unfold bindC
    exact bindC_get (i := i) (List.nodup_cons.mp nd).2 (by simpa using h1) (by simpa using h2) hk

/-- the names' values at the entry -/
def start (N : List Str) (vs : List V) : St := vs.map some ++ List.replicate (N.length - vs.length) none

/-- the context of a def's body, at its entry; an exception leaves the frame, then lies as CX says -/
def cxOf (CX : CXT) (P : Program) (w : World) (K : PySem.W.Frag) (mg : Str → Option Value) (base : Heap) (N : List Str) (qual : Str) (scope : Scope) (f : Addr) (cd : Value) (A : Around) (outer : List Env) (s : Shared) (H : Hp) (E : XK) : Cx where
  prog := P
  w := w
  K := K
  mg := mg
  base := base
  A := A.deeper (envOfC qual scope s.heap.objs.size f cd)
  N := N
  s₀ := s
  H₀ := H
  env := envOfC qual scope s.heap.objs.size f cd
  outer := outer
  stack := envOfC qual scope s.heap.objs.size f cd :: outer
  ex := []
  calm := true
  fn := fun _ => true
  pn := []
  xe := fun e s' => wpAny (model P w) (A.deeper (envOfC qual scope s.heap.objs.size f cd)) (leaving (envOfC qual scope s.heap.objs.size f cd) e) (fun _ s'' => CX outer H s E e s'') (fun e' s'' => CX outer H s E e' s'') s'

theorem cell_has {sc : Scope} {n : Nat} {x : Str} (h : sc.names.lookup x = some .cell) : ∃ c, (cellsFrom n sc.names []).lookup x = some c := by
  have q := PySem.W.cellsFrom_some sc.names n [] (.inl h)
  exact Option.isSome_iff_exists.mp q

theorem inv_start {CX : CXT} {P : Program} {w : World} {K : PySem.W.Frag} {mg : Str → Option Value} {base : Heap} {N ps : List Str} {qual : Str} {scope : Scope} {f : Addr} {cd : Value} {A : Around} {outer : List Env} {s s1 : Shared} {H : Hp} {E : XK} {us : List Value} {vs : List V}
    (S : FnScope N ps scope) (hd : A.handled = none) (e0 : Env0 P w K mg base A outer s H) (hl : vs.length = ps.length) (r : Vals vs us)
    (x : InCallC s s.heap.objs.size (bindL (envOfC qual scope s.heap.objs.size f cd).kindOf (ps.zip us) fun _ => none) (cellsFrom (s.heap.objs.size + 1) scope.names []) (bindC (envOfC qual scope s.heap.objs.size f cd).kindOf (ps.zip us) fun _ => none) s1) :
    Inv (cxOf CX P w K mg base N qual scope f cd A outer s H E) [] (start N vs) H s1 := by
  have hpl : ps.length ≤ N.length := by have := congrArg List.length S.pre; rw [List.length_take] at this; omega
  obtain ⟨h1, tk, rfl, hk⟩ := x.done
  have noA : ∀ b : Addr, b ∉ (cxOf CX P w K mg base N qual scope f cd A outer s H E).ex := fun b z => absurd (show b ∈ ([] : List Addr) from z) (by simp)
  refine ⟨⟨e0.mod, S.kind, rfl, rfl, Nat.le_refl _, fun y z c h1 h2 => ?_, fun y hy => ?_, fun y c _ h => ?_, fun _ => hd, Around.frames_deeper e0.frames, .inr ⟨rfl, rfl⟩, fun b z => absurd z (noA b), e0.bs, e0.bsz, fun b _ _ => noA b, fun b z => absurd z (noA b), e0.funs, e0.frf⟩,
    rfl, e0.bare, Un.kept hk, ⟨_, x.toInCall.ns, fun i y v h1 h2 h3 => ?_⟩, fun y c h => ⟨_, x.cell y c h⟩, e0.hok.fresh (Nat.le_refl _), fun y c h => ?_, fun p hp => absurd (show p ∈ ([] : List (Addr × Obj)) from hp) (by simp), e0.hok.kept hk, ?_⟩
  · exact name_of_addr x.apart (PySem.mem_of_lookup h1) (PySem.mem_of_lookup h2)
  · have hy : scope.names.lookup y = some .cell ∨ scope.names.lookup y = some .free := hy
    rcases hy with hy | hy
    · exact cell_has hy
    · exact absurd rfl (S.nofree _ (PySem.mem_of_lookup hy))
  · exact Nat.le_of_lt (x.above y c (PySem.mem_of_lookup h))
  · have hi : i < vs.length := by
      unfold start at h2
      by_cases hi : i < vs.length
      · exact hi
      · rw [List.getElem?_append_right (by simpa using hi)] at h2
        rw [List.getElem?_replicate] at h2
        split at h2 <;> cases h2
    have ha : vs[i]? = some v := by
      unfold start at h2
      rw [List.getElem?_append_left (by simpa using hi), List.getElem?_map] at h2
      cases e : vs[i]? with
      | none => rw [e] at h2; cases h2
      | some a => rw [e] at h2; cases h2; rfl
    obtain ⟨u, hu, rv⟩ := r.get ha
    have hp : ps[i]? = some y := by
      rw [← S.pre, List.getElem?_take_of_lt (by omega)]; exact h1
    have ndP : ps.Nodup := by rw [← S.pre]; exact S.nd.sublist (List.take_sublist _ _)
    refine ⟨u, rv, ?_⟩
    rcases S.par y (List.mem_of_getElem? hp) with k | k
    · exact .inl ⟨k, bindL_get ndP hp hu k⟩
    · obtain ⟨c, e⟩ := cell_has (n := s.heap.objs.size + 1) k
      refine .inr ⟨.inl k, c, e, ?_⟩
      have q := x.cell y c e
      rw [bindC_get ndP hp hu (by show scope.names.lookup y ≠ _; rw [k]; decide)] at q
      exact q
  · exact e0.hok.fresh (Nat.le_of_lt (x.above y c (PySem.mem_of_lookup h)))
  · unfold start
    show _ = N.length
    rw [List.length_append, List.length_map, List.length_replicate]
    omega

/-- THE RULE: a def (or a method) of the text, by its body. The body's reading t is chosen for each entry; it is run at the parameters' values -/
theorem fn_of {CX : CXT} {P : Program} {w : World} {K : PySem.W.Frag} {mg : Str → Option Value} {base : Heap} {k : Nat} {f : Addr} {name qual : Str} {params : Arguments} {body : List Stmt} {scope : Scope} {dV kV doc pm cdv ct oc : Value} {an od : Option Addr}
    {osl : Array (Option Value)} {N ps : List Str} {sp : Sp} (lk : K.lookup f = some ⟨oc, od, .func (PySem.W.fnOf name qual params body scope dV kV doc pm an cdv ct), osl⟩) (hcd : PySem.W.codeIn K cdv qual = true) (S : FnScope N ps scope)
    (len : ∀ vs H Q E, sp vs H Q E → vs.length = ps.length)
    (hbody : ∀ (A : Around) (outer : List Env) (s : Shared) (H : Hp) (vs : List V) (Q : VK) (E : XK), Room k (A.deeper (envOfC qual scope s.heap.objs.size f cdv)) → sp vs H Q E →
      ∃ t, PSs (cxOf CX P w K mg base N qual scope f cdv A outer s H E) body t ∧ t { nx := fun _ H' => Q .non H', rt := Q } (start N vs) H) :
    FnOk P w K mg base CX (k + 1) f (PySem.W.fnOf name qual params body scope dV kV doc pm an cdv ct) ps sp := by
  refine ⟨len, fun A outer s H args us vs Q E hr e0 hb r hsp => ?_⟩
  have hl := len _ _ _ _ hsp
  have KX : K.In s.heap := e0.mod.kin.keeps fun b o e => (e0.bs b o e).1
  have lim : s.heap.NoLimit := e0.mod.nolimit.keeps fun b o e => (e0.bs b o e).1
  have hkind : ∀ y ∈ ps.zip us, scope.names.lookup y.1 = some .local ∨ (scope.names.lookup y.1 = some .cell ∧ ((cellsFrom (s.heap.objs.size + 1) scope.names []).lookup y.1).isSome = true) := fun ⟨n, v⟩ hy => by
    rcases S.par n (List.of_mem_zip hy).1 with q | q
    · exact .inl q
    · exact .inr ⟨q, PySem.W.cellsFrom_some _ _ _ (.inl q)⟩
  refine codeAny_call_function hr.depth (KX _ _ lk) rfl S.co S.gen rfl (PySem.W.codeRec_of KX hcd) (hb _ _ _ _ ?_)
  refine wpAny_newFunctionEnv_cells S.kind hkind fun env he s1 x => ?_
  subst he
  refine ⟨lim.keeps x.toInCall.keep, codeAny_func ?_⟩
  obtain ⟨t, ht, hq⟩ := hbody A outer s H vs Q E (hr.deeper _) hsp
  have I : Inv (cxOf CX P w K mg base N qual scope f cdv A outer s H E) [] (start N vs) H s1 := inv_start S hr.hd e0 hl r x
  refine wpAny_mono (ht [] s1 (start N vs) H _ I hq) (fun fl s' hs => ?_) fun e s' hs => hs
  have fin : ∀ {σ' : St} {H' : Hp} {v : V} {u : Value}, Inv (cxOf CX P w K mg base N qual scope f cdv A outer s H E) [] σ' H' s' → RelV v u → Q v H' → CE outer P w H s Q u s' :=
    fun {σ' H' v u} J rv q => ⟨v, H', J.os, J.bare, J.base, J.hok, rv, q⟩
  cases fl with
  | ret u =>
    obtain ⟨v, σ', H', J, rv, q⟩ := hs
    exact fin J rv q
  | next =>
    obtain ⟨σ', H', J, q⟩ := hs
    exact fin (v := V.non) (u := Value.none) J rfl q
  | brk =>
    obtain ⟨_, _, _, q⟩ := hs
    exact False.elim q
  | cont =>
    obtain ⟨_, _, _, q⟩ := hs
    exact False.elim q
end L2

namespace L2
open PySem PySem.Spec PyProof.Rows
section
variable {X : Cx} {x : Str} {p pos : Pos} {e : Expr} {es : List Expr} {t : TA} {id T : String} {r : List V → Hp → VK → Prop}

def tCB (r : List V → Hp → VK → Prop) (t : TA) : TE := fun σ H Q => t σ H fun vs H1 => r vs H1 Q
/-- f(e, ..), f a built-in function -/
theorem pe_callB (hc : CallR X (.builtin id) r) (hg : Gl X x) (hm : X.mg x = none) (hv : bootBuiltins x = some (.builtin id)) (ha : PA X (e :: es) t) (hn : x ≠ "__name__" := by decide) (hdb : (x == ("__debug__" : Str)) = false := by decide)
    (he : starEach (e :: es) X.env = (false, eval e X.env) :: starEach es X.env := by rfl) (hpl : (backTo pos (starEach es X.env)).any (·.1) = false := by rfl) : PE X (.Call (.Name x p) (e :: es) [] pos) (tCB r t) := by
  intro pins s σ H Q I h
  refine wpAny_Call_Name_kw (ld_blt I hg hm hv ?_ hn hdb)
  exact PyProof.Rows.callWith_builtin1 (thn (ha pos pins s σ H _ I h) fun us s1 ⟨vs, H1, I1, r1, q1⟩ => hc pins s1 σ H1 vs us Q I1 r1 q1) he hpl
end
end L2

namespace HT
open PySem PyProof.Rows

section
open PySem.SeqAt
open PySem.AutoSeq1 (wpAny_loadPart')
open PySem.MeetsSeq PySem.MeetsSeq2 PySem.MeetsSeq3

end

section
variable {prog : Program} {w : World} {A : Around} {E : Value → Shared → Prop} {s : Shared}

/-! ### t[a:b], not the whole -/
/-- a slice's bound as a place among n (d where it is left out) -/
def sIx (n d : Nat) : Option Int → Nat
  | none => d
  | some v => if v < 0 then (v + (n : Int)).toNat else min v.toNat n
theorem sIx_none (n d : Nat) : sIx n d none = d := rfl
theorem sIx_nat (n d k : Nat) : sIx n d (some (k : Int)) = min k n := by
  show (if (k : Int) < 0 then ((k : Int) + (n : Int)).toNat else min (k : Int).toNat n) = min k n
  rw [if_neg (by omega), Int.toNat_natCast]
theorem sIx_le (n d : Nat) (hd : d ≤ n) (o : Option Int) : sIx n d o ≤ n := by
  cases o with
  | none => exact hd
  | some v =>
    show (if v < 0 then (v + (n : Int)).toNat else min v.toNat n) ≤ n
    by_cases hv : v < 0
    · rw [if_pos hv]; omega
    · rw [if_neg hv]; exact Nat.min_le_right _ _
end
end HT

namespace L2
open PySem PySem.Spec PyProof.Rows

/-! ### the parts of a slice -/
abbrev TO := St → Hp → (Option Int → Hp → Prop) → Prop
/-- a slice's part (left out, or an int) -/
def PO (X : Cx) (e : Option Expr) (t : TO) : Prop :=
  ∀ (pins : List (Addr × Obj)) (s : Shared) (σ : St) (H : Hp) (Q : Option Int → Hp → Prop), Inv X pins σ H s → t σ H Q →
    wpAny (model X.prog X.w) X.A (evalPart e X.env) (fun u s' => ∃ o H', Inv X pins σ H' s' ∧ IsPart u o ∧ Q o H') X.xe s
def tNoPart : TO := fun _ H Q => Q none H
def tPart (t : TE) : TO := fun σ H Q => t σ H fun x H1 => ∃ i, x = .int i ∧ Q (some i) H1

section
variable {X : Cx} {e : Expr} {te : TE} {lo hi : Option Expr} {tl th : TO} {pos p2 : Pos}

theorem po_none : PO X none tNoPart := by
  intro pins s σ H Q I h
  rw [evalPart_none]
  exact wpAny_pure ⟨none, H, I, .none, h⟩
theorem po_some (h : PE X e te) : PO X (some e) (tPart te) := by
  intro pins s σ H Q I hw
  rw [evalPart_some]
  refine thn (h pins s σ H _ I hw) fun u s1 ⟨x, H1, I1, r1, q1⟩ => ?_
  obtain ⟨i, rfl, q⟩ := q1
  obtain ⟨t, rfl⟩ := r1
  exact ⟨some i, H1, I1, .int i t, q⟩

/-- what a slice of a value is, by values: the slice object stands at sl -/
def SlR (X : Cx) (r : V → Option Int → Option Int → Hp → VK → Prop) : Prop :=
  ∀ (pins : List (Addr × Obj)) (s : Shared) (σ : St) (H : Hp) (x : V) (v vl vu : Value) (lo hi : Option Int) (sl : Addr) (Q : VK), Inv X pins σ H s → RelV x v → s.heap.IsSliceOf sl vl vu .none → IsPart vl lo → IsPart vu hi → r x lo hi H Q →
    ∃ T id, typeLookup (.type T) "__getitem__" = pure (some (.builtin id)) ∧ s.TypeIs v T ∧ wpAny (model X.prog X.w) X.A (getItem v (.ref sl)) (EP X pins σ Q) X.xe s
def tSl (r : V → Option Int → Option Int → Hp → VK → Prop) (te : TE) (tl th : TO) : TE := fun σ H Q => te σ H fun x H1 => tl σ H1 fun l H2 => th σ H2 fun u H3 => r x l u H3 Q
/-- a[lo:hi], any a -/
theorem pe_slice {r : V → Option Int → Option Int → Hp → VK → Prop} (hr : SlR X r) (he : PE X e te) (hl : PO X lo tl) (hu : PO X hi th) : PE X (.Subscript e (.Slice lo hi none p2) pos) (tSl r te tl th) := by
  intro pins s σ H Q I h
  refine Subscript_ (thn (he pins s σ H _ I h) fun v s1 ⟨x, H1, I1, r1, q1⟩ => ?_)
  refine wpAny_Slice (thn (hl pins s1 σ H1 _ I1 q1) fun vl s2 ⟨l, H2, I2, pl, q2⟩ => thn (hu pins s2 σ H2 _ I2 q2) fun vu s3 ⟨u, H3, I3, pu, q3⟩ => ?_)
  rw [evalPart_none]
  refine wpAny_pure ?_
  have I4 : Inv X pins σ H3 { s3 with heap := s3.heap.push { cls := .type "slice", data := .fields #[vl, vu, .none] } } := I3.kept (t' := s3.toks) fun b ob q => Heap.get?_push_of_some _ q
  obtain ⟨T, id, hT, ht, hg⟩ := hr pins { s3 with heap := s3.heap.push { cls := .type "slice", data := .fields #[vl, vu, .none] } } σ H3 x v vl vu l u s3.heap.objs.size Q I4 r1 (Heap.IsSliceOf.new ..) pl pu q3
  show wpAny (model X.prog X.w) X.A (subscriptTail e (.Slice lo hi none p2) v (.ref s3.heap.objs.size)) (EP X pins σ Q) X.xe { s3 with heap := s3.heap.push { cls := .type "slice", data := .fields #[vl, vu, .none] } }
  exact tail_any (ops := [.ref s3.heap.objs.size, v]) ht hT hg (by with_unfolding_all rfl)

/-- the items of xs[lo:hi] -/
def cutV (xs : List V) (lo hi : Option Int) : List V := (xs.drop (HT.sIx xs.length 0 lo)).take (HT.sIx xs.length xs.length hi - HT.sIx xs.length 0 lo)
theorem cutV_length (xs : List V) (lo hi : Option Int) : (cutV xs lo hi).length ≤ xs.length := by
  unfold cutV
  rw [List.length_take, List.length_drop]
  omega
end
end L2

namespace L2
open PySem PySem.Spec PyProof.Rows

/-! ### places -/
/-- the place that an index of any sign means -/
def ixN (n : Nat) (i : Int) : Option Nat := if 0 ≤ i then (if i < n then some i.toNat else none) else if -(n : Int) ≤ i then some (i + n).toNat else none
def atI {α : Type} (xs : List α) (i : Int) : Option α := (ixN xs.length i).bind fun j => xs[j]?
theorem ixN_seq {n : Nat} {i : Int} {j : Nat} (h : ixN n i = some j) : seqIndex? i n = some j ∧ j < n ∧ -(n : Int) ≤ i ∧ i < n := by
  unfold ixN at h
  by_cases h0 : 0 ≤ i
  · rw [if_pos h0] at h
    by_cases h1 : i < n
    · rw [if_pos h1] at h
      have e : i.toNat = j := Option.some.inj h
      exact ⟨by rw [seqIndex_of h0 h1, e], by omega, by omega, h1⟩
    · rw [if_neg h1] at h; cases h
  · rw [if_neg h0] at h
    by_cases h1 : -(n : Int) ≤ i
    · rw [if_pos h1] at h
      have e : (i + n).toNat = j := Option.some.inj h
      exact ⟨by rw [seqIndex_neg (by omega) h1, e], by omega, h1, by omega⟩
    · rw [if_neg h1] at h; cases h
theorem atI_get {α : Type} {xs : List α} {i : Int} {v : α} (h : atI xs i = some v) : ∃ j, seqIndex? i xs.length = some j ∧ xs[j]? = some v ∧ j < xs.length ∧ -(xs.length : Int) ≤ i ∧ i < xs.length := by
  unfold atI at h
  cases e : ixN xs.length i with
  | none => rw [e] at h; cases h
  | some j =>
    rw [e] at h
    obtain ⟨h1, h2, h3, h4⟩ := ixN_seq e
    exact ⟨j, h1, h, h2, h3, h4⟩
theorem atI_nat {α : Type} {xs : List α} {j : Nat} {v : α} (h : xs[j]? = some v) : atI xs (j : Int) = some v := by
  have hj : j < xs.length := (List.getElem?_eq_some_iff.mp h).1
  have e : ixN xs.length (j : Int) = some j := by
    unfold ixN
    rw [if_pos (by omega), if_pos (by omega)]; simp
  unfold atI; rw [e]; exact h
theorem atI_last {α : Type} (xs : List α) (v : α) : atI (xs ++ [v]) (-1) = some v := by
  have hl : (xs ++ [v]).length = xs.length + 1 := by simp
  have e : ixN (xs ++ [v]).length (-1) = some xs.length := by
    unfold ixN
    rw [hl, if_neg (by decide), if_pos (by omega)]
    congr 1
    omega
  unfold atI
  rw [e]
  show (xs ++ [v])[xs.length]? = some v
  simp

/-! ### what may be subscripted -/
/-- what stands as an index of a plain subscript -/
def PlainIx (b : Expr) : Prop := ∀ o i, subscripted b false o i = operate [o, i] (getItem o i)
/-- a subscript by values -/
def IxR (X : Cx) (r : R2) : Prop :=
  ∀ (value slice : Expr) (pins : List (Addr × Obj)) (s : Shared) (σ : St) (H : Hp) (x y : V) (v u : Value) (Q : VK), Inv X pins σ H s → RelV x v → RelV y u → r x y H Q →
    subscripted slice false v u = operate [v, u] (getItem v u) → wpAny (model X.prog X.w) X.A (subscriptTail value slice v u) (EP X pins σ Q) X.xe s
/-- a call of a builtin's method by values: the receiver, the arguments -/
def MtR (X : Cx) (id : String) (r : V → List V → Hp → VK → Prop) : Prop :=
  ∀ (pins : List (Addr × Obj)) (s : Shared) (σ : St) (H : Hp) (x : V) (xs : List V) (v : Value) (us : List Value) (Q : VK), Inv X pins σ H s → RelV x v → Vals xs us → r x xs H Q →
    wpAny (model X.prog X.w) X.A (call (.builtin id) (v :: us)) (EP X pins σ Q) X.xe s
section
variable {X : Cx} {a b : Expr} {ta tb : TE} {pos : Pos}
/-- a[b] -/
theorem pe_ix {r : R2} (hr : IxR X r) (ha : PE X a ta) (hb : PE X b tb) (hs : PlainIx b) : PE X (.Subscript a b pos) (tOp r ta tb) := by
  intro pins s σ H Q I h
  exact Subscript_ (binT ha hb I h fun v u s2 x y H2 I2 rx ry q => hr a b pins s2 σ H2 x y v u Q I2 rx ry q (hs _ _))

def rIxL (K : PySem.W.Frag) : R2 := fun x y H Q => ∃ p xs i v, x = .ref p ∧ y = .int i ∧ SqL K H p xs ∧ atI xs i = some v ∧ Q v H
def rIxT (K : PySem.W.Frag) : R2 := fun x y H Q => ∃ p xs i v, x = .ref p ∧ y = .int i ∧ SqT K H p xs ∧ atI xs i = some v ∧ Q v H
def rIxS : R2 := fun x y H Q => ∃ z i c, x = .str z ∧ y = .int i ∧ z.length ≤ sizeLine ∧ atI z.cps.toList i = some c ∧ Q (.str ⟨#[c]⟩) H
theorem ix_list : IxR X (rIxL X.K) := by
  intro value slice pins s σ H x y v u Q I rx ry h hs
  obtain ⟨p, xs, i, z, rfl, rfl, hq, he, q⟩ := h
  cases rx
  obtain ⟨t, rfl⟩ := ry
  obtain ⟨its, r, pl, hz⟩ := I.list hq
  obtain ⟨j, h1, h2, h3, h4, h5⟩ := atI_get he
  obtain ⟨w, ew, rw'⟩ := r.get h2
  have hl := r.length
  have hn := line63
  have fin : EP X pins σ Q w s := ⟨z, H, I, rw', q⟩
  by_cases h0 : 0 ≤ i
  · have hj : i.toNat = j := by
      rw [seqIndex_of h0 h5] at h1
      exact Option.some.inj h1
    exact item_listR pl.isList h0 (by omega) (by rw [hj]; simpa using ew) fin hs
  · have hj : (i + (its.toArray.size : Int)).toNat = j := by
      rw [seqIndex_neg (by omega) h4] at h1
      rw [List.size_toArray, ← hl]
      exact Option.some.inj h1
    exact subscriptTail_builtinR (x := w) pl.isList.typeIs slot_list_getitem.lookup
      (wpAny_getItem_list_neg (Q := fun r s' => r = w ∧ EP X pins σ Q r s') pl.isList (by omega) (by rw [List.size_toArray] <;> omega) (by omega) (by rw [hj]; simpa using ew) ⟨rfl, fin⟩) hs
theorem ix_tup : IxR X (rIxT X.K) := by
  intro value slice pins s σ H x y v u Q I rx ry h hs
  obtain ⟨p, xs, i, z, rfl, rfl, hq, he, q⟩ := h
  cases rx
  obtain ⟨t, rfl⟩ := ry
  obtain ⟨its, r, pl, hz⟩ := I.tuple hq
  obtain ⟨j, h1, h2, h3, h4, h5⟩ := atI_get he
  obtain ⟨w, ew, rw'⟩ := r.get h2
  have hl := r.length
  have hn := line63
  have fin : EP X pins σ Q w s := ⟨z, H, I, rw', q⟩
  exact subscriptTail_builtinR (x := w) pl.typeIs slot_tuple_getitem.lookup
    (getItem_tuple (j := j) (Q := fun r s' => r = w ∧ EP X pins σ Q r s') pl (by omega) (by omega) (by rw [List.size_toArray, ← hl]; exact h1) (by simpa using ew) ⟨rfl, fin⟩) hs
theorem ix_str : IxR X rIxS := by
  intro value slice pins s σ H x y v u Q I rx ry h hs
  obtain ⟨z, i, c, rfl, rfl, hz, he, q⟩ := h
  obtain ⟨t, rfl⟩ := rx
  obtain ⟨t', rfl⟩ := ry
  obtain ⟨j, h1, h2, h3, h4, h5⟩ := atI_get he
  have hl : z.cps.toList.length = z.length := by simp [Str.length]
  rw [hl] at h1 h4 h5
  have hn := line63
  exact tail_any (typeIs_str s z t) slot_str_getitem.lookup (getItem_str (c := c) (by
    have e1 : decide (i < -(2 ^ 63 : Int)) = false := decide_eq_false (by omega)
    have e2 : decide (i ≥ 2 ^ 63) = false := decide_eq_false (by omega)
    rw [e1, e2, Bool.or_false]) (by rw [h1]; simpa using h2) ⟨.str ⟨#[c]⟩, H, I.tok _, ⟨_, rfl⟩, q⟩) hs
theorem Inv.lst {pins : List (Addr × Obj)} {σ : St} {H : Hp} {s : Shared} {p : Addr} {xs : List V} (I : Inv X pins σ H s) (h : H p = some (.lst xs)) :
    ∃ (its : List Value) (n : Nat), Vals xs its ∧ s.heap.get? p = some { cls := .type "list", data := .seq its.toArray n } ∧ xs.length ≤ sizeLine := by
  obtain ⟨z, its, n, r, e⟩ := I.hok p _ h
  exact ⟨its, n, r, e, z⟩
/-! ### slices -/
theorem slice_bounds (lo hi : Option Int) (n : Nat) : (sliceBounds lo hi none n).1 = ((HT.sIx n 0 lo : Nat) : Int) ∧ (sliceBounds lo hi none n).2.1 = ((HT.sIx n n hi : Nat) : Int) ∧ (sliceBounds lo hi none n).2.2 = 1 := by
  refine ⟨?_, ?_, rfl⟩
  · cases lo with
    | none => simp [sliceBounds, HT.sIx]
    | some i =>
      simp only [sliceBounds, HT.sIx, Option.getD_none, show (1 : Int) > 0 by decide, if_true]
      by_cases h : i < 0
      · simp only [h, if_true] <;> omega
      · simp only [h, if_false] <;> omega
  · cases hi with
    | none => simp [sliceBounds, HT.sIx]
    | some i =>
      simp only [sliceBounds, HT.sIx, Option.getD_none, show (1 : Int) > 0 by decide, if_true]
      by_cases h : i < 0
      · simp only [h, if_true] <;> omega
      · simp only [h, if_false] <;> omega
theorem slicePick_cut (its : List Value) (lo hi : Option Int) : slicePick its.toArray lo hi none = ((its.drop (HT.sIx its.length 0 lo)).take (HT.sIx its.length its.length hi - HT.sIx its.length 0 lo)).toArray := by
  obtain ⟨h1, h2, h3⟩ := slice_bounds lo hi its.toArray.size
  unfold slicePick
  rw [h1, h2, h3]
  simp only [sliceRange_one, pick_run, List.size_toArray] <;> rfl
/-- xs[lo:hi] of a list: a new list -/
def rSlL (K : PySem.W.Frag) : V → Option Int → Option Int → Hp → VK → Prop := fun x lo hi H Q => ∃ a xs, x = .ref a ∧ SqL K H a xs ∧ ∀ p, H p = none → Q (.ref p) (upd H p (.lst (cutV xs lo hi)))
theorem sl_list : SlR X (rSlL X.K) := by
  intro pins s σ H x v vl vu lo hi sl Q I rx hs pl pu h
  obtain ⟨a, xs, rfl, hx, q⟩ := h
  cases rx
  obtain ⟨its, r, ht, hz⟩ := I.list hx
  have hlen := r.length
  refine ⟨"list", _, slot_list_getitem.lookup, ht.isList.typeIs, ?_⟩
  refine wpAny_getItem_list_slice ht.isList hs pl pu .none (by simp) ?_ (by rw [List.size_toArray] <;> omega)
  rw [slicePick_cut, ← hlen]
  refine ⟨.ref s.heap.objs.size, _, I.laid (t' := s.toks) (o := .lst (cutV xs lo hi)) (fun b ob q => Heap.get?_push_of_some _ q) (Nat.le_refl _) ?_, rfl, q _ (I.hok.fresh (Nat.le_refl _))⟩
  exact ⟨Nat.le_trans (cutV_length xs lo hi) hz, _, 0, (r.drop (HT.sIx xs.length 0 lo)).take (HT.sIx xs.length xs.length hi - HT.sIx xs.length 0 lo), Heap.get?_push_size _ rfl⟩

/-- == of flat values -/
def eqV : V → V → Bool
  | .non, .non => true
  | .bl a, .bl b => a == b
  | .bl a, .int b => (if a then 1 else 0) == b
  | .int a, .bl b => a == (if b then 1 else 0)
  | .int a, .int b => a == b
  | .str a, .str b => a == b
  | _, _ => false
def inV (x : V) (xs : List V) : Bool := xs.any fun y => eqV y x
/-! ### len, list(x), tuple(x) of any list or tuple that is read -/
theorem call_len_seq : CallR X (.builtin "len") (fun xs H Q => ∃ p ys, xs = [.ref p] ∧ (SqL X.K H p ys ∨ SqT X.K H p ys) ∧ Q (.int ys.length) H) := by
  intro pins s σ H xs us Q I r h
  obtain ⟨p, ys, rfl, hq, q⟩ := h
  obtain ⟨u, rfl, rx⟩ := vals1 r
  cases rx
  have hn := line63
  rcases hq with hq | hq
  · obtain ⟨its, r', pl, hz⟩ := I.list hq
    have hlen := r'.length
    exact Calls.call_len_list pl.isList (by simp only [List.size_toArray] <;> omega) ⟨.int ys.length, H, I.tok _, ⟨s.toks + 1, by rw [List.size_toArray, hlen]⟩, q⟩
  · obtain ⟨its, r', pl, hz⟩ := I.tuple hq
    have hlen := r'.length
    exact len_tuple pl (by simp only [List.size_toArray] <;> omega) ⟨.int ys.length, H, I.tok _, ⟨s.toks + 1, by rw [List.size_toArray, hlen]⟩, q⟩
theorem call_len_str : CallR X (.builtin "len") (fun xs H Q => ∃ z, xs = [.str z] ∧ z.length ≤ sizeLine ∧ Q (.int z.length) H) := by
  intro pins s σ H xs us Q I r h
  obtain ⟨z, rfl, hz, q⟩ := h
  obtain ⟨u, rfl, t, rfl⟩ := vals1 r
  have hn := line63
  exact len_str (by omega) ⟨.int z.length, H, I.tok _, ⟨_, rfl⟩, q⟩
/-! ### the call of a builtin's method: o.m(..) -/
/-- the value is of that builtin type -/
def tyV (K : PySem.W.Frag) (T : String) (x : V) (H : Hp) : Prop := match x with
  | .str _ => T = "str"
  | .int _ => T = "int"
  | .ref p => (T = "list" ∧ ∃ xs, SqL K H p xs) ∨ (T = "tuple" ∧ ∃ o, K.lookup p = some o ∧ o.cls = .type "tuple" ∧ o.dict = none) ∨
      (T = "dict" ∧ ((∃ kvs, H p = some (.dK kvs)) ∨ ∃ kvs, H p = some (.dT kvs))) ∨ (T = "set" ∧ ∃ S n, H p = some (.set S n))
  | _ => False
theorem tyV_is {pins : List (Addr × Obj)} {σ : St} {H : Hp} {s : Shared} {T : String} {x : V} {v : Value} (I : Inv X pins σ H s) (r : RelV x v) (ty : tyV X.K T x H) :
    s.TypeIs v T ∧ ∀ a, v = .ref a → ∃ ob, s.heap.get? a = some ob ∧ ob.dict = none := by
  cases x with
  | str z =>
    obtain ⟨t, rfl⟩ := r
    cases (show T = "str" from ty)
    exact ⟨typeIs_str s z t, fun _ e => nomatch e⟩
  | int i =>
    obtain ⟨t, rfl⟩ := r
    cases (show T = "int" from ty)
    exact ⟨typeIs_int s i t, fun _ e => nomatch e⟩
  | ref p =>
    cases r
    rcases ty with ⟨rfl, xs, hq⟩ | ⟨rfl, o, hk, hc, hd⟩ | ⟨rfl, hk⟩ | ⟨rfl, S, n, hk⟩
    · obtain ⟨its, _, pl, _⟩ := I.list hq
      refine ⟨pl.isList.typeIs, fun a e => ?_⟩
      cases e
      obtain ⟨o, n, e, c, hd, _⟩ := pl
      exact ⟨o, e, hd⟩
    · refine ⟨⟨o, I.kIn p o hk, hc⟩, fun a e => ?_⟩
      cases e
      exact ⟨o, I.kIn _ o hk, hd⟩
    · have z : ∃ o, s.heap.get? p = some o ∧ o.ExactDict := by
        rcases hk with ⟨kvs, hk⟩ | ⟨kvs, hk⟩
        · obtain ⟨_, _, _, _, o, _, _, e, ex, _⟩ := I.hok p _ hk
          exact ⟨o, e, ex⟩
        · obtain ⟨_, _, _, _, o, _, _, e, ex, _⟩ := I.hok p _ hk
          exact ⟨o, e, ex⟩
      obtain ⟨o, e, ex⟩ := z
      refine ⟨⟨o, e, ex.1⟩, fun a e2 => ?_⟩
      cases e2
      exact ⟨o, e, ex.2.1⟩
    · obtain ⟨o, _, _, _, e, ex, _⟩ := I.hok p _ hk
      refine ⟨⟨o, e, ex.1⟩, fun a e2 => ?_⟩
      cases e2
      exact ⟨o, e, ex.2.1⟩
  | _ => exact False.elim ty
def tBM0 (K : PySem.W.Frag) (T : String) (r : V → List V → Hp → VK → Prop) (to : TE) : TE := fun σ H Q => to σ H fun x H1 => tyV K T x H1 ∧ r x [] H1 Q
def tBM (K : PySem.W.Frag) (T : String) (r : V → List V → Hp → VK → Prop) (to : TE) (t : TA) : TE := fun σ H Q => to σ H fun x H1 => tyV K T x H1 ∧ t σ H1 fun xs H2 => r x xs H2 Q
variable {o e : Expr} {es : List Expr} {to : TE} {t : TA} {name : Str} {apos cpos : Pos} {T id : String} {r : V → List V → Hp → VK → Prop}
theorem pe_bm0 (pa : PlainAttrs T) (slot : Slot T name id) (hty : typeOf (.builtin id) = pure (.type "method_descriptor")) (hm : MtR X id r) (ho : PE X o to)
    (hbase : attributeBase o name X.env (eval o X.env) = eval o X.env := by rfl) (hline : (apos.endLine == cpos.line) = true := by rfl) : PE X (.Call (.Attribute o name apos) [] [] cpos) (tBM0 X.K T r to) := by
  intro pins s σ H Q I h
  refine wpAny_Call_method0_late hbase hline (thn (ho pins s σ H _ I h) fun v s1 ⟨x, H1, I1, r1, ty, q1⟩ => ?_)
  obtain ⟨h1, h2⟩ := tyV_is I1 r1 ty
  exact ⟨T, id, pa, slot, hty, h1, h2, Calls.callWith_builtin rfl (PySem.evalArgs_none (hm pins s1 σ H1 x [] v [] Q I1 r1 .nil q1))⟩
theorem pe_bm (pa : PlainAttrs T) (slot : Slot T name id) (hty : typeOf (.builtin id) = pure (.type "method_descriptor")) (hm : MtR X id r) (ho : PE X o to) (ha : PA X (e :: es) t)
    (hbase : attributeBase o name X.env (eval o X.env) = eval o X.env := by rfl)
    (hfew : ((backTo cpos (starEach (e :: es) X.env)).all (fun x => !x.1) && (backToKw cpos (keywordEach [] X.env)).all (fun x => x.1.isSome)
      && decide ((e :: es).length + ([] : List Keyword).length + (if ([] : List Keyword).isEmpty then 0 else 1) < 30)) = true := by rfl)
    (hline : (apos.endLine == cpos.line) = true := by rfl) (hs : starEach (e :: es) X.env = (false, eval e X.env) :: starEach es X.env := by rfl) (hplain : (backTo cpos (starEach es X.env)).any (·.1) = false := by rfl) :
    PE X (.Call (.Attribute o name apos) (e :: es) [] cpos) (tBM X.K T r to t) := by
  intro pins s σ H Q I h
  refine wpAny_Call_method_late hbase hfew hline rfl (thn (ho pins s σ H _ I h) fun v s1 ⟨x, H1, I1, r1, ty, q1⟩ => ?_)
  obtain ⟨h1, h2⟩ := tyV_is I1 r1 ty
  refine ⟨T, id, pa, slot, hty, h1, h2, ?_⟩
  have hA := ha cpos pins s1 σ H1 _ I1 q1
  rw [hs] at hA ⊢
  refine Calls.callWith_builtin (by show (false || (backTo cpos (starEach es X.env)).any (·.1)) = false; rw [hplain] <;> rfl) (Calls.evalArgs_plain ?_)
  exact thn hA fun us s2 ⟨vs, H2, I2, r2, q2⟩ => hm pins s2 σ H2 x vs v us Q I2 r1 r2 q2
/- xs.append(e), list.index on a module's tuple .. are MtR facts of 06m -/
end
end L2

namespace L2
open PySem PySem.Spec PyProof.Rows

def MtM (X : Cx) (id : String) (r : V → List V → Hp → VK → Prop) : Prop :=
  ∀ (pins : List (Addr × Obj)) (s : Shared) (σ : St) (H : Hp) (x : V) (xs : List V) (v : Value) (us : List Value) (Q : VK), Inv X pins σ H s → RelV x v → Vals xs us → r x xs H Q →
    wpAny (model X.prog X.w) X.A (call (.builtin id) (v :: us)) (EP X pins σ Q) X.xe s

/-! ### lists of values -/
theorem Vals.one : ∀ {x : V} {us : List Value}, Vals [x] us → ∃ u, us = [u] ∧ RelV x u
  | _, _, .cons r .nil => ⟨_, rfl, r⟩
theorem Vals.two : ∀ {x y : V} {us : List Value}, Vals [x, y] us → ∃ u v, us = [u, v] ∧ RelV x u ∧ RelV y v
  | _, _, _, .cons r (.cons q .nil) => ⟨_, _, rfl, r, q⟩
theorem Vals.zero : ∀ {us : List Value}, Vals [] us → us = []
  | _, .nil => rfl
theorem Vals.dropLast {xs : List V} {us : List Value} (h : Vals xs us) : Vals xs.dropLast us.dropLast := by
  induction h with
  | nil => exact .nil
  | cons r t ih =>
    cases t with
    | nil => exact .nil
    | cons q t' => exact .cons r ih
theorem Vals.eraseIdx : ∀ {xs : List V} {us : List Value} (i : Nat), Vals xs us → Vals (xs.eraseIdx i) (us.eraseIdx i)
  | _, _, _, .nil => .nil
  | _, _, 0, .cons _ t => t
  | _, _, i + 1, .cons r t => .cons r (Vals.eraseIdx i t)
theorem Vals.reverse {xs : List V} {us : List Value} (h : Vals xs us) : Vals xs.reverse us.reverse := by
  induction h with
  | nil => exact .nil
  | cons r t ih => rw [List.reverse_cons, List.reverse_cons]; exact Vals.append ih (.cons r .nil)
theorem erase_last {α : Type} (l : List α) : l.eraseIdx (l.length - 1) = l.dropLast := by
  induction l with
  | nil => rfl
  | cons a r ih =>
    cases r with
    | nil => rfl
    | cons b r =>
      have e : (a :: b :: r).length - 1 = ((b :: r).length - 1) + 1 := by
        have h1 : (a :: b :: r).length = r.length + 2 := rfl
        have h2 : (b :: r).length = r.length + 1 := rfl
        omega
      rw [e, List.eraseIdx_cons_succ, ih]
      all_goals rfl
section
variable {X : Cx} {pins : List (Addr × Obj)} {σ : St} {H : Hp} {s : Shared} {l b : Addr} {xs ys zs : List V}

/-! ### the two steps: a tracked list is rewritten, a new list is laid -/
theorem Inv.lset {its its' : List Value} {n : Nat} {f : Array Value → Array Value} {t' : Nat} (I : Inv X pins σ H s) (hH : H l = some (.lst xs))
    (e : s.heap.get? l = some { cls := .type "list", data := .seq its.toArray n }) (hf : f its.toArray = its'.toArray) (hv : Vals ys its') (hz : ys.length ≤ sizeLine) :
    Inv X pins σ (upd H l (.lst ys)) { s with heap := s.heap.update l (Obj.mapSeq f), toks := t' } := by
  have q := PySem.IsL.update e f
  rw [hf] at q
  refine I.write (x := l) (e := l) (by rw [hH]; exact trivial) (.inl rfl) (fun b' u hb hu => (Heap.get?_update_other s.heap (Obj.mapSeq f) (Ne.symm hb)).trans hu) ⟨_, q⟩ ?_
  exact ⟨hz, its', _, hv, q⟩
theorem Inv.fresh (I : Inv X pins σ H s) : H s.heap.objs.size = none := I.hok.fresh (Nat.le_refl _)
theorem Inv.lstM (I : Inv X pins σ H s) (hH : H l = some (.lst xs)) : xs.length ≤ sizeLine ∧ ∃ (its : List Value) (n : Nat), Vals xs its ∧ xs.length = its.length ∧ s.heap.get? l = some { cls := .type "list", data := .seq its.toArray n } := by
  obtain ⟨z, its, n, r, e⟩ := I.hok l _ hH
  exact ⟨z, its, n, r, r.length, e⟩

theorem notLongL {n : Nat} (h : n ≤ sizeLine) : Builtin.List.listTooLong n = false := by
  unfold Builtin.List.listTooLong
  exact decide_eq_false (by omega)
end

section
variable {X : Cx}

/-! ### methods -/
def rAppend : V → List V → Hp → VK → Prop := fun x vs H Q => ∃ l xs y, x = .ref l ∧ vs = [y] ∧ H l = some (.lst xs) ∧ xs.length < sizeLine ∧ Q .non (upd H l (.lst (xs ++ [y])))
theorem mt_append : MtM X "list.append" rAppend := by
  intro pins s σ H x vs v us Q I rx rv h
  obtain ⟨l, xs, y, rfl, rfl, hH, hz, q⟩ := h
  cases rx
  obtain ⟨u, rfl, ru⟩ := rv.one
  obtain ⟨z, its, n, r, hl, e⟩ := I.lstM hH
  refine call_meets F.slot_list_append ⟨_, e, rfl⟩ F.entry_list_append (F.args_list_append_2 _ _) (PySem.list_append l its.toArray n u (by rw [List.size_toArray]; omega)) ⟨e, ?_⟩
  refine ⟨.non, _, I.lset (its' := its ++ [u]) hH e (by simp) (r.append (.cons ru .nil)) ?_, rfl, q⟩
  rw [List.length_append, List.length_singleton]
  omega

def rExtend : V → List V → Hp → VK → Prop := fun x vs H Q => ∃ l b xs zs, x = .ref l ∧ vs = [.ref b] ∧ H l = some (.lst xs) ∧ H b = some (.lst zs) ∧ xs.length + zs.length ≤ sizeLine ∧ Q .non (upd H l (.lst (xs ++ zs)))
theorem mt_extend : MtM X "list.extend" rExtend := by
  intro pins s σ H x vs v us Q I rx rv h
  obtain ⟨l, b, xs, zs, rfl, rfl, hH, hB, hz, q⟩ := h
  cases rx
  obtain ⟨u, rfl, ru⟩ := rv.one
  cases ru
  obtain ⟨z, its, n, r, hl, e⟩ := I.lstM hH
  obtain ⟨z2, its2, n2, r2, hl2, e2⟩ := I.lstM hB
  have hsz : its.toArray.size + its2.toArray.size ≤ sizeLine := by rw [List.size_toArray, List.size_toArray]; omega
  have hlong : ¬ (!its.toArray.isEmpty && Builtin.List.listTooLong (its.toArray.size + its2.toArray.size)) = true := by
    rw [notLongL hsz, Bool.and_false]
    exact Bool.false_ne_true
  refine call_meets F.slot_list_extend ⟨_, e, rfl⟩ F.entry_list_extend (F.args_list_extend_2 _ _)
    (AutoSeq1.list_extend_list_list_0 l its.toArray n b its2.toArray n2 hlong (by rw [List.size_toArray]; omega) (by omega)) ⟨e, e2, ?_⟩
  refine ⟨.non, _, I.lset (its' := its ++ its2) hH e (by simp) (r.append r2) ?_, rfl, q⟩
  rw [List.length_append]
  omega

def rPop : V → List V → Hp → VK → Prop := fun x vs H Q => ∃ l xs y, x = .ref l ∧ vs = [] ∧ H l = some (.lst xs) ∧ xs[xs.length - 1]? = some y ∧ Q y (upd H l (.lst xs.dropLast))
theorem mt_pop : MtM X "list.pop" rPop := by
  intro pins s σ H x vs v us Q I rx rv h
  obtain ⟨l, xs, y, rfl, rfl, hH, hy, q⟩ := h
  cases rx
  have hus := rv.zero
  subst hus
  obtain ⟨z, its, n, r, hl, e⟩ := I.lstM hH
  obtain ⟨u, hu, ru⟩ := r.get hy
  have hy' : its.toArray[its.toArray.size - 1]? = some u := by
    show its.toArray[its.length - 1]? = some u
    rw [← Array.getElem?_toList, ← hl]
    exact hu
  refine call_meets F.slot_list_pop ⟨_, e, rfl⟩ F.entry_list_pop (F.args_list_pop_1 _) (MeetsSeq.list_pop_last l its.toArray n u hy' (by rw [List.size_toArray]; omega)) ⟨e, ?_⟩
  refine ⟨y, _, I.lset (its' := its.dropLast) hH e ?_ r.dropLast ?_, ru, q⟩
  · show its.toArray.eraseIdxIfInBounds (its.toArray.size - 1) = its.dropLast.toArray
    rw [List.size_toArray, List.eraseIdxIfInBounds_toArray, erase_last]
  · rw [List.length_dropLast]
    omega

end

/-! ### xs[a:b] = ys -/
section
variable {prog : Program} {w : World} {A : Around} {E : Value → Shared → Prop} {s : Shared}
theorem bounds_run {a c n : Nat} (hac : a ≤ c) (hc : c ≤ n) : sliceBounds (some (a : Int)) (some (c : Int)) none n = ((a : Int), (c : Int), 1) := by
  simp only [sliceBounds, Option.getD_none]
  have h1 : ¬ ((a : Int) < 0) := by omega
  have h2 : ¬ ((c : Int) < 0) := by omega
  simp only [h1, h2, if_false, show (1 : Int) > 0 by decide, if_true]
  congr 1
  · omega
  · congr 1; omega
set_option maxRecDepth 100000 in
/-- list.__setitem__ with a slice of step one and another list -/
theorem setItem_slice {l b sl : Addr} {items new : Array Value} {n n2 : Nat} {vl vu : Value} {a c : Nat} {Q : Unit → Shared → Prop}
    (e : s.heap.get? l = some { cls := .type "list", data := .seq items n }) (e2 : s.heap.get? b = some { cls := .type "list", data := .seq new n2 }) (hne : l ≠ b)
    (hs : s.heap.IsSliceOf sl vl vu .none) (pl : IsPart vl (some (a : Int))) (pu : IsPart vu (some (c : Int))) (hac : a ≤ c) (hc : c ≤ items.size)
    (hsz : items.size + new.size ≤ sizeLine) (h : Q () { s with heap := s.heap.update l (Obj.mapSeq fun xs => xs.extract 0 a ++ new ++ xs.extract c xs.size) }) :
    wpAny (model prog w) A (setItem (.ref l) (.ref sl) (.ref b)) Q E s := by
  have hl : s.heap.IsList l items := PySem.IsL.isList e
  have hb : s.heap.IsList b new := PySem.IsL.isList e2
  obtain ⟨os, hos, hcs, hds⟩ := id hs
  have hTs : s.TypeIs (.ref sl) "slice" := ⟨os, hos, hcs⟩
  have hstep : ¬ ((rawPart none == rawInt 0) = true) := Bool.false_ne_true
  have hsame : Builtin.List.listSameRef (.ref l) (.ref b) = false := by
    unfold Builtin.List.listSameRef
    exact beq_eq_false_iff_ne.mpr hne
  have hmax : (max (a : Int) (c : Int)).toNat = c := by omega
  have hz' : ((fun xs : Array Value => xs.extract 0 a ++ new ++ xs.extract c xs.size) items).size ≤ sizeLine + 1 := by
    simp only [Array.size_append, Array.size_extract]
    omega
  unfold setItem
  try with_reducible refine wpAny_holding ?_
  first | refine wpAny_bind (wpAny_pure ?_) | skip
  refine wpAny_bind (wpAny_sequenceKey hl.typeIs (by decide) ?_)
  refine wpAny_bind (wpAny_callSpecial?_slot (name := Str.ofString "__setitem__") hl.typeIs slot_list_setitem
    (wpAny_call_entry slot_list_setitem hl.typeIs entry_list_setitem ?_ (args_list_setitem _ _ _)))
  show wpAny _ _ (Builtin.List.listSubscript? (.ref sl) >>= _) _ _ s
  refine wpAny_bind ?_
  unfold Builtin.List.listSubscript?
  refine wpAny_bind (wpAny_specialOf hTs slice_no_index ?_)
  simp only [Option.isNone_none, if_true]
  refine wpAny_pure ?_
  show wpAny _ _ (typeOf (.ref sl) >>= _) _ _ s
  refine wpAny_bind (wpAny_typeOf hTs ?_)
  first
    | rw [if_neg (by decide)]
    | refine PySem.W.KFB.if_not (by decide) ?_
  rw [listSliceParts_eq]
  refine wpAny_bind (wpAny_bind (wpAny_field hos hds (x := .none) rfl (wpAny_bind (wpAny_listPart .none ?_))))
  rw [if_neg hstep]
  refine wpAny_bind (wpAny_field hos hds (x := vl) rfl (wpAny_bind (wpAny_listPart pl ?_)))
  refine wpAny_bind (wpAny_field hos hds (x := vu) rfl (wpAny_bind (wpAny_listPart pu (wpAny_pure ?_))))
  first
    | simp only [hsame, Bool.false_eq_true, if_false]
    | refine PySem.W.KFB.if_not hsame ?_
    | (dsimp only
       rw [if_neg (by rw [hsame]; exact Bool.false_ne_true)])
  refine wpAny_bind (m := Builtin.List.listAllItems (.ref b) "must assign iterable to extended slice") ?_
  unfold Builtin.List.listAllItems
  refine wpAny_bind (wpAny_typeOf hb.typeIs ?_)
  first
    | refine PySem.W.KFB.if_so (by decide) ?_
    | rw [if_pos (by decide)]
    | simp only [beq_self_eq_true, Bool.true_or, if_true]
  unfold Builtin.List.listItems
  refine wpAny_bind (wpAny_seqItems e2 rfl (wpAny_pure ?_))
  refine wpAny_bind (wpAny_bind (wpAny_seqItems e rfl (wpAny_pure ?_)))
  refine wpAny_bind (wpAny_of_eq ((sliceIndices_raw (some (a : Int)) (some (c : Int)) none items.size (by simp)).trans (congrArg (pure : Int × Int × Int → Sem (Int × Int × Int)) (bounds_run hac hc))) ?_)
  show wpAny _ _ (if ((1 : Int) == 1) = true then _ else _) _ _ s
  rw [if_pos (by decide)]
  refine wpAny_bind (wpAny_rule ?_)
  first
    | simp only [notLongL hsz, Bool.false_eq_true, if_false]
    | refine PySem.W.KFB.if_not (notLongL hsz) ?_
  first | refine wpAny_bind (wpAny_pure ?_) | skip
  show wpAny _ _ (updateSeq l (fun xs => xs.extract 0 ((a : Int)).toNat ++ new ++ xs.extract (max (a : Int) (c : Int)).toNat xs.size) >>= _) _ _ s
  rw [hmax, Int.toNat_natCast]
  refine wpAny_bind (wpAny_updateSeq (hz := Nat.le_trans (Nat.le_add_right _ _) hsz) (_hz' := hz') e rfl ?_)
  refine wpAny_bind (wpAny_letGo ?_)
  first
    | exact wpAny_bind (wpAny_pure (wpAny_pure ⟨.none, rfl, wpAny_pure h⟩))
    | exact wpAny_pure ⟨.none, rfl, wpAny_pure h⟩
end

section
variable {X : Cx}
end
end L2

namespace Att
open PySem PySem.W PySem.Calls PyProof.Rows

/-! ### the script -/
theorem ints_of_wellAll {P : Params} {h : Heap} : ∀ (ns : List Int) (vs : List Value), WellAll P h vs (ns.map WData.int) → IntsAre vs ns := by
  intro ns
  induction ns with
  | nil =>
    intro vs w
    rw [List.map_nil] at w
    cases w
    exact .nil
  | cons n ns ih =>
    intro vs w
    rw [List.map_cons] at w
    cases w with
    | cons a b =>
      cases a
      exact .cons _ _ (ih _ b)

theorem script_of {l : OpenLaw} {n : Nat} (hn : l.most = some n) {P : Params} {h : Heap} {args : List WData} {vals : List Value}
    (hpre : l.row.toRowW.claim.pre args = true) (hwl : WellAll P h vals args) :
    ∃ a vs ns, vals = [Value.ref a] ∧ args = [WData.list (ns.map WData.int)] ∧ h.get? a = some { cls := .type "list", data := .seq vs.toArray } ∧ IntsAre vs ns ∧ ns.length ≤ n := by
  have hsh : WShape.hasAll [] args [.list .int] = true := (pre_splitW hpre).1
  have hc : l.pre.holds [] { args := args } = true := (pre_splitW hpre).2
  obtain ⟨d, r, rfl, h1, h2⟩ := hasAllW_cons hsh
  obtain rfl := hasAllW_nil h2
  obtain ⟨xs, rfl, h3⟩ := hasW_list h1
  obtain ⟨ns, rfl⟩ := items_int h3
  have hlen : ns.length ≤ n := by
    unfold OpenLaw.pre at hc
    have h4 : (WTm.not (.lt (.lit (.int (n : Int))) (.len (.arg 0)))).holds [] { args := [.list (ns.map .int)] } = true := by
      have h4 := (holds_andW hc).1
      rw [hn] at h4
      exact h4
    have h5 := condW_of h4 (w_not (w_lt w_lit (w_len_list (w_arg rfl))))
    rw [List.length_map] at h5
    refine Nat.le_of_not_lt fun q => ?_
    have q' : (n : Int) < ((ns.length : Nat) : Int) := by omega
    first
      | (rw [decide_eq_true q'] at h5; exact absurd h5 (by decide))
      | (simp at h5; omega)
  cases hwl with
  | cons w1 w2 =>
    cases w2
    cases w1 with
    | list ho hall => exact ⟨_, _, ns, rfl, rfl, ho, ints_of_wellAll ns _ hall, hlen⟩

theorem post_true (l : OpenLaw) (args : List WData) : l.row.toRowW.claim.post args (.bool true) args = true :=
  postW_of (r := l.row.toRowW) (X := (true == true))
    (show WShape.has [] (.bool true) .bool = true by first | rfl | decide | simp [WShape.has, WShape.arms, WShape.armsAll])
    (show (WTm.eq .res (.lit (.bool true))).value [] { args := args, res := some (.bool true), after := args } = some (.bool (true == true)) from w_eq_bool (w_res rfl) w_lit) rfl

/-- the same from a codeAny of the CALL (for a layer whose function contracts speak of calls) -/
theorem attach_call {l : OpenLaw} {n : Nat} {q : Program} {loose : List Str} {XP : (Str → Option Value) → Heap → Prop} {YP : World → Heap → Prop} {d : DefRec}
    (hn : l.most = some n) (hdf : d.params.defaults = [])
    (call : ∀ (w : World) (s₀ s₁ : Shared) (mg mb : Str → Option Value) (fa : Addr) (o : Obj) (pm cd doc : Value) (a : Addr) (vs : List Value) (ns : List Int),
      Ground q loose [] XP w s₀ mg mb s₁.heap → YP w s₁.heap →
      s₁.heap.get? fa = some o → o.data = .func (docDef d.name d.params d.body d.scope pm cd doc) → s₁.heap.CodeRec cd d.name → mg d.name = some (.ref fa) →
      s₁.heap.get? a = some { cls := .type "list", data := .seq vs.toArray } → IntsAre vs ns → ns.length ≤ n → s₁.gens = #[] →
      codeAny (model l.prog w) callerA (.call (.ref fa) ⟨[.ref a], []⟩) (fun r s' => r = .ok (.ret (.bool true)) ∧ OldK s₁.heap s'.heap ∧ s'.os = s₁.os ∧ AllBare s'.gens) s₁) :
    WalkO q loose XP YP l.row.toRowW d [] (fun f vs => PySem.call f vs) := by
  intro w s₀ s₁ mg mb G Y fa o pm cd doc dV kV ho hd hcd hD hmg hg args vals as hpre hlay hrd hwl hlo
  obtain rfl : dV = .none := Dflts.none hD hdf
  obtain rfl : kV = .none := Dflts.noKw hD
  obtain ⟨a, vs, ns, rfl, rfl, hobj, hints, hlen⟩ := script_of hn hpre hwl
  refine enter_call (codeAny_mono (call w s₀ s₁ mg mb fa o pm cd doc a vs ns G Y ho (fd_plain hd) hcd hmg hobj hints hlen hg) fun r s' hq => ?_)
  obtain ⟨rfl, h2, h3, h4⟩ := hq
  exact ⟨.inl ⟨.bool true, .bool true, [], rfl, fun _ => rfl, .bool true, post_true l _, fun _ => ⟨List.Pairwise.nil, fun _ hm => (nomatch hm)⟩⟩, h2, h3, h4⟩

/-! ### rules over ANY heap (no ledger) from facts about the written part K: the library's own take a ledger (News) for what they write -/
section
variable {prog : Program} {w : World} {A : Around} {E : Value → Shared → Prop} {s : Shared} {K : Frag}

end
end Att

namespace L2
open PySem PySem.Spec PyProof.Rows

theorem vals_ints : ∀ {vs : List Value} {ns : List Int}, IntsAre vs ns → Vals (ns.map V.int) vs
  | _, _, .nil => .nil
  | _, _, .cons n t h => .cons ⟨t, rfl⟩ (vals_ints h)

/-- nothing is tracked but the script, known to the object (or it is an object of the module) -/
def Only (H : Hp) : Prop := ∀ b, H b = none ∨ ∃ o xs, H b = some (.frz o (.lst xs))

/-- THE HEAD: the law's promise, at the heap behind the top. F, the promise of the law's def, may use that base is part of the heap (so K.In base, base.Ns mainGlobals mg stand in Mod) -/
theorem law_call {P : Program} {w : World} {K : PySem.W.Frag} {mg mb : Str → Option Value} {CX : CXT} {k : Nat} {fa a : Addr} {fd : FuncData} {x : Str} {sp : Sp} {s₁ : Shared} {vs : List Value} {ns : List Int}
    (KX : K.In s₁.heap) (hns : s₁.heap.Ns mainGlobals mg) (hb : s₁.heap.Ns builtinsNs mb) (hbb : ∀ x : Str, x ≠ "__name__" → mb x = bootBuiltins x) (hlim : s₁.heap.NoLimit) (hg : s₁.gens = #[])
    (ha : s₁.heap.get? a = some { cls := .type "list", data := .seq vs.toArray }) (hi : IntsAre vs ns) (hl : ns.length ≤ sizeLine) (hr : Room k callerA)
    (F : ∀ base : Heap, K.In base → base.Ns mainGlobals mg → FnOk P w K mg base CX k fa fd [x] sp) (hbind : ∀ (s : Shared) (u : Value), BindsTo s fd ⟨[u], []⟩ [(x, u)])
    (hsp : ∀ H : Hp, Only H → SqL K H a (ns.map V.int) → sp [.ref a] H (fun v _ => v = .bl true) fun _ _ _ => False)
    (hCX : ∀ H e s', CX [] H s₁ (fun _ _ _ => False) e s' → False) :
    codeAny (model P w) callerA (.call (.ref fa) ⟨[.ref a], []⟩) (fun r s' => r = .ok (.ret (.bool true)) ∧ OldK s₁.heap s'.heap ∧ s'.os = s₁.os ∧ AllBare s'.gens) s₁ := by
  have rv := vals_ints hi
  have lenV := hi.length
  -- from an abstract heap in which nothing but the script may be tracked
  have core : ∀ H : Hp, Only H → SqL K H a (ns.map V.int) → HOk P w H s₁.heap → (∀ b, H b ≠ none → b = a) → (H a ≠ none → K.lookup a = none) →
      codeAny (model P w) callerA (.call (.ref fa) ⟨[.ref a], []⟩) (fun r s' => r = .ok (.ret (.bool true)) ∧ OldK s₁.heap s'.heap ∧ s'.os = s₁.os ∧ AllBare s'.gens) s₁ := by
    intro H hO hS hok hA hK
    have base_of : ∀ {b : Addr} {o : Obj}, s₁.heap.get? b = some o → H b = none → (hidT s₁.heap H).get? b = some o := fun e n => hidT_get e n
    have noA : ∀ {b : Addr} {o : Obj} {es : Array DictEntry} {ep : Nat}, s₁.heap.get? b = some o → o.data = .dict es ep → H b = none := fun {b o es ep} e d => by
      cases q : H b with
      | none => rfl
      | some u =>
        have e' : b = a := hA b (by rw [q]; simp)
        subst e'
        rw [ha] at e; cases e
        have d' : Data.seq vs.toArray _ = Data.dict es ep := d
        cases d'
    have nsK : ∀ {b : Addr} {m : Str → Option Value}, s₁.heap.Ns b m → (hidT s₁.heap H).Ns b m := fun {b m} ⟨o, es, ep, e, d, r⟩ => ⟨o, es, ep, base_of e (noA e d), d, r⟩
    have hKb : K.In (hidT s₁.heap H) := fun b o e => base_of (KX b o e) (by
      cases q : H b with
      | none => rfl
      | some u =>
        have e' : b = a := hA b (by rw [q]; simp)
        subst e'
        rw [hK (by rw [q]; simp)] at e; cases e)
    have hM : Mod K mg (hidT s₁.heap H) := ⟨hKb, nsK hns, ⟨mb, nsK hb, hbb⟩, let ⟨mc, h1, h2⟩ := hlim; ⟨mc, nsK h1, h2⟩⟩
    have e0 : Env0 P w K mg (hidT s₁.heap H) callerA [] s₁ H := ⟨rfl, hM, fun b o e => of_hidT e, Nat.le_of_eq (hidT_size _ _), trivial, fun b hb => absurd (show b ∈ ([] : List Addr) from hb) (by simp), hok, .of_eq hg⟩
    refine codeAny_mono ((F _ hKb (nsK hns)).run callerA [] s₁ H ⟨[.ref a], []⟩ [.ref a] [.ref a] _ _ hr e0 (hbind s₁ (.ref a)) (.cons rfl .nil) (hsp H hO hS)) fun r s' h => ?_
    cases r with
    | error e => exact (hCX H e s' h).elim
    | ok fl =>
      cases fl with
      | next => exact False.elim h
      | brk => exact False.elim h
      | cont => exact False.elim h
      | ret u =>
        obtain ⟨v, H', os, bare, un, hok', r', q⟩ := h
        have q' : v = .bl true := q
        subst q'
        obtain rfl : u = Value.bool true := r'
        refine ⟨rfl, OldK.of_keep fun b o e => ?_, os, bare⟩
        cases q : H b with
        | none => exact un.keep b o e q (by intro z; exact absurd (show b ∈ ([] : List Addr) from z) (by simp)) (by simp)
        | some u =>
          rcases hO b with z | ⟨ob, xs, z⟩
          · rw [q] at z; cases z
          · have z2 := un.frzs b ob _ z
            obtain ⟨e1, _⟩ := hok b _ z
            obtain ⟨e2, _⟩ := hok' b _ z2
            rw [e] at e1; cases e1
            exact e2
  cases hk : K.lookup a with
  | some o =>
    -- the script is one of the module's own objects
    have e := KX a o hk
    rw [ha] at e
    cases e
    refine core (fun _ => none) (fun _ => .inl rfl) (.inr ⟨_, vs.toArray, _, hk, rfl, rfl, rfl, by rw [List.size_toArray, lenV]; exact hl, by simpa using rv⟩) (fun b u z => by have z' : (none : Option HO) = some u := z; cases z') (fun b z => absurd rfl z) fun z => absurd rfl z
  | none =>
    refine core (fun b => if b = a then some (.frz { cls := .type "list", data := .seq vs.toArray } (.lst (ns.map V.int))) else none) (fun b => ?_) (.inl (.inr ⟨{ cls := .type "list", data := .seq vs.toArray }, if_pos rfl⟩)) (fun b u z => ?_) (fun b z => ?_) fun _ => hk
    · by_cases hb : b = a
      · exact .inr ⟨_, _, if_pos hb⟩
      · exact .inl (if_neg hb)
    · by_cases hb : b = a
      · have z' := (if_pos hb).symm.trans z
        cases z'
        subst hb
        exact ⟨ha, by rw [List.length_map]; exact hl, vs, _, rv, ha⟩
      · have z' := (if_neg hb).symm.trans z
        cases z'
    · by_cases hb : b = a
      · exact hb
      · exact absurd (if_neg hb) z
end L2

namespace L2
open PySem PySem.Spec PyProof.Rows

/-- the goal that k_head leaves (case hc), from the law's promise. F gives the function object fd (K's own) once, then the promise over every base -/
theorem walk_of {l : PySem.W.OpenLaw} {n k : Nat} {q : Program} {loose : List Str} {XP : (Str → Option Value) → Heap → Prop} {YP : World → Heap → Prop} {d : DefRec} {K : Params → PySem.W.Frag} {CX : World → CXT} {sp : World → Sp} {x : Str}
    (hn : l.most = some n) (hn2 : n ≤ sizeLine) (hdf : d.params.defaults = []) (hr : Room k callerA)
    (hY : ∀ (w : World) (h : Heap), YP w h → (K w.params).In h)
    (F : ∀ (w : World) (mg : Str → Option Value) (fa : Addr) (h : Heap), (K w.params).In h → h.Ns mainGlobals mg → mg d.name = some (.ref fa) →
      ∃ fd : FuncData, (∀ (s : Shared) (u : Value), BindsTo s fd ⟨[u], []⟩ [(x, u)]) ∧
        ∀ base : Heap, (K w.params).In base → base.Ns mainGlobals mg → FnOk l.prog w (K w.params) mg base (CX w) k fa fd [x] (sp w))
    (hsp : ∀ (w : World) (H : Hp) (a : Addr) (ns : List Int), ns.length ≤ n → Only H → SqL (K w.params) H a (ns.map V.int) → sp w [.ref a] H (fun v _ => v = .bl true) fun _ _ _ => False)
    (hCX : ∀ (w : World) (H : Hp) (s : Shared) (e : Value) (s' : Shared), CX w [] H s (fun _ _ _ => False) e s' → False) :
    PySem.W.WalkO q loose XP YP l.row.toRowW d [] (fun f vs => PySem.call f vs) := by
  refine Att.attach_call hn hdf fun w s₀ s₁ mg mb fa o pm cd doc a vs ns G Y ho hd hcd hmg hobj hints hlen hg => ?_
  have KX := hY w _ Y
  obtain ⟨fd, hb, hF⟩ := F w mg fa _ KX G.T.g hmg
  exact law_call KX G.T.g G.T.b G.T.builtins G.T.nolimit hg hobj hints (Nat.le_trans hlen hn2) hr hF hb (fun H hO hS => hsp w H a ns hlen hO hS) fun H e s' => hCX w H s₁ e s'
end L2

/- THE LAST THEOREM (shape; LID, My.* are yours):
   My.Adr: a structure of the addresses that your layer names (classes, functions); My.Txt K t: a structure (Prop) of the equations over K;
   My.txt_mk : {K} {implicit addresses ..} (e1 : nsIn K mainGlobals "law" = some (some (.ref f))) (e2 : K.lookup f = some ⟨oc, od, .func (fnOf "law" "law" params body scope dV kV doc pm an cdv ct), sl⟩) (e3 : codeIn K cdv "law" = true) .. : ∃ t, My.Txt K t

set_option maxRecDepth 100000 in
set_option maxHeartbeats 0 in
theorem PySem.Challenge.cw_LID_holds : PySem.Challenge.rw_LID.Holds := by
  w_on; o_law; k_head; (case hw => w_witness2)
  k_fill
  refine L2.walk_of (l := PySem.Challenge.rw_LID) (n := 63) (k := 40) (x := "script") (CX := fun w => ..) (sp := fun _ => My.sp_law) rfl (by decide) rfl ⟨rfl, by decide, by decide⟩ (fun w h Y => PySem.W.kIn_of Y) ?F ?S ?C
  case F =>
    intro w mg fa h KX G hmg
    have T : ∃ t, My.Txt (L2.KOf KX) t := by
      dsimp only [L2.KOf]                          -- K must stand as «<heap const> w.params» for k_is
      refine' My.txt_mk ?e1 ?e2 ?e3 ..
      (case e1 => PySem.W.k_is)                    -- in the order: a name -> its address -> its object -> its parts
      (case e2 => PySem.W.k_is)
      ..
    obtain ⟨t, T⟩ := T
    have e0 := hmg.symm.trans (PySem.W.mg_of KX G T.law)
    cases e0                                       -- fa is the law's own address
    exact ⟨_, fun s u => .of_eq rfl, fun base kb nb => My.law_fn T kb nb⟩     -- if «.of_eq rfl» comes too early: refine' ⟨_, ?b, fun base kb nb => My.law_fn T kb nb⟩; exact fun s u => .of_eq rfl
  case S => exact fun w H a ns hl hO hS => ..
  case C => exact ..
(the tactic k_is has no namespace: write k_is) -/

/-! SHORT WORDS over the layer: a def of the text, its body, what a loop and a test want. -/
namespace L2
open PySem PySem.Spec PyProof.Rows

def defArgs (s : Stmt) : Arguments := match s with
  | .FunctionDef _ a _ _ _ _ _ _ _ _ => a
  | _ => { posonlyargs := [], args := [], vararg := none, kwonlyargs := [], kw_defaults := [], kwarg := none, defaults := [] }
def defBody (s : Stmt) : List Stmt := match s with
  | .FunctionDef _ _ b _ _ _ _ _ _ _ => b
  | _ => []
def defScope (s : Stmt) : Scope := match s with
  | .FunctionDef _ _ _ _ _ _ sc _ _ _ => sc
  | _ => { kind := .function, names := [], isGenerator := false, isCoroutine := false }

/-! ### no exception leaves a def -/
abbrev CX0 : CXT := fun _ _ _ _ _ _ => False
abbrev E0 : XK := fun _ _ _ => False
/-! ### a def (or method) of the text as it stands behind the top -/
structure Fun (K : PySem.W.Frag) (x qual : Str) (st : Stmt) (f : Addr) (fd : FuncData) : Prop where
  ex : ∃ (oc : Value) (od : Option Addr) (kV doc pm : Value) (an : Option Addr) (cdv ct : Value) (osl : Array (Option Value)),
    fd = PySem.W.fnOf x qual (defArgs st) (defBody st) (defScope st) .none kV doc pm an cdv ct ∧ K.lookup f = some ⟨oc, od, .func fd, osl⟩ ∧ PySem.W.codeIn K cdv qual = true
  kp : PySem.W.keepIn K (.ref f) = true
section
variable {P : Program} {w : World} {K : PySem.W.Frag} {mg : Str → Option Value} {base : Heap}
/-- THE RULE for a def: its body as a term of rules, and the reading of that term -/
theorem Fun.ok {x qual : Str} {st : Stmt} {f : Addr} {fd : FuncData} {N ps : List Str} {k : Nat} {sp : Sp} (F : Fun K x qual st f fd) (S : FnScope N ps (defScope st)) (len : ∀ vs H Q E, sp vs H Q E → vs.length = ps.length)
    (hbody : ∀ (cdv : Value) (A : Around) (outer : List Env) (s : Shared) (H : Hp) (vs : List V) (Q : VK) (E : XK), Room k (A.deeper (envOfC qual (defScope st) s.heap.objs.size f cdv)) → sp vs H Q E →
      ∃ t, PSs (cxOf CX0 P w K mg base N qual (defScope st) f cdv A outer s H E).nox (defBody st) t ∧ t { nx := fun _ H' => Q .non H', rt := Q } (start N vs) H) : FnOk P w K mg base CX0 (k + 1) f fd ps sp := by
  obtain ⟨oc, od, kV, doc, pm, an, cdv, ct, osl, rfl, lk, hcd⟩ := F.ex
  refine fn_of lk hcd S len fun A outer s H vs Q E hr hsp => ?_
  obtain ⟨t, h, q⟩ := hbody cdv A outer s H vs Q E hr hsp
  exact ⟨t, h.nox, q⟩
/-- how its arguments bind (no defaults): h is «fun _ _ _ _ _ _ us hl => match us, hl with | [_, _], _ => rfl», one _ a parameter -/
theorem Fun.binds {x qual : Str} {st : Stmt} {f : Addr} {fd : FuncData} {ps : List Str} (F : Fun K x qual st f fd)
    (h : ∀ (kV doc pm : Value) (an : Option Addr) (cdv ct : Value) (us : List Value), us.length = ps.length → bindArgs (PySem.W.fnOf x qual (defArgs st) (defBody st) (defScope st) .none kV doc pm an cdv ct) ⟨us, []⟩ = pure (ps.zip us)) : Binds K fd ps [] := by
  obtain ⟨oc, od, kV, doc, pm, an, cdv, ct, osl, rfl, lk, hcd⟩ := F.ex
  exact .all (h kV doc pm an cdv ct)
theorem fun_mk {x qual : Str} {st : Stmt} {f : Addr} {oc : Value} {od an : Option Addr} {osl : Array (Option Value)} {kV doc pm cdv ct : Value} (l : K.lookup f = some ⟨oc, od, .func (PySem.W.fnOf x qual (defArgs st) (defBody st) (defScope st) .none kV doc pm an cdv ct), osl⟩)
    (c : PySem.W.codeIn K cdv qual = true) (k : PySem.W.keepIn K (.ref f) = true) : Fun K x qual st f (PySem.W.fnOf x qual (defArgs st) (defBody st) (defScope st) .none kV doc pm an cdv ct) := ⟨⟨oc, od, kV, doc, pm, an, cdv, ct, osl, rfl, l, c⟩, k⟩
end
/-! ### expressions in short: the name that stands in the i-th slot -/
section
variable {X : Cx}
end

/-! ### tests -/
theorem iteF {A B : Prop} (h : B) : if false = true then A else B := by
  rw [if_neg Bool.false_ne_true]
  exact h
theorem iteT {A B : Prop} (h : A) : if true = true then A else B := by
  rw [if_pos rfl]
  exact h
theorem iteNS {c A B : Prop} [Decidable c] (hc : c) (h : B) : if (!decide c) = true then A else B := by
  rw [decide_eq_true hc]
  exact iteF h

/-! ### heaps -/
/-- all that was tracked is as it was -/
def Same (H H' : Hp) : Prop := ∀ b o, H b = some o → H' b = some o
theorem Same.refl (H : Hp) : Same H H := fun _ _ h => h
theorem Same.trans {H H1 H2 : Hp} (a : Same H H1) (b : Same H1 H2) : Same H H2 := fun c o h => b c o (a c o h)
theorem Same.free {H H' : Hp} (e : Same H H') {l : Addr} (h : H' l = Option.none) : H l = Option.none := by
  cases q : H l with
  | none => rfl
  | some o =>
    rw [e l o q] at h
    cases h
theorem Same.seq {K : PySem.W.Frag} {H H' : Hp} {a : Addr} {xs : List V} (e : Same H H') (h : SqL K H a xs) : SqL K H' a xs := by
  rcases h with (h | ⟨o, h⟩) | h
  · exact .inl (.inl (e _ _ h))
  · exact .inl (.inr ⟨o, e _ _ h⟩)
  · exact .inr h

end L2

namespace L2
open PySem PySem.Spec PyProof.Rows

/-! ### lists of pairs as tables -/
section
variable {κ : Type} [DecidableEq κ]
def valV (kvs : List (κ × V)) (k : κ) : Option V := (kvs.find? fun kv => decide (kv.1 = k)).map (·.2)
/-- in its place, or at the end -/
def putK (kvs : List (κ × V)) (k : κ) (v : V) : List (κ × V) :=
  if (kvs.any fun kv => decide (kv.1 = k)) = true then kvs.map (fun kv => if kv.1 = k then (kv.1, v) else kv) else kvs ++ [(k, v)]
def dropK (kvs : List (κ × V)) (k : κ) : List (κ × V) := kvs.filter fun kv => decide (kv.1 ≠ k)

theorem valV_pos {p : κ × V} {r : List (κ × V)} {k : κ} (e : p.1 = k) : valV (p :: r) k = some p.2 := by simp [valV, List.find?_cons, e]
theorem valV_neg {p : κ × V} {r : List (κ × V)} {k : κ} (e : ¬ p.1 = k) : valV (p :: r) k = valV r k := by simp [valV, List.find?_cons, e]
theorem valV_any (k : κ) : ∀ kvs : List (κ × V), (kvs.any fun kv => decide (kv.1 = k)) = (valV kvs k).isSome
  | [] => rfl
  | p :: r => by
    rw [List.any_cons]
    by_cases e : p.1 = k
    · simp only [valV_pos e, decide_eq_true e, Bool.true_or, Option.isSome_some]
    · rw [valV_neg e, decide_eq_false e, Bool.false_or]; exact valV_any k r
theorem RelO.isSome_eq {o : Option V} {u : Option Value} (r : RelO o u) : o.isSome = u.isSome := by
  cases o with
  | none => cases u with
    | none => rfl
    | some _ => exact (show False from r).elim
  | some _ => cases u with
    | none => exact (show False from r).elim
    | some _ => rfl
theorem RelO.getD {o : Option V} {u : Option Value} {d : V} {d' : Value} (r : RelO o u) (rd : RelV d d') : RelV (o.getD d) (u.getD d') := by
  cases o with
  | none => cases u with
    | none => exact rd
    | some _ => exact (show False from r).elim
  | some _ => cases u with
    | none => exact (show False from r).elim
    | some _ => exact r

/-- raw tables of the same keys -/
theorem KV.val {kvs : List (κ × V)} {vs : List (κ × Value)} (r : KV kvs vs) (k : κ) : RelO (valV kvs k) (valueAt vs k) := by
  unfold KV at r
  induction r with
  | nil => exact True.intro
  | @cons p q ps qs h t ih =>
    obtain ⟨h1, h2⟩ := h
    by_cases e : p.1 = k
    · have e' : q.1 = k := h1.symm.trans e
      have b : valueAt (q :: qs) k = some q.2 := by simp [valueAt, List.find?_cons, e']
      rw [valV_pos e, b]; exact h2
    · have e' : ¬ q.1 = k := fun z => e (h1.trans z)
      have b : valueAt (q :: qs) k = valueAt qs k := by simp [valueAt, List.find?_cons, e']
      rw [valV_neg e, b]; exact ih
theorem KV.any {kvs : List (κ × V)} {vs : List (κ × Value)} (r : KV kvs vs) (k : κ) : (kvs.any fun kv => decide (kv.1 = k)) = vs.any fun kv => decide (kv.1 = k) := by
  unfold KV at r
  induction r with
  | nil => rfl
  | cons h t ih => rw [List.any_cons, List.any_cons, ih, h.1]
theorem KV.repl {kvs : List (κ × V)} {vs : List (κ × Value)} (r : KV kvs vs) (k : κ) {y : V} {u : Value} (ry : RelV y u) :
    KV (kvs.map fun kv => if kv.1 = k then (kv.1, y) else kv) (vs.map fun kv => if kv.1 = k then (kv.1, u) else kv) := by
  unfold KV at r ⊢
  induction r with
  | nil => exact .nil
  | @cons p q ps qs h t ih =>
    rw [List.map_cons, List.map_cons]
    refine .cons ?_ ih
    obtain ⟨h1, h2⟩ := h
    by_cases e : p.1 = k
    · rw [if_pos e, if_pos (h1.symm.trans e)]; exact ⟨h1, ry⟩
    · rw [if_neg e, if_neg (fun z => e (h1.trans z))]; exact ⟨h1, h2⟩
theorem KV.put {kvs : List (κ × V)} {vs : List (κ × Value)} (r : KV kvs vs) (k : κ) {y : V} {u : Value} (ry : RelV y u) : KV (putK kvs k y) (stored vs k u) := by
  unfold putK stored
  rw [r.any k]
  by_cases e : (vs.any fun kv => decide (kv.1 = k)) = true
  · rw [if_pos e, if_pos e]; exact r.repl k ry
  · rw [if_neg e, if_neg e]; exact Paired.snoc r ⟨rfl, ry⟩
theorem KV.drop {kvs : List (κ × V)} {vs : List (κ × Value)} (r : KV kvs vs) (k : κ) : KV (dropK kvs k) (without vs k) := by
  unfold KV at r ⊢
  unfold dropK without
  induction r with
  | nil => exact .nil
  | @cons p q ps qs h t ih =>
    obtain ⟨h1, h2⟩ := h
    rw [List.filter_cons, List.filter_cons]
    by_cases e : p.1 = k
    · have a : ¬ decide (p.1 ≠ k) = true := by simp [e]
      have b : ¬ decide (q.1 ≠ k) = true := by simp [h1.symm.trans e]
      rw [if_neg a, if_neg b]; exact ih
    · have e' : ¬ q.1 = k := fun z => e (h1.trans z)
      have a : decide (p.1 ≠ k) = true := by simp [e]
      have b : decide (q.1 ≠ k) = true := by simp [e']
      rw [if_pos a, if_pos b]; exact .cons ⟨h1, h2⟩ ih
theorem KV.length {kvs : List (κ × V)} {vs : List (κ × Value)} (r : KV kvs vs) : kvs.length = vs.length := Paired.length r
end


/-- raw entries of a dict with tuple keys -/
abbrev KT (H : Hp) : List (List Key × V) → List (List Key × Addr × Value) → Prop := Paired fun p q => p.1 = q.1 ∧ H q.2.1 = some (.tup (p.1.map kV)) ∧ RelV p.2 q.2.2
theorem KT.val {H : Hp} {kvs : List (List Key × V)} {xs : List (List Key × Addr × Value)} (r : KT H kvs xs) (k : List Key) : RelO (valV kvs k) ((atKey xs k).map (·.2)) := by
  induction r with
  | nil => exact True.intro
  | @cons p q ps qs h t ih =>
    obtain ⟨h1, _, h2⟩ := h
    by_cases e : p.1 = k
    · have e' : q.1 = k := h1.symm.trans e
      have b : atKey (q :: qs) k = some q.2 := by simp [atKey, List.find?_cons, e']
      rw [valV_pos e, b]; exact h2
    · have e' : ¬ q.1 = k := fun z => e (h1.trans z)
      have b : atKey (q :: qs) k = atKey qs k := by simp [atKey, List.find?_cons, e']
      rw [valV_neg e, b]; exact ih
theorem KT.repl {H : Hp} {kvs : List (List Key × V)} {xs : List (List Key × Addr × Value)} (r : KT H kvs xs) (k : List Key) {y : V} {u : Value} (ry : RelV y u) :
    KT H (kvs.map fun kv => if kv.1 = k then (kv.1, y) else kv) (xs.map (putAt k u)) := by
  induction r with
  | nil => exact .nil
  | @cons p q ps qs h t ih =>
    rw [List.map_cons, List.map_cons]
    refine .cons ?_ ih
    obtain ⟨h1, h2, h3⟩ := h
    unfold putAt
    by_cases e : p.1 = k
    · rw [if_pos e, if_pos (h1.symm.trans e)]; exact ⟨h1, h2, ry⟩
    · rw [if_neg e, if_neg (fun z => e (h1.trans z))]; exact ⟨h1, h2, h3⟩
theorem KT.put {H : Hp} {kvs : List (List Key × V)} {xs : List (List Key × Addr × Value)} (r : KT H kvs xs) (k : List Key) {b : Addr} {y : V} {u : Value} (hb : H b = some (.tup (k.map kV))) (ry : RelV y u) :
    KT H (putK kvs k y) (storedH xs k b u) := by
  have e : (kvs.any fun kv => decide (kv.1 = k)) = (atKey xs k).isSome := by
    rw [valV_any, (r.val k).isSome_eq, Option.isSome_map]
  unfold putK storedH
  rw [e]
  by_cases q : (atKey xs k).isSome = true
  · rw [if_pos q, if_pos q]; exact r.repl k ry
  · rw [if_neg q, if_neg q]; exact Paired.snoc r ⟨rfl, hb, ry⟩
theorem KT.keeps {H H' : Hp} {kvs : List (List Key × V)} {xs : List (List Key × Addr × Value)} (r : KT H kvs xs) (ht : ∀ b ys, H b = some (.tup ys) → H' b = some (.tup ys)) : KT H' kvs xs :=
  Paired.mapP r fun _ _ z => ⟨z.1, ht _ _ z.2.1, z.2.2⟩

section
variable {P : Program} {w : World} {H : Hp} {h : Heap} {a : Addr}
end

/-- what the dict at a holds at the key y -/
def DGet (H : Hp) (a : Addr) (y : V) (r : Option V) : Prop :=
  (∃ kvs k, Rd H a (.dK kvs) ∧ y = kV k ∧ r = valV kvs k) ∨ ∃ kvs k b, Rd H a (.dT kvs) ∧ y = .ref b ∧ H b = some (.tup (k.map kV)) ∧ r = valV kvs k
/-- the heap behind a[y] = v -/
def DPut (H : Hp) (a : Addr) (y v : V) (H' : Hp) : Prop :=
  (∃ kvs k, H a = some (.dK kvs) ∧ y = kV k ∧ kvs.length < sizeLine ∧ H' = upd H a (.dK (putK kvs k v))) ∨
  ∃ kvs k b, H a = some (.dT kvs) ∧ y = .ref b ∧ H b = some (.tup (k.map kV)) ∧ kvs.length < sizeLine ∧ H' = upd H a (.dT (putK kvs k v))
theorem DGet.k {H : Hp} {a : Addr} {kvs : List (Key × V)} {k : Key} (e : H a = some (.dK kvs)) : DGet H a (kV k) (valV kvs k) := .inl ⟨kvs, k, .inl e, rfl, rfl⟩
theorem DGet.t {H : Hp} {a b : Addr} {kvs : List (List Key × V)} {k : List Key} (e : H a = some (.dT kvs)) (eb : H b = some (.tup (k.map kV))) : DGet H a (.ref b) (valV kvs k) := .inr ⟨kvs, k, b, .inl e, rfl, eb, rfl⟩
theorem DPut.k {H : Hp} {a : Addr} {kvs : List (Key × V)} {k : Key} {v : V} (e : H a = some (.dK kvs)) (hl : kvs.length < sizeLine) : DPut H a (kV k) v (upd H a (.dK (putK kvs k v))) := .inl ⟨kvs, k, e, rfl, hl, rfl⟩
theorem DPut.t {H : Hp} {a b : Addr} {kvs : List (List Key × V)} {k : List Key} {v : V} (e : H a = some (.dT kvs)) (eb : H b = some (.tup (k.map kV))) (hl : kvs.length < sizeLine) :
    DPut H a (.ref b) v (upd H a (.dT (putK kvs k v))) := .inr ⟨kvs, k, b, e, rfl, eb, hl, rfl⟩


section
variable {X : Cx} {pins : List (Addr × Obj)} {σ : St} {H : Hp} {s : Shared} {a : Addr} {y v : V} {u r : Value} {o : Option V} {A : Around} {E : Value → Shared → Prop}

end

section
variable {X : Cx} {pins : List (Addr × Obj)} {σ : St} {H : Hp} {s : Shared} {a : Addr} {kvs : List (Key × V)} {k : Key} {u : Value} {A : Around} {E : Value → Shared → Prop}
end


section
variable {X : Cx} {o i e value : Expr} {pos pos' tpos : Pos} {td ty tv : TE}
end


section
variable {X : Cx} {pos : Pos}
end

/-! ### methods -/
/-- a method call o.m(e) of a built-in, with one argument: what must be seen of the text -/
structure M1 (X : Cx) (o : Expr) (m : Str) (apos : Pos) (e : Expr) (cpos : Pos) : Prop where
  base : attributeBase o m X.env (eval o X.env) = eval o X.env
  few : ((backTo cpos (starEach [e] X.env)).all (fun x => !x.1) && (backToKw cpos (keywordEach [] X.env)).all (fun x => x.1.isSome)
    && decide (([e] : List Expr).length + ([] : List Keyword).length + (if ([] : List Keyword).isEmpty then 0 else 1) < 30)) = true
  line : (apos.endLine == cpos.line) = true
  trees : backTo cpos (starEach [e] X.env) = [(false, eval e X.env)]
structure M2 (X : Cx) (o : Expr) (m : Str) (apos : Pos) (e f : Expr) (cpos : Pos) : Prop where
  base : attributeBase o m X.env (eval o X.env) = eval o X.env
  few : ((backTo cpos (starEach [e, f] X.env)).all (fun x => !x.1) && (backToKw cpos (keywordEach [] X.env)).all (fun x => x.1.isSome)
    && decide (([e, f] : List Expr).length + ([] : List Keyword).length + (if ([] : List Keyword).isEmpty then 0 else 1) < 30)) = true
  line : (apos.endLine == cpos.line) = true
  trees : backTo cpos (starEach [e, f] X.env) = [(false, eval e X.env), (false, eval f X.env)]

section
variable {X : Cx} {pins : List (Addr × Obj)} {σ : St} {H : Hp} {s : Shared} {a : Addr} {y d : V} {u r : Value} {o : Option V} {A : Around} {E : Value → Shared → Prop}
end

section
variable {X : Cx} {o e f : Expr} {apos cpos : Pos} {td ty tx : TE}
end

/-! ### dict(d): a copy -/
section
variable {X : Cx} {pins : List (Addr × Obj)} {σ : St} {H : Hp} {s : Shared} {a : Addr} {kvs : List (Key × V)} {A : Around} {E : Value → Shared → Prop}
end


section
variable {X : Cx} {pins : List (Addr × Obj)} {σ : St} {H : Hp} {s : Shared} {a : Addr} {y : V} {u : Value} {A : Around} {E : Value → Shared → Prop}
end
end L2

namespace L2
open PySem PySem.Spec PyProof.Rows
section
variable {X : Cx}
end
/-! ### a dict's pairs: keys that differ -/
section
variable {κ : Type} [DecidableEq κ]
end
end L2

namespace EE
open PySem PySem.Spec PyProof.Rows L2

/-! ### a def that is there and keeps its promise (no exception leaves it) -/
structure Cal (P : Program) (w : World) (K : PySem.W.Frag) (mg : Str → Option Value) (base : Heap) (k : Nat) (x : Str) (ps : List Str) (sp : Sp) : Prop where
  ex : ∃ f fd, FnOk P w K mg base CX0 k f fd ps sp ∧ Binds K fd ps [] ∧ PySem.W.keepIn K (.ref f) = true ∧ mg x = some (.ref f)
structure Has (K : PySem.W.Frag) (mg : Str → Option Value) (x : Str) (st : Stmt) (ps : List Str) : Prop where
  ex : ∃ f fd, Fun K x x st f fd ∧ Binds K fd ps [] ∧ mg x = some (.ref f)
section
variable {P : Program} {w : World} {K : PySem.W.Frag} {mg : Str → Option Value} {base : Heap}
theorem Cal.mono {j k : Nat} {x : Str} {ps : List Str} {sp : Sp} (C : Cal P w K mg base j x ps sp) (h : j ≤ k) : Cal P w K mg base k x ps sp := by
  obtain ⟨f, fd, F, r⟩ := C.ex
  exact ⟨f, fd, F.mono h, r⟩
theorem has_mk {h : Heap} {x : Str} {st : Stmt} {ps : List Str} {f : Addr} {oc : Value} {od an : Option Addr} {osl : Array (Option Value)} {kV doc pm cdv ct : Value} (X : K.In h) (G : h.Ns mainGlobals mg)
    (a : PySem.W.nsIn K mainGlobals x = some (some (.ref f))) (l : K.lookup f = some ⟨oc, od, .func (PySem.W.fnOf x x (defArgs st) (defBody st) (defScope st) .none kV doc pm an cdv ct), osl⟩)
    (c : PySem.W.codeIn K cdv x = true) (k : PySem.W.keepIn K (.ref f) = true)
    (hb : ∀ (kV doc pm : Value) (an : Option Addr) (cdv ct : Value) (us : List Value), us.length = ps.length → bindArgs (PySem.W.fnOf x x (defArgs st) (defBody st) (defScope st) .none kV doc pm an cdv ct) ⟨us, []⟩ = pure (ps.zip us)) : Has K mg x st ps := by
  have F := fun_mk (st := st) l c k
  exact ⟨f, _, F, F.binds hb, PySem.W.mg_of X G a⟩
end
section
variable {X : Cx} {k : Nat} {ps : List Str} {sp : Sp} {x : Str} {p pos : Pos} {e : Expr} {es : List Expr} {t : TA}
/-- a module's number -/
theorem pe_globI {i : Int} (h : ∃ t, X.mg x = some (.int i t)) (hg : Gl X x) (hd : (x == ("__debug__" : Str)) = false := by decide) : PE X (.Name x pos) (tC (.int i)) := by
  obtain ⟨t, e⟩ := h
  exact pe_glob (v := .int i) hg e ⟨t, rfl⟩ hd

theorem kit_same (K : PySem.W.Frag) (n : String) : PySem.W.kitOne K (.type n) (.type n) = some true := by
  unfold PySem.W.kitOne
  rw [if_pos (by simp)]
/-- xs.pop() of a list that ends in y -/
def rPopS : V → List V → Hp → VK → Prop := fun x vs H Q => ∃ l ys y, x = .ref l ∧ vs = [] ∧ H l = some (.lst (ys ++ [y])) ∧ Q y (upd H l (.lst ys))
theorem mt_popS : MtM X "list.pop" rPopS := by
  intro pins s σ H x vs v us Q I rx rv h
  obtain ⟨l, ys, y, rfl, rfl, hH, q⟩ := h
  refine mt_pop pins s σ H _ _ v us Q I rx rv ⟨l, ys ++ [y], y, rfl, rfl, hH, by simp, ?_⟩
  rw [List.dropLast_concat]
  exact q
end

/-! ### heaps -/
/-- the tuples stay -/
def Tk (H H' : Hp) : Prop := ∀ b xs, H b = some (.tup xs) → H' b = some (.tup xs)
theorem Tk.refl (H : Hp) : Tk H H := fun _ _ h => h
theorem Tk.trans {H H1 H2 : Hp} (a : Tk H H1) (b : Tk H1 H2) : Tk H H2 := fun c o h => b c o (a c o h)
theorem _root_.L2.Same.ts {H H' : Hp} (s : Same H H') : Tk H H' := fun b xs h => s b _ h
theorem Tk.new {H : Hp} {p : Addr} {o : HO} (h : H p = none) : Tk H (upd H p o) := fun b xs e => by rw [upd_ne (ne_of_none e h)]; exact e
theorem Tk.lst {H : Hp} {p : Addr} {o : HO} {ys : List V} (h : H p = some (.lst ys)) : Tk H (upd H p o) := fun b xs e => by
  rw [upd_ne (ne_of e h (by intro z; cases z))]; exact e
theorem Same.new {H : Hp} {p : Addr} {o : HO} (h : H p = none) : Same H (upd H p o) := fun b u e => by rw [upd_ne (ne_of_none e h)]; exact e
theorem Same.upd {H H' : Hp} {p : Addr} {o : HO} (h : H p = none) (s : Same H H') : Same H (upd H' p o) := fun b u e => by
  rw [upd_ne (ne_of_none e h)]; exact s b u e
theorem iteN {c A B : Prop} [Decidable c] (hc : ¬ c) (h : A) : if (!decide c) = true then A else B := by
  rw [decide_eq_false hc]
  exact iteT h
theorem iteD {c A B : Prop} [Decidable c] (hc : c) (h : A) : if decide c = true then A else B := by
  rw [decide_eq_true hc]
  exact iteT h
theorem iteDN {c A B : Prop} [Decidable c] (hc : ¬ c) (h : B) : if decide c = true then A else B := by
  rw [decide_eq_false hc]
  exact iteF h
theorem iteD2 {c A B : Prop} [Decidable c] (h1 : c → A) (h2 : ¬ c → B) : if decide c = true then A else B := by
  by_cases h : c
  · exact iteD h (h1 h)
  · exact iteDN h (h2 h)
theorem snoc_cases {α : Type} (xs : List α) : xs = [] ∨ ∃ ys y, xs = ys ++ [y] := by
  cases xs with
  | nil => exact .inl rfl
  | cons a r => exact .inr ⟨(a :: r).dropLast, (a :: r).getLast (by simp), (List.dropLast_concat_getLast (by simp)).symm⟩
theorem size_small {n : Nat} (h : n ≤ 10000000) : n ≤ sizeLine := Nat.le_trans h (by decide)

/-! ### trees -/
inductive Tre where
  | bud
  | pair (l r : Tre)
def Tre.size : Tre → Nat
  | .bud => 0
  | .pair l r => l.size + r.size + 1
def Tre.deep : Tre → Nat
  | .bud => 0
  | .pair l r => max l.deep r.deep + 1
theorem Tre.deep_le : ∀ t : Tre, t.deep ≤ t.size
  | .bud => Nat.le_refl _
  | .pair l r => by
    have h1 := l.deep_le
    have h2 := r.deep_le
    simp only [Tre.deep, Tre.size]
    omega
def TR (H : Hp) : Tre → V → Prop
  | .bud, v => v = .non
  | .pair l r, v => ∃ a x y, v = .ref a ∧ H a = some (.tup [x, y]) ∧ TR H l x ∧ TR H r y
theorem TR.mono {H H' : Hp} (s : Tk H H') : ∀ {t : Tre} {v : V}, TR H t v → TR H' t v
  | .bud, _, h => h
  | .pair _ _, _, ⟨a, x, y, e, h, h1, h2⟩ => ⟨a, x, y, e, s _ _ h, TR.mono s h1, TR.mono s h2⟩
theorem TRs.mono {H H' : Hp} (s : Tk H H') {ts : List Tre} {vs : List V} (h : Paired (TR H) ts vs) : Paired (TR H') ts vs := Paired.mapP h fun _ _ q => q.mono s
def sizes : List Tre → Nat
  | [] => 0
  | t :: r => t.size + sizes r
theorem sizes_append (a b : List Tre) : sizes (a ++ b) = sizes a + sizes b := by
  induction a with
  | nil => simp [sizes]
  | cons t r ih => simp only [List.cons_append, sizes, ih]; omega
end EE

namespace EE
open PySem PySem.Spec PyProof.Rows L2
/-! ### the signs of a text, walked -/
def Its (x : Str) : It := ⟨fun i _ => i < x.cps.size, fun i H v H' => H' = H ∧ ∃ c, x.cps[i]? = some c ∧ v = .str ⟨#[c]⟩, fun i _ => x.cps.size ≤ i⟩
theorem turn_sign {P : Program} {w : World} {K : PySem.W.Frag} {tg : Expr} {nm : String} (it : Addr) (x : Str) (t : Tok)
    (hn : ["enumerate", "zip", "dict_itemiterator", "dict_reverseitemiterator", "odict_iterator", "itertools.zip_longest", "itertools.pairwise"].contains nm = false)
    (W : ∀ A : Around, A.handled = none → Walks P w A it [it] [it] x.cps.size (SignAt x) (fun i h => h.IsStrIter it nm x t i))
    (stop : ∀ (A : Around) (s : Shared) (i : Nat) (Q : Option Value → Shared → Prop) (E : Value → Shared → Prop), A.handled = none → s.heap.IsStrIter it nm x t i → x.cps[i]? = none →
      (∀ h', Heap.ExtBut it s.heap h' → Q none { s with heap := h' }) → wpAny (model P w) A (pyNext (.ref it)) Q E s)
    (self : ∀ (A : Around) (i : Nat) (s : Shared) (Q : Value → Shared → Prop) (E : Value → Shared → Prop), s.heap.IsStrIter it nm x t i → Q (.ref it) s → wpAny (model P w) A (pyIter (.ref it)) Q E s) :
    Turn P w K tg (Its x) [it] it (fun i h => h.IsStrIter it nm x t i) where
  mem := by simp
  obj := fun i h st b hb => by
    have e : b = it := by simpa using hb
    subst e
    obtain ⟨o, e, c, d⟩ := st
    exact ⟨o, e, fun v z => by rw [d] at z; cases z⟩
  keep := fun i h h' st k => let ⟨o, ho, r⟩ := st; ⟨o, k it (by simp) o ho, r⟩
  item := by
    intro X hP hw hK hc i pins s σ H E I hf st hg
    subst hP hw hK
    obtain ⟨f0, f1, f2, f3, f4, f5⟩ := hf it (by simp)
    refine (W X.A (I.ok.hd hc)).item i s _ _ hg st fun v h' tk hv st' kk => ?_
    obtain ⟨c, u, hcc, rfl⟩ := hv
    have I1 : Inv X pins σ H { s with heap := h', toks := tk } := I.turned (fun b o hb e => kk b o (by simpa using hb) e) f0 f1 f3 f4 f5
    obtain ⟨o, e, cl, d⟩ := id st'
    exact ⟨_, rfl, go_of (s := { s with heap := h', toks := tk }) e cl d hn ⟨.str ⟨#[c]⟩, H, I1, ⟨u, rfl⟩, ⟨rfl, c, hcc, rfl⟩, st', fun b hb => (hf b hb).1⟩⟩
  done := by
    intro X hP hw hK hc i pins s σ H E I hf st hg
    subst hP hw hK
    obtain ⟨f0, f1, f2, f3, f4, f5⟩ := hf it (by simp)
    exact stop X.A s i _ E (I.ok.hd hc) st (Array.getElem?_eq_none hg) fun h' eb => ⟨rfl, I.turned (t' := s.toks) (fun b o hb e => eb b o hb e) f0 f1 f3 f4 f5⟩
  self := self
theorem turn_ascii {P : Program} {w : World} {K : PySem.W.Frag} {tg : Expr} (it : Addr) (x : Str) (t : Tok) : Turn P w K tg (Its x) [it] it (fun i h => h.IsStrIter it "str_ascii_iterator" x t i) :=
  turn_sign it x t (by decide) (fun A hA => Walks.strAscii hA it x t) (fun A s i Q E hh st e h => wpAny_pyNext_ascii_end hh st e h) fun A i s Q E st h => wpAny_pyIter_striter_ascii st h
theorem turn_wide {P : Program} {w : World} {K : PySem.W.Frag} {tg : Expr} (it : Addr) (x : Str) (t : Tok) : Turn P w K tg (Its x) [it] it (fun i h => h.IsStrIter it "str_iterator" x t i) :=
  turn_sign it x t (by decide) (fun A hA => Walks.strWide hA it x t) (fun A s i Q E hh st e h => wpAny_pyNext_wide_end hh st e h) fun A i s Q E st h => wpAny_pyIter_striter_wide st h
def iStr (tl : TE) : TI := fun σ H R => tl σ H fun v H1 => ∃ x, v = .str x ∧ R (Its x) H1
theorem pi_str {X : Cx} {tg l : Expr} {tl : TE} (hl : PE X l tl) : PI X tg l (iStr tl) := by
  intro pins s σ H R I h
  refine thn (hl pins s σ H _ I h) fun v s1 ⟨y, H1, I1, r1, q1⟩ => ?_
  obtain ⟨x, rfl, q⟩ := q1
  obtain ⟨t, rfl⟩ := r1
  have fin : ∀ (o : Obj) (tn : Nat → Heap → Prop), Turn X.prog X.w X.K tg (Its x) [s1.heap.objs.size] s1.heap.objs.size tn → tn 0 (s1.heap.push o) → PIE X pins σ tg R (.ref s1.heap.objs.size) { s1 with heap := s1.heap.push o } := fun o tn T st => by
    refine ⟨s1.heap.objs.size, [s1.heap.objs.size], _, _, H1, rfl, I1.kept (t' := s1.toks) fun b o e => Heap.get?_push_of_some _ e, T, st, fun b hb => ?_, q⟩
    have e : b = s1.heap.objs.size := by simpa using hb
    subst e
    exact I1.fpOk (Nat.le_refl _) (I1.hok.fresh (Nat.le_refl _))
  cases ha : x.cps.all (· < 128)
  · exact wpAny_pyIter_wide ha (fin _ _ (turn_wide _ x t) ⟨_, Heap.get?_push_size _ rfl, rfl, rfl⟩)
  · exact wpAny_pyIter_ascii ha (fin _ _ (turn_ascii _ x t) ⟨_, Heap.get?_push_size _ rfl, rfl, rfl⟩)
/-! ### methods of texts -/
section
variable {X : Cx}
theorem strsAre_of {xs : List Str} : ∀ {us : List Value}, Vals (xs.map V.str) us → StrsAre us xs := by
  induction xs with
  | nil => intro us r; rw [List.map_nil] at r; cases r; exact .nil
  | cons n ns ih =>
    intro us r
    rw [List.map_cons] at r
    cases r with
    | cons r1 r2 =>
      obtain ⟨t, e⟩ := r1
      subst e
      exact .cons n t (ih r2)
/-- sep.join(xs), xs a list of texts -/
def rJoin (K : PySem.W.Frag) : V → List V → Hp → VK → Prop := fun x vs H Q => ∃ sep l ys, x = .str sep ∧ vs = [.ref l] ∧ SqL K H l (ys.map V.str) ∧ (ys.map (·.length)).sum + ys.length * sep.length ≤ 16777216 ∧ Q (.str (Txt.join sep ys)) H
theorem mt_str_join : MtR X "str.join" (rJoin X.K) := by
  intro pins s σ H x vs v us Q I rx rv h
  obtain ⟨sep, l, ys, rfl, rfl, hl, hz, q⟩ := h
  obtain ⟨t, rfl⟩ := rx
  obtain ⟨u, rfl, ru⟩ := rv.one
  cases ru
  obtain ⟨its, r, pl, hn⟩ := I.list hl
  exact join_list pl.isList (by simpa using strsAre_of r) hz fun t' k => ⟨.str _, H, I.tok _, ⟨_, rfl⟩, q⟩
/-- x.count(y) -/
def rCount : V → List V → Hp → VK → Prop := fun x vs H Q => ∃ a b, x = .str a ∧ vs = [.str b] ∧ Q (.int (Txt.count a b)) H
theorem mt_str_count : MtR X "str.count" rCount := by
  intro pins s σ H x vs v us Q I rx rv h
  obtain ⟨a, b, rfl, rfl, q⟩ := h
  obtain ⟨t, rfl⟩ := rx
  obtain ⟨u, rfl, ru⟩ := rv.one
  obtain ⟨t', rfl⟩ := ru
  exact SC.count ⟨.int _, H, I.tok _, ⟨_, rfl⟩, q⟩
end
end EE

namespace EE
open PySem PySem.Spec PyProof.Rows L2 SeqAt
/-! ### data that hold data, and Python's == of them -/
inductive Dt where
  | non | bl (b : Bool) | int (i : Int) | str (x : Str) | tup (xs : List Dt) | lst (xs : List Dt)
mutual
def eqD : Dt → Dt → Bool
  | .non, .non => true
  | .bl a, .bl b => a == b
  | .bl a, .int b => (if a then 1 else 0) == b
  | .int a, .bl b => a == (if b then 1 else 0)
  | .int a, .int b => a == b
  | .str a, .str b => a == b
  | .tup xs, .tup ys => eqDs xs ys
  | .lst xs, .lst ys => eqDs xs ys
  | _, _ => false
def eqDs : List Dt → List Dt → Bool
  | [], [] => true
  | x :: xs, y :: ys => eqD x y && eqDs xs ys
  | _, _ => false
end
mutual
def deepD : Dt → Nat
  | .tup xs => deepDs xs + 1
  | .lst xs => deepDs xs + 1
  | _ => 0
def deepDs : List Dt → Nat
  | [] => 0
  | x :: xs => max (deepD x) (deepDs xs)
end
mutual
theorem eqD_refl : ∀ d : Dt, eqD d d = true
  | .non => rfl
  | .bl b => by simp [eqD]
  | .int i => by simp [eqD]
  | .str x => by simp [eqD]
  | .tup xs => by simp only [eqD]; exact eqDs_refl xs
  | .lst xs => by simp only [eqD]; exact eqDs_refl xs
theorem eqDs_refl : ∀ ds : List Dt, eqDs ds ds = true
  | [] => rfl
  | d :: ds => by simp only [eqDs, eqD_refl d, eqDs_refl ds, Bool.and_self]
end
mutual
/-- no bool in it: there == is equality -/
def plainD : Dt → Bool
  | .bl _ => false
  | .tup xs => plainDs xs
  | .lst xs => plainDs xs
  | _ => true
def plainDs : List Dt → Bool
  | [] => true
  | x :: xs => plainD x && plainDs xs
end
mutual
theorem eqD_eq : ∀ {d e : Dt}, plainD d = true → plainD e = true → eqD d e = true → d = e
  | .non, .non, _, _, _ => rfl
  | .int a, .int b, _, _, h => by simp only [eqD, beq_iff_eq] at h; rw [h]
  | .str a, .str b, _, _, h => by simp only [eqD, beq_iff_eq] at h; rw [h]
  | .tup xs, .tup ys, p, q, h => by
    simp only [eqD] at h
    simp only [plainD] at p q
    rw [eqDs_eq p q h]
  | .lst xs, .lst ys, p, q, h => by
    simp only [eqD] at h
    simp only [plainD] at p q
    rw [eqDs_eq p q h]
  | .bl _, _, p, _, _ => by simp [plainD] at p
  | _, .bl _, _, q, _ => by simp [plainD] at q
  | .non, .int _, _, _, h => by simp [eqD] at h
  | .non, .str _, _, _, h => by simp [eqD] at h
  | .non, .tup _, _, _, h => by simp [eqD] at h
  | .non, .lst _, _, _, h => by simp [eqD] at h
  | .int _, .non, _, _, h => by simp [eqD] at h
  | .int _, .str _, _, _, h => by simp [eqD] at h
  | .int _, .tup _, _, _, h => by simp [eqD] at h
  | .int _, .lst _, _, _, h => by simp [eqD] at h
  | .str _, .non, _, _, h => by simp [eqD] at h
  | .str _, .int _, _, _, h => by simp [eqD] at h
  | .str _, .tup _, _, _, h => by simp [eqD] at h
  | .str _, .lst _, _, _, h => by simp [eqD] at h
  | .tup _, .non, _, _, h => by simp [eqD] at h
  | .tup _, .int _, _, _, h => by simp [eqD] at h
  | .tup _, .str _, _, _, h => by simp [eqD] at h
  | .tup _, .lst _, _, _, h => by simp [eqD] at h
  | .lst _, .non, _, _, h => by simp [eqD] at h
  | .lst _, .int _, _, _, h => by simp [eqD] at h
  | .lst _, .str _, _, _, h => by simp [eqD] at h
  | .lst _, .tup _, _, _, h => by simp [eqD] at h
theorem eqDs_eq : ∀ {ds es : List Dt}, plainDs ds = true → plainDs es = true → eqDs ds es = true → ds = es
  | [], [], _, _, _ => rfl
  | d :: ds, e :: es, p, q, h => by
    simp only [plainDs, Bool.and_eq_true] at p q
    simp only [eqDs, Bool.and_eq_true] at h
    rw [eqD_eq p.1 q.1 h.1, eqDs_eq p.2 q.2 h.2]
  | [], _ :: _, _, _, h => by simp [eqDs] at h
  | _ :: _, [], _, _, h => by simp [eqDs] at h
end
mutual
/-- the datum stands at v -/
inductive DR (K : PySem.W.Frag) (H : Hp) : Dt → V → Prop where
  | non : DR K H .non .non
  | bl (b : Bool) : DR K H (.bl b) (.bl b)
  | int (i : Int) : DR K H (.int i) (.int i)
  | str (x : Str) : DR K H (.str x) (.str x)
  | tup {a : Addr} {xs : List V} {ds : List Dt} : SqT K H a xs → DRs K H ds xs → DR K H (.tup ds) (.ref a)
  | lst {a : Addr} {xs : List V} {ds : List Dt} : SqL K H a xs → DRs K H ds xs → DR K H (.lst ds) (.ref a)
inductive DRs (K : PySem.W.Frag) (H : Hp) : List Dt → List V → Prop where
  | nil : DRs K H [] []
  | cons {d : Dt} {v : V} {ds : List Dt} {vs : List V} : DR K H d v → DRs K H ds vs → DRs K H (d :: ds) (v :: vs)
end
section
variable {X : Cx} {pins : List (Addr × Obj)} {σ : L2.St} {H : Hp} {s : Shared}
theorem list_not_tuple {a : Addr} {xs ys : List V} (I : Inv X pins σ H s) (h : SqL X.K H a xs) (h' : SqT X.K H a ys) : False := by
  obtain ⟨its, _, p, _⟩ := I.list h
  obtain ⟨its', _, q, _⟩ := I.tuple h'
  exact ne_of_list_tuple p.isList (show s.heap.IsTuple a its'.toArray from q) rfl
mutual
theorem DR.inj (I : Inv X pins σ H s) : ∀ {d e : Dt} {v : V}, DR X.K H d v → DR X.K H e v → d = e
  | _, _, _, .non, h => by cases h; rfl
  | _, _, _, .bl _, h => by cases h; rfl
  | _, _, _, .int _, h => by cases h; rfl
  | _, _, _, .str _, h => by cases h; rfl
  | _, _, _, .tup p q, h => by
    cases h with
    | tup p' q' =>
      have e := I.tuple_inj p p'
      subst e
      rw [DRs.inj I q q']
    | lst p' q' => exact (list_not_tuple I p' p).elim
  | _, _, _, .lst p q, h => by
    cases h with
    | lst p' q' =>
      have e := I.list_inj p p'
      subst e
      rw [DRs.inj I q q']
    | tup p' q' => exact (list_not_tuple I p p').elim
theorem DRs.inj (I : Inv X pins σ H s) : ∀ {ds es : List Dt} {vs : List V}, DRs X.K H ds vs → DRs X.K H es vs → ds = es
  | _, _, _, .nil, h => by cases h; rfl
  | _, _, _, .cons p q, h => by
    cases h with
    | cons p' q' => rw [DR.inj I p p', DRs.inj I q q']
end
theorem DRs.len : ∀ {ds : List Dt} {vs : List V}, DRs X.K H ds vs → ds.length = vs.length
  | _, _, .nil => rfl
  | _, _, .cons _ q => by simp [DRs.len q]
theorem DRs.at : ∀ {ds : List Dt} {vs : List V} {i : Nat} {v : V}, DRs X.K H ds vs → vs[i]? = some v → ∃ d, ds[i]? = some d ∧ DR X.K H d v
  | _, _, _, _, .nil, e => by simp at e
  | _, _, 0, _, .cons r _, e => by simp at e; subst e; exact ⟨_, rfl, r⟩
  | _, _, i + 1, v, .cons _ q, e => by
    obtain ⟨d, h1, h2⟩ := DRs.at (i := i) (v := v) q (by simpa using e)
    exact ⟨d, by simpa using h1, h2⟩
/-- item by item -/
def eqAtI (ds es : List Dt) (i : Nat) : Bool := match ds[i]?, es[i]? with
  | some d, some e => eqD d e
  | _, _ => true
theorem all_shift (ds es : List Dt) (d e : Dt) (n : Nat) : (List.range (n + 1)).all (eqAtI (d :: ds) (e :: es)) = (eqD d e && (List.range n).all (eqAtI ds es)) := by
  rw [List.range_succ_eq_map, List.all_cons, List.all_map]
  rfl
theorem eqDs_all : ∀ ds es : List Dt, eqDs ds es = ((List.range (min ds.length es.length)).all (eqAtI ds es) && ds.length == es.length)
  | [], [] => rfl
  | [], _ :: _ => by simp [eqDs]
  | _ :: _, [] => by simp [eqDs]
  | d :: ds, e :: es => by
    have ih := eqDs_all ds es
    simp only [eqDs, List.length_cons]
    rw [Nat.succ_min_succ, all_shift, ih, Bool.and_assoc]
    congr 2
    rw [Bool.eq_iff_iff]
    simp
theorem deepDs_at : ∀ {ds : List Dt} {i : Nat} {d : Dt}, ds[i]? = some d → deepD d ≤ deepDs ds
  | [], _, _, e => by simp at e
  | x :: xs, 0, _, e => by simp at e; subst e; simp only [deepDs]; omega
  | x :: xs, i + 1, d, e => by
    have := deepDs_at (ds := xs) (i := i) (d := d) (by simpa using e)
    simp only [deepDs]
    omega
theorem vals_at {xs : List V} {us : List Value} {j : Nat} (r : Vals xs us) (h : j < us.toArray.size) : ∃ x, xs[j]? = some x ∧ RelV x us.toArray[j] := by
  have hl := r.length
  have hj : j < xs.length := by simpa [hl] using h
  have e : xs[j]? = some xs[j] := List.getElem?_eq_getElem hj
  obtain ⟨u, hu, ru⟩ := r.get e
  refine ⟨_, e, ?_⟩
  have : us.toArray[j] = u := by
    have z : us[j]? = some us[j] := List.getElem?_eq_getElem (by simpa using h)
    rw [z] at hu
    simpa using Option.some.inj hu
  rw [this]
  exact ru
theorem units_in1 {A : Around} : A.in1.units = A.units + 1 := rfl
/-- the comparison of two data, and of items that hold them -/
theorem eq_both (I : Inv X pins σ H s) : ∀ (n : Nat) (A : Around) (d e : Dt) (v v' : V) (u u' : Value), deepD d ≤ n → A.units + n < cLine → DR X.K H d v → DR X.K H e v' → RelV v u → RelV v' u' →
    RcAt A s u u' (eqD d e) ∧ EqAt A s u u' (eqD d e) := by
  intro n
  induction n with
  | zero =>
    intro A d e v v' u u' hn hu hd he r r'
    have hu' : A.units < cLine := by omega
    cases hd with
    | non =>
      cases r
      cases he with
      | non => cases r'; exact ⟨RcAt.none_none, EqAt.same _⟩
      | bl b => cases r'; exact ⟨RcAt.none_bool b, EqAt.none_bool b⟩
      | int b => obtain ⟨t, rfl⟩ := r'; exact ⟨RcAt.none_int b t, EqAt.none_int b t⟩
      | str b => obtain ⟨t, rfl⟩ := r'; exact ⟨RcAt.none_str b t, EqAt.none_str b t⟩
      | tup p q =>
        cases r'
        obtain ⟨its, _, ht, _⟩ := I.tuple p
        exact ⟨RcAt.none_tuple ht hu', EqAt.none_tuple ht hu'⟩
      | lst p q =>
        cases r'
        obtain ⟨its, _, ht, _⟩ := I.list p
        exact ⟨RcAt.none_list ht.isList hu', EqAt.none_list ht.isList hu'⟩
    | bl a =>
      cases r
      cases he with
      | non => cases r'; exact ⟨RcAt.bool_none a, EqAt.bool_none a⟩
      | bl b => cases r'; exact ⟨RcAt.bool_bool a b, EqAt.bool_bool a b⟩
      | int b => obtain ⟨t, rfl⟩ := r'; exact ⟨RcAt.bool_int a b t, EqAt.bool_int a b t⟩
      | str b => obtain ⟨t, rfl⟩ := r'; exact ⟨RcAt.bool_str a b t, EqAt.bool_str a b t⟩
      | tup p q =>
        cases r'
        obtain ⟨its, _, ht, _⟩ := I.tuple p
        exact ⟨RcAt.bool_tuple a ht hu', EqAt.bool_tuple a ht hu'⟩
      | lst p q =>
        cases r'
        obtain ⟨its, _, ht, _⟩ := I.list p
        exact ⟨RcAt.bool_list a ht.isList hu', EqAt.bool_list a ht.isList hu'⟩
    | int a =>
      obtain ⟨t0, rfl⟩ := r
      cases he with
      | non => cases r'; exact ⟨RcAt.int_none a t0, EqAt.int_none a t0⟩
      | bl b => cases r'; exact ⟨RcAt.int_bool a t0 b, EqAt.int_bool a t0 b⟩
      | int b => obtain ⟨t, rfl⟩ := r'; exact ⟨RcAt.int_int a t0 b t, EqAt.int_int a t0 b t⟩
      | str b => obtain ⟨t, rfl⟩ := r'; exact ⟨RcAt.int_str a t0 b t, EqAt.int_str a t0 b t⟩
      | tup p q =>
        cases r'
        obtain ⟨its, _, ht, _⟩ := I.tuple p
        exact ⟨RcAt.int_tuple a t0 ht hu', EqAt.int_tuple a t0 ht hu'⟩
      | lst p q =>
        cases r'
        obtain ⟨its, _, ht, _⟩ := I.list p
        exact ⟨RcAt.int_list a t0 ht.isList hu', EqAt.int_list a t0 ht.isList hu'⟩
    | str a =>
      obtain ⟨t0, rfl⟩ := r
      cases he with
      | non => cases r'; exact ⟨RcAt.str_none a t0, EqAt.str_none a t0⟩
      | bl b => cases r'; exact ⟨RcAt.str_bool a t0 b, EqAt.str_bool a t0 b⟩
      | int b => obtain ⟨t, rfl⟩ := r'; exact ⟨RcAt.str_int a t0 b t, EqAt.str_int a t0 b t⟩
      | str b => obtain ⟨t, rfl⟩ := r'; exact ⟨RcAt.str_str a t0 b t, EqAt.str_str a t0 b t⟩
      | tup p q =>
        cases r'
        obtain ⟨its, _, ht, _⟩ := I.tuple p
        exact ⟨RcAt.str_tuple a t0 ht hu', EqAt.str_tuple a t0 ht hu'⟩
      | lst p q =>
        cases r'
        obtain ⟨its, _, ht, _⟩ := I.list p
        exact ⟨RcAt.str_list a t0 ht.isList hu', EqAt.str_list a t0 ht.isList hu'⟩
    | tup p q => simp [deepD] at hn
    | lst p q => simp [deepD] at hn
  | succ n ih =>
    intro A d e v v' u u' hn hu hd he r r'
    by_cases h0 : deepD d ≤ n
    · exact ih A d e v v' u u' h0 (by omega) hd he r r'
    have hu' : A.units < cLine := by omega
    have items : ∀ {xs ys : List V} {ds es : List Dt} {its its2 : List Value}, deepDs ds ≤ n → DRs X.K H ds xs → DRs X.K H es ys → Vals xs its → Vals ys its2 →
        ∀ j (h1 : j < its.toArray.size) (h2 : j < its2.toArray.size), EqAt A.in1 s its.toArray[j] its2.toArray[j] (eqAtI ds es j) := fun {xs ys ds es its its2} hdd q q' rv rv' j h1 h2 => by
      obtain ⟨x, hx, rx⟩ := vals_at rv h1
      obtain ⟨y, hy, ry⟩ := vals_at rv' h2
      obtain ⟨dx, edx, rdx⟩ := q.at hx
      obtain ⟨dy, edy, rdy⟩ := q'.at hy
      have hdeep := deepDs_at edx
      have := (ih A.in1 dx dy x y _ _ (by omega) (by rw [units_in1]; omega) rdx rdy rx ry).2
      unfold eqAtI
      rw [edx, edy]
      exact this
    cases hd with
    | non => exact absurd (Nat.zero_le _) h0
    | bl _ => exact absurd (Nat.zero_le _) h0
    | int _ => exact absurd (Nat.zero_le _) h0
    | str _ => exact absurd (Nat.zero_le _) h0
    | @tup a xs ds p q =>
      cases r
      obtain ⟨its, rv, ht, _⟩ := I.tuple p
      cases he with
      | non => cases r'; exact ⟨RcAt.tuple_none ht hu', EqAt.tuple_none ht hu'⟩
      | bl b => cases r'; exact ⟨RcAt.tuple_bool b ht hu', EqAt.tuple_bool b ht hu'⟩
      | int b => obtain ⟨t, rfl⟩ := r'; exact ⟨RcAt.tuple_int b t ht hu', EqAt.tuple_int b t ht hu'⟩
      | str b => obtain ⟨t, rfl⟩ := r'; exact ⟨RcAt.tuple_str b t ht hu', EqAt.tuple_str b t ht hu'⟩
      | @tup b ys es p' q' =>
        cases r'
        obtain ⟨its2, rv2, ht2, _⟩ := I.tuple p'
        have hdd : deepDs ds ≤ n := by simp only [deepD] at hn; omega
        have e : ((List.range (min its.toArray.size its2.toArray.size)).all (eqAtI ds es) && its.toArray.size == its2.toArray.size) = eqD (.tup ds) (.tup es) := by
          simp only [eqD]
          rw [eqDs_all, q.len, q'.len, rv.length, rv2.length]
          simp
        have rc : RcAt A s (.ref a) (.ref b) (eqD (.tup ds) (.tup es)) := by
          rw [← e]
          exact RcAt.tuples ht ht2 hu' (items hdd q q' rv rv2)
        refine ⟨rc, ?_⟩
        by_cases hab : a = b
        · subst hab
          have ed : Dt.tup ds = Dt.tup es := DR.inj I (.tup p q) (.tup p' q')
          rw [← ed, eqD_refl]
          exact EqAt.same _
        · exact EqAt.of_refs hab rc
      | @lst b ys es p' q' =>
        cases r'
        obtain ⟨its2, _, ht2, _⟩ := I.list p'
        exact ⟨RcAt.tuple_list ht ht2.isList hu', EqAt.tuple_list ht ht2.isList hu'⟩
    | @lst a xs ds p q =>
      cases r
      obtain ⟨its, rv, ht, _⟩ := I.list p
      cases he with
      | non => cases r'; exact ⟨RcAt.list_none ht.isList hu', EqAt.list_none ht.isList hu'⟩
      | bl b => cases r'; exact ⟨RcAt.list_bool b ht.isList hu', EqAt.list_bool b ht.isList hu'⟩
      | int b => obtain ⟨t, rfl⟩ := r'; exact ⟨RcAt.list_int b t ht.isList hu', EqAt.list_int b t ht.isList hu'⟩
      | str b => obtain ⟨t, rfl⟩ := r'; exact ⟨RcAt.list_str b t ht.isList hu', EqAt.list_str b t ht.isList hu'⟩
      | @tup b ys es p' q' =>
        cases r'
        obtain ⟨its2, _, ht2, _⟩ := I.tuple p'
        exact ⟨RcAt.list_tuple ht.isList ht2 hu', EqAt.list_tuple ht.isList ht2 hu'⟩
      | @lst b ys es p' q' =>
        cases r'
        obtain ⟨its2, rv2, ht2, _⟩ := I.list p'
        have hdd : deepDs ds ≤ n := by simp only [deepD] at hn; omega
        have rc : RcAt A s (.ref a) (.ref b) (eqD (.lst ds) (.lst es)) := by
          simp only [eqD]
          rw [eqDs_all, q.len, q'.len, rv.length, rv2.length]
          by_cases hsz : its.length = its2.length
          · have e : ((List.range (min its.length its2.length)).all (eqAtI ds es) && its.length == its2.length) = (List.range its.toArray.size).all (eqAtI ds es) := by
              simp [hsz]
            rw [e]
            exact RcAt.lists ht.isList ht2.isList (by simpa using hsz) hu' (items hdd q q' rv rv2)
          · have e : ((List.range (min its.length its2.length)).all (eqAtI ds es) && its.length == its2.length) = false := by
              rw [beq_eq_false_iff_ne.mpr hsz, Bool.and_false]
            rw [e]
            exact RcAt.lists_lengths ht.isList ht2.isList (by simpa using hsz) hu'
        refine ⟨rc, ?_⟩
        by_cases hab : a = b
        · subst hab
          have ed : Dt.lst ds = Dt.lst es := DR.inj I (.lst p q) (.lst p' q')
          rw [← ed, eqD_refl]
          exact EqAt.same _
        · exact EqAt.of_refs hab rc
/-- x == y, data that hold data, at most n deep -/
theorem op_eq_deep {n : Nat} (hu : X.A.units + n < cLine) : OpR X (compareOp .Eq) (fun x y H Q => ∃ d e, DR X.K H d x ∧ DR X.K H e y ∧ deepD d ≤ n ∧ Q (.bl (eqD d e)) H) := by
  intro pins s σ H x y v u Q I rx ry h
  obtain ⟨d, e, hd, he, hn, q⟩ := h
  exact (eq_both I n X.A d e x y v u hn hu hd he rx ry).1 X.prog X.w X.xe _ ⟨.bl (eqD d e), H, I, rfl, q⟩
end
/-! ### trees as data -/
def Tre.dt : Tre → Dt
  | .bud => .non
  | .pair l r => .tup [l.dt, r.dt]
theorem TR.dr {K : PySem.W.Frag} {H : Hp} : ∀ {t : Tre} {v : V}, TR H t v → DR K H t.dt v
  | .bud, _, h => by
    obtain rfl : _ = V.non := h
    exact .non
  | .pair _ _, _, ⟨a, x, y, e, h, h1, h2⟩ => by
    subst e
    exact .tup (SqT.of h) (.cons (TR.dr h1) (.cons (TR.dr h2) .nil))
theorem Tre.dt_deep : ∀ t : Tre, deepD t.dt = t.deep
  | .bud => rfl
  | .pair l r => by
    simp only [Tre.dt, deepD, deepDs, Tre.deep, l.dt_deep, r.dt_deep]
    omega
end EE

namespace EE
open PySem PySem.Spec PyProof.Rows L2
/-! ### data made of tuples, ints, texts: every tuple of them is tracked -/
mutual
def DT (H : Hp) : Dt → V → Prop
  | .non, v => v = .non
  | .bl b, v => v = .bl b
  | .int i, v => v = .int i
  | .str x, v => v = .str x
  | .tup ds, v => ∃ a vs, v = .ref a ∧ H a = some (.tup vs) ∧ DTs H ds vs
  | .lst _, _ => False
def DTs (H : Hp) : List Dt → List V → Prop
  | [], vs => vs = []
  | d :: ds, vs => ∃ v r, vs = v :: r ∧ DT H d v ∧ DTs H ds r
end
mutual
theorem DT.mono {H H' : Hp} (s : Tk H H') : ∀ {d : Dt} {v : V}, DT H d v → DT H' d v
  | .non, _, h => h
  | .bl _, _, h => h
  | .int _, _, h => h
  | .str _, _, h => h
  | .tup _, _, h => by
    simp only [DT] at h ⊢
    obtain ⟨a, vs, e, h1, h2⟩ := h
    exact ⟨a, vs, e, s _ _ h1, DTs.mono s h2⟩
  | .lst _, _, h => by simp only [DT] at h
theorem DTs.mono {H H' : Hp} (s : Tk H H') : ∀ {ds : List Dt} {vs : List V}, DTs H ds vs → DTs H' ds vs
  | [], _, h => h
  | _ :: _, _, h => by
    simp only [DTs] at h ⊢
    obtain ⟨v, r, e, h1, h2⟩ := h
    exact ⟨v, r, e, DT.mono s h1, DTs.mono s h2⟩
end
mutual
theorem DT.dr {K : PySem.W.Frag} {H : Hp} : ∀ {d : Dt} {v : V}, DT H d v → DR K H d v
  | .non, _, h => by simp only [DT] at h; subst h; exact .non
  | .bl _, _, h => by simp only [DT] at h; subst h; exact .bl _
  | .int _, _, h => by simp only [DT] at h; subst h; exact .int _
  | .str _, _, h => by simp only [DT] at h; subst h; exact .str _
  | .tup _, _, h => by
    simp only [DT] at h
    obtain ⟨a, vs, e, h1, h2⟩ := h
    subst e
    exact .tup (SqT.of h1) (DTs.dr h2)
  | .lst _, _, h => by simp only [DT] at h
theorem DTs.dr {K : PySem.W.Frag} {H : Hp} : ∀ {ds : List Dt} {vs : List V}, DTs H ds vs → DRs K H ds vs
  | [], _, h => by simp only [DTs] at h; subst h; exact .nil
  | _ :: _, _, h => by
    simp only [DTs] at h
    obtain ⟨v, r, e, h1, h2⟩ := h
    subst e
    exact .cons (DT.dr h1) (DTs.dr h2)
end
theorem DTs.len {H : Hp} : ∀ {ds : List Dt} {vs : List V}, DTs H ds vs → ds.length = vs.length
  | [], _, h => by simp only [DTs] at h; subst h; rfl
  | _ :: ds, _, h => by
    simp only [DTs] at h
    obtain ⟨v, r, e, h1, h2⟩ := h
    subst e
    simp [DTs.len h2]
theorem DTs.at {H : Hp} : ∀ {ds : List Dt} {vs : List V} {i : Nat} {v : V}, DTs H ds vs → vs[i]? = some v → ∃ d, ds[i]? = some d ∧ DT H d v
  | [], _, _, _, h, e => by simp only [DTs] at h; subst h; simp at e
  | d :: ds, _, i, v, h, e => by
    simp only [DTs] at h
    obtain ⟨v0, r, e0, h1, h2⟩ := h
    subst e0
    cases i with
    | zero => simp at e; subst e; exact ⟨d, rfl, h1⟩
    | succ i =>
      obtain ⟨d', h3, h4⟩ := DTs.at h2 (i := i) (by simpa using e)
      exact ⟨d', by simpa using h3, h4⟩
theorem DTs.snoc {H : Hp} : ∀ {ds : List Dt} {vs : List V} {d : Dt} {v : V}, DTs H ds vs → DT H d v → DTs H (ds ++ [d]) (vs ++ [v])
  | [], _, d, v, h, h2 => by
    simp only [DTs] at h
    subst h
    simp only [List.nil_append, DTs]
    exact ⟨v, [], rfl, h2, rfl⟩
  | _ :: _, _, d, v, h, h2 => by
    simp only [DTs] at h
    obtain ⟨v0, r, e0, h1, h3⟩ := h
    subst e0
    simp only [List.cons_append, DTs]
    exact ⟨v0, _, rfl, h1, DTs.snoc h3 h2⟩
theorem DTs.strs {H : Hp} : ∀ {xs : List Str} {vs : List V}, DTs H (xs.map Dt.str) vs → vs = xs.map V.str
  | [], _, h => by simpa only [List.map_nil, DTs] using h
  | _ :: _, _, h => by
    simp only [List.map_cons, DTs, DT] at h
    obtain ⟨v0, r, e0, h1, h3⟩ := h
    subst e0
    subst h1
    rw [DTs.strs h3]
    rfl
end EE

namespace EE
open PySem PySem.Spec PyProof.Rows L2
/-! ### the text of a tree -/
def Tre.codes : Tre → List Nat
  | .bud => [45]
  | .pair l r => 91 :: (l.codes ++ 32 :: (r.codes ++ [93]))
def textOf (cs : List Nat) : Str := ⟨cs.toArray⟩
abbrev Tre.text (t : Tre) : Str := textOf t.codes
theorem textOf_len (cs : List Nat) : (textOf cs).length = cs.length := by simp [textOf, Str.length]
theorem textOf_cat (a b : List Nat) : textOf a ++ textOf b = textOf (a ++ b) := by
  show Str.append (textOf a) (textOf b) = textOf (a ++ b)
  simp [textOf, Str.append]
theorem Tre.codes_len : ∀ t : Tre, t.codes.length = 4 * t.size + 1
  | .bud => rfl
  | .pair l r => by
    simp only [Tre.codes, Tre.size, List.length_cons, List.length_append, List.length_nil, l.codes_len, r.codes_len]
    omega
theorem s_bud : ("-" : Str) = textOf [45] := by decide +kernel
theorem s_open : ("[" : Str) = textOf [91] := by decide +kernel
theorem s_shut : ("]" : Str) = textOf [93] := by decide +kernel
theorem s_blank : (" " : Str) = textOf [32] := by decide +kernel
theorem s_none : ("" : Str) = textOf [] := by decide +kernel
/-- texts of one sign each, put together -/
theorem join_signs_aux (cs : List Nat) : ∀ acc : Array Nat, (cs.map fun c => textOf [c]).foldl (fun a (p : Str) => a ++ (textOf []).cps ++ p.cps) acc = acc ++ cs.toArray := by
  induction cs with
  | nil => intro acc; simp
  | cons c r ih =>
    intro acc
    rw [List.map_cons, List.foldl_cons, ih]
    simp [textOf]
theorem join_signs (cs : List Nat) : Txt.join (textOf []) (cs.map fun c => textOf [c]) = textOf cs := by
  cases cs with
  | nil => rfl
  | cons c r =>
    show Builtin.Str.glued (textOf []) ((c :: r).map fun c => textOf [c]) = textOf (c :: r)
    unfold Builtin.Str.glued
    rw [List.map_cons, List.drop_one, List.tail_cons, join_signs_aux]
    simp [textOf]
theorem join_size (cs : List Nat) : ((cs.map fun c => textOf [c]).map (·.length)).sum = cs.length := by
  induction cs with
  | nil => rfl
  | cons c r ih => rw [List.map_cons, List.map_cons, List.sum_cons, ih, textOf_len]; simp; omega
/-- how often a sign stands in it -/
theorem cnt_count (c : Nat) : ∀ cs : List Nat, cnt c cs = (cs.count c : Nat)
  | [] => rfl
  | a :: r => by
    rw [cnt_cons, cnt_count c r, List.count_cons]
    by_cases h : a = c
    · simp [h]
      omega
    · simp [h]
theorem count_text (cs : List Nat) (c : Nat) : Txt.count (textOf cs) (textOf [c]) = (cs.count c : Nat) := by
  have h : Txt.count (textOf cs) ⟨#[c]⟩ = cnt c (textOf cs).cps.toList := count_is (textOf cs) c
  rw [cnt_count] at h
  simpa [textOf] using h
theorem Tre.count_shut : ∀ t : Tre, t.codes.count 93 = t.size
  | .bud => by simp [Tre.codes, Tre.size]
  | .pair l r => by
    simp only [Tre.codes, Tre.size, List.count_cons, List.count_append, List.count_nil, l.count_shut, r.count_shut]
    simp
    omega
/-- the guess: signs and a pile of trees, the last one in front -/
def pile2 : List Tre → Option (List Tre)
  | b :: a :: r => some (.pair a b :: r)
  | _ => none
def pile : List Nat → List Tre → List Tre
  | [], ts => ts
  | c :: cs, ts => if c = 45 then pile cs (.bud :: ts) else if c = 93 then (match pile2 ts with | some r => pile cs r | none => []) else pile cs ts
theorem pile_bud (cs : List Nat) (ts : List Tre) : pile (45 :: cs) ts = pile cs (.bud :: ts) := by rw [pile, if_pos rfl]
theorem pile_shut (cs : List Nat) (a b : Tre) (ts : List Tre) : pile (93 :: cs) (b :: a :: ts) = pile cs (.pair a b :: ts) := by rw [pile, if_neg (by decide), if_pos rfl]; rfl
theorem pile_other {c : Nat} (h1 : c ≠ 45) (h2 : c ≠ 93) (cs : List Nat) (ts : List Tre) : pile (c :: cs) ts = pile cs ts := by rw [pile, if_neg h1, if_neg h2]
theorem pile_shut_few {cs : List Nat} {ts : List Tre} {r : List Tre} (h : pile (93 :: cs) ts = r) (hr : r ≠ []) : ∃ a b q, ts = b :: a :: q ∧ pile cs (.pair a b :: q) = r := by
  rw [pile, if_neg (by decide), if_pos rfl] at h
  match ts, h with
  | [], h => exact absurd h.symm hr
  | [_], h => exact absurd h.symm hr
  | b :: a :: q, h => exact ⟨a, b, q, rfl, h⟩
theorem pile_tree : ∀ (t : Tre) (cs : List Nat) (ts : List Tre), pile (t.codes ++ cs) ts = pile cs (t :: ts)
  | .bud, cs, ts => by
    show pile (45 :: cs) ts = _
    exact pile_bud cs ts
  | .pair l r, cs, ts => by
    simp only [Tre.codes, List.cons_append, List.append_assoc, List.nil_append]
    rw [pile_other (by decide) (by decide), pile_tree l, pile_other (by decide) (by decide), pile_tree r, pile_shut]
end EE

namespace EE
open PySem PySem.Spec PyProof.Rows L2
/-- the signs of cs[lo:hi] -/
def cutT (cs : List Nat) (lo hi : Option Int) : List Nat := (cs.drop (HT.sIx cs.length 0 lo)).take (HT.sIx cs.length cs.length hi - HT.sIx cs.length 0 lo)
theorem idx_cut (lo hi : Option Int) (n : Nat) : Builtin.Str.strSliceIndices lo hi 1 n = sliceRange ((HT.sIx n 0 lo : Nat) : Int) ((HT.sIx n n hi : Nat) : Int) 1 := by
  have a : ∀ (i : Int) (d : Nat), max 0 (min (if i < 0 then i + (n : Int) else i) (n : Int)) = ((HT.sIx n d (some i) : Nat) : Int) := by
    intro i d
    simp only [HT.sIx]
    by_cases h : i < 0
    · simp only [h, if_true]; omega
    · simp only [h, if_false]; omega
  unfold Builtin.Str.strSliceIndices
  cases lo with
  | none =>
    cases hi with
    | none => rfl
    | some j =>
      show sliceRange (0 : Int) (max 0 (min (if j < 0 then j + (n : Int) else j) (n : Int))) 1 = _
      rw [a j n]
      rfl
  | some i =>
    cases hi with
    | none =>
      show sliceRange (max 0 (min (if i < 0 then i + (n : Int) else i) (n : Int))) (n : Int) 1 = _
      rw [a i 0]
      rfl
    | some j =>
      show sliceRange (max 0 (min (if i < 0 then i + (n : Int) else i) (n : Int))) (max 0 (min (if j < 0 then j + (n : Int) else j) (n : Int))) 1 = _
      rw [a i 0, a j n]
theorem slice_cut (x : Str) (lo hi : Option Int) : Txt.slice x lo hi = textOf (cutT x.cps.toList lo hi) := by
  have hl : x.cps.toList.length = x.length := by simp [Str.length]
  have l1 : HT.sIx x.length 0 lo ≤ x.length := HT.sIx_le _ _ (Nat.zero_le _) lo
  have l2 : HT.sIx x.length x.length hi ≤ x.length := HT.sIx_le _ _ (Nat.le_refl _) hi
  unfold Txt.slice cutT
  rw [idx_cut, sliceRange_one, hl, pick_run]
  by_cases h : ((1 : Int) == 1 && ((List.range (HT.sIx x.length x.length hi - HT.sIx x.length 0 lo)).map (HT.sIx x.length 0 lo + ·)).length == x.length) = true
  · rw [if_pos h]
    simp only [List.length_map, List.length_range, Bool.and_eq_true, beq_iff_eq] at h
    have h2 := h.2
    have e1 : HT.sIx x.length 0 lo = 0 := by omega
    have e2 : HT.sIx x.length x.length hi = x.length := by omega
    rw [e1, e2, List.drop_zero, Nat.sub_zero, ← hl, List.take_length]
    simp [textOf]
  · rw [if_neg h]
    rfl
def rSlS : V → Option Int → Option Int → Hp → VK → Prop := fun x lo hi H Q => ∃ z, x = .str z ∧ z.length ≤ sizeLine ∧ Q (.str (textOf (cutT z.cps.toList lo hi))) H
theorem sl_str {X : Cx} : SlR X rSlS := by
  intro pins s σ H x v vl vu lo hi sl Q I rx hs pl pu h
  obtain ⟨z, rfl, hz, q⟩ := h
  obtain ⟨t, rfl⟩ := rx
  refine ⟨"str", _, slot_str_getitem.lookup, typeIs_str s z t, ?_⟩
  have fin : ∀ t' k, EP X pins σ Q (.str (Txt.slice z lo hi) t') { s with toks := k } := fun t' k => ⟨.str _, H, I.tok _, ⟨_, rfl⟩, by rw [slice_cut]; exact q⟩
  have len : (Txt.slice z lo hi).length ≤ sizeLine := Nat.le_trans (Txt.slice_le z lo hi) hz
  obtain ⟨o, ho, hc, hd⟩ := hs
  cases pl with
  | none =>
    cases pu with
    | none => exact wpAny_getItem_str_slice (l := none) (u := none) (st := none) ⟨o, ho, hc, hd⟩ rfl (post_val_or_str ⟨len, fin⟩)
    | int j tj => exact wpAny_getItem_str_slice (l := none) (u := some (j, tj)) (st := none) ⟨o, ho, hc, hd⟩ rfl (post_val_or_str ⟨len, fin⟩)
  | int i ti =>
    cases pu with
    | none => exact wpAny_getItem_str_slice (l := some (i, ti)) (u := none) (st := none) ⟨o, ho, hc, hd⟩ rfl (post_val_or_str ⟨len, fin⟩)
    | int j tj => exact wpAny_getItem_str_slice (l := some (i, ti)) (u := some (j, tj)) (st := none) ⟨o, ho, hc, hd⟩ rfl (post_val_or_str ⟨len, fin⟩)
end EE

namespace EE
open PySem PySem.Spec PyProof.Rows L2
def clGo (env : Env) (acc : List (Str × Addr)) (y : Str × NameKind) : List (Str × Addr) := if y.2 == .free then (y.1, (env.cells.lookup y.1).getD 0) :: acc else acc
def clOf (scope : Scope) (env : Env) : List (Str × Addr) := scope.names.foldl (clGo env) []
theorem cl_sub {env : Env} : ∀ (names : List (Str × NameKind)) (acc : List (Str × Addr)), (∀ y ∈ names, y.2 = .free → ∃ c, env.cells.lookup y.1 = some c) → (∀ y c, acc.lookup y = some c → env.cells.lookup y = some c) →
    ∀ y c, (names.foldl (clGo env) acc).lookup y = some c → env.cells.lookup y = some c
  | [], acc, _, h, y, c, e => h y c e
  | (n, k) :: r, acc, hf, h, y, c, e => by
    rw [List.foldl_cons] at e
    refine cl_sub r _ (fun z hz => hf z (List.mem_cons_of_mem _ hz)) (fun y c e => ?_) y c e
    unfold clGo at e
    by_cases hk : k = .free
    · subst hk
      obtain ⟨c0, e0⟩ := hf _ List.mem_cons_self rfl
      have e0' : env.cells.lookup n = some c0 := e0
      simp only [beq_self_eq_true, if_true, e0', Option.getD_some, List.lookup_cons] at e
      by_cases hy : y = n
      · subst hy
        simp at e
        rw [← e]; exact e0'
      · have hb : (y == n) = false := by simpa using hy
        simp only [hb] at e
        exact h y c e
    · have hb : (k == NameKind.free) = false := by simpa using hk
      simp only [hb, Bool.false_eq_true, if_false] at e
      exact h y c e
/-- the names of a comprehension: x its own, M those of the def around it (osc: that def's scope) -/
structure CompScope (osc : Scope) (x : Str) (M : List Str) (scope : Scope) : Prop where
  kind : scope.kind = .function
  nocell : ∀ y ∈ scope.names, y.2 ≠ .cell
  names : ∀ y ∈ scope.names, y.2 = .local → scope.names.lookup y.1 = some .local
  own : scope.names.lookup x = some .local
  free : ∀ y ∈ scope.names, y.2 = .free → osc.names.lookup y.1 = some .cell
  nd : (x :: M).Nodup
  mine : ∀ y ∈ M, scope.names.lookup y = some .free
section
variable {X : Cx} {pins : List (Addr × Obj)} {σ : L2.St} {H : Hp} {s : Shared} {scope : Scope} {x : Str} {M : List Str} {js : List Nat} {C : Addr} {fp : List Addr}
theorem CompScope.cells (S : CompScope X.env.scope x M scope) (I : Inv X pins σ H s) : ∀ y ∈ scope.names, y.2 = .free → ∃ c, X.env.cells.lookup y.1 = some c := fun y hy hk => I.ok.has y.1 (.inl (S.free y hy hk))
theorem CompScope.sub (S : CompScope X.env.scope x M scope) (I : Inv X pins σ H s) {y : Str} {c : Addr} (e : (clOf scope X.env).lookup y = some c) : X.env.cells.lookup y = some c :=
  cl_sub scope.names [] (S.cells I) (fun _ _ h => by simp at h) y c e
end
section
variable {X : Cx} {elt iter : Expr} {x : Str} {px pos : Pos} {scope : Scope} {M : List Str} {js : List Nat} {wi : TI} {te : TE}
end
end EE

namespace EE
open PySem PySem.Spec PyProof.Rows L2
section
variable {X : Cx} {elt iter : Expr} {x : Str} {px pos : Pos} {scope osc : Scope} {M N : List Str} {js : List Nat} {wi : TI} {te : TE}
end
/-! ### all but one place as it was -/
def SameX (p : Addr) (H H' : Hp) : Prop := ∀ b o, H b = some o → b ≠ p → H' b = some o
theorem SameX.refl (p : Addr) (H : Hp) : SameX p H H := fun _ _ h _ => h
theorem SameX.trans {p : Addr} {H H1 H2 : Hp} (a : SameX p H H1) (b : SameX p H1 H2) : SameX p H H2 := fun c o h n => b c o (a c o h n) n
theorem _root_.L2.Same.x {H H' : Hp} (p : Addr) (s : Same H H') : SameX p H H' := fun b o h _ => s b o h
theorem SameX.upd {p : Addr} {H H' : Hp} {o : HO} (s : SameX p H H') : SameX p H (upd H' p o) := fun b u h n => by rw [upd_ne n]; exact s b u h n
theorem SameX.new {p q : Addr} {H H' : Hp} {o : HO} (s : SameX p H H') (hq : H q = none) : SameX p H (L2.upd H' q o) := fun b u h n => by rw [upd_ne (ne_of_none h hq)]; exact s b u h n
theorem SameX.tk {p : Addr} {H H' : Hp} {ys : List V} (s : SameX p H H') (h : H p = some (.lst ys)) : Tk H H' := fun b xs e => s b _ e (ne_of e h (by intro z; cases z))
/-- the script: frozen, or the module's own -/
def ScR (K : PySem.W.Frag) (H : Hp) (a : Addr) (xs : List V) : Prop := (∃ o, H a = some (.frz o (.lst xs))) ∨
    ∃ (o : Obj) (its : Array Value) (n : Nat), K.lookup a = some o ∧ o.cls = .type "list" ∧ o.dict = none ∧ o.data = .seq its n ∧ its.size ≤ sizeLine ∧ Vals xs its.toList
theorem ScR.sq {K : PySem.W.Frag} {H : Hp} {a : Addr} {xs : List V} (h : ScR K H a xs) : SqL K H a xs := by
  rcases h with ⟨o, h⟩ | h
  · exact .inl (.inr ⟨o, h⟩)
  · exact .inr h
theorem ScR.mono {K : PySem.W.Frag} {H H' : Hp} {a : Addr} {xs : List V} (h : ScR K H a xs) (s : ∀ o, H a = some o → H' a = some o) : ScR K H' a xs := by
  rcases h with ⟨o, h⟩ | h
  · exact .inl ⟨o, s _ h⟩
  · exact .inr h
theorem ScR.same {K : PySem.W.Frag} {H H' : Hp} {a : Addr} {xs : List V} (h : ScR K H a xs) (s : Same H H') : ScR K H' a xs := h.mono fun o e => s _ _ e
theorem ScR.of {K : PySem.W.Frag} {H : Hp} {a : Addr} {xs : List V} (h : SqL K H a xs) (o : Only H) : ScR K H a xs := by
  rcases h with (h | h) | h
  · rcases o a with e | ⟨ob, ys, e⟩
    · rw [e] at h; cases h
    · rw [e] at h; cases h
  · exact .inl h
  · exact .inr h
end EE

namespace EE
open PySem PySem.Spec PyProof.Rows L2
def IsRevT (h : Heap) (a l : Addr) (i : Int) : Prop := ∃ o, h.get? a = some o ∧ o.cls = .type "reversed" ∧ o.data = .fields #[.ref l, rawInt i]
theorem IsRevT.typeIs {s : Shared} {a l : Addr} {i : Int} (x : IsRevT s.heap a l i) : s.TypeIs (.ref a) "reversed" := let ⟨o, ho, hc, _⟩ := x; ⟨o, ho, hc⟩
section
variable {prog : Program} {w : World} {A : Around} {E : Value → Shared → Prop} {s : Shared}
end
end EE

namespace E3
open PySem PySem.Spec PyProof.Rows L2 EE
/-! ## pure tuples, lists and dicts by address, and a frame: what a piece of code does not name stays as it is -/
inductive D where
  | non | bl (b : Bool) | int (i : Int) | str (x : Str) | tup (xs : List D) | rol (xs : List D) | ref (a : Addr) | ty (n : String)
inductive O where
  | lst (xs : List D) | dic (kvs : List (Key × D)) | exc (C : Addr)
abbrev Hp3 := Addr → Option O
abbrev St3 := List (Option D)
abbrev K3 := D → Hp3 → Prop
abbrev X3 := Addr → Addr → Hp3 → Prop
/-- .. by the locals -/
abbrev W3T := St3 → X3
def up (S : Hp3) (a : Addr) (o : O) : Hp3 := fun b => if b = a then some o else S b
def emp : Hp3 := fun _ => none
theorem up_same {S : Hp3} {a : Addr} {o : O} : up S a o a = some o := if_pos rfl
theorem up_ne {S : Hp3} {a b : Addr} {o : O} (h : b ≠ a) : up S a o b = S b := if_neg h
theorem up_up {S : Hp3} {a : Addr} {o u : O} : up (up S a o) a u = up S a u := by
  funext b; unfold up; split <;> rfl
theorem ne3 {S : Hp3} {a b : Addr} {o : O} (h : S a = some o) (h' : S b = none) : a ≠ b := by
  intro e; subst e; rw [h] at h'; cases h'
theorem up_get {S : Hp3} {a b : Addr} {o u : O} (h : S b = some u) (h' : S a = none) : up S a o b = some u := by rw [up_ne (ne3 h h')]; exact h
/-- what is hidden, and the heap at the entry -/
structure Zt where
  p : Addr → Prop
  base : Hp
instance : CoeFun Zt (fun _ => Addr → Prop) := ⟨Zt.p⟩
/-- an exception's object -/
def ExcOf (a C : Addr) : Heap → Prop := fun h => ∃ o, h.get? a = some o ∧ o.cls = .ref C ∧ ∃ xs n, o.data = .fields xs ∧ n = xs.size
mutual
inductive Rp (K : PySem.W.Frag) (H : Hp) : D → V → Prop where
  | non : Rp K H .non .non
  | bl (b : Bool) : Rp K H (.bl b) (.bl b)
  | int (i : Int) : Rp K H (.int i) (.int i)
  | str (x : Str) : Rp K H (.str x) (.str x)
  | ref (a : Addr) : Rp K H (.ref a) (.ref a)
  | ty (n : String) : Rp K H (.ty n) (.ty n)
  | tup {a : Addr} {xs : List V} {ds : List D} : SqT K H a xs → Rps K H ds xs → Rp K H (.tup ds) (.ref a)
  | rol {a : Addr} {xs : List V} {ds : List D} : ScR K H a xs → Rps K H ds xs → Rp K H (.rol ds) (.ref a)
inductive Rps (K : PySem.W.Frag) (H : Hp) : List D → List V → Prop where
  | nil : Rps K H [] []
  | cons {d : D} {v : V} {ds : List D} {vs : List V} : Rp K H d v → Rps K H ds vs → Rps K H (d :: ds) (v :: vs)
end
/-- what stays: tuples, frozen things, and the hidden ones -/
structure Kp (Z : Zt) (H H' : Hp) : Prop where
  tup : ∀ b xs, H b = some (.tup xs) → H' b = some (.tup xs)
  frz : ∀ b o u, H b = some (.frz o u) → H' b = some (.frz o u)
  hid : ∀ b, Z b → H' b = H b
theorem Kp.refl (Z : Zt) (H : Hp) : Kp Z H H := ⟨fun _ _ h => h, fun _ _ _ h => h, fun _ _ => rfl⟩
theorem Kp.trans {Z : Zt} {H H1 H2 : Hp} (a : Kp Z H H1) (b : Kp Z H1 H2) : Kp Z H H2 :=
  ⟨fun c xs h => b.tup _ _ (a.tup _ _ h), fun c o u h => b.frz _ _ _ (a.frz _ _ _ h), fun c z => (b.hid c z).trans (a.hid c z)⟩
theorem Kp.sqT {K : PySem.W.Frag} {Z : Zt} {H H' : Hp} {a : Addr} {xs : List V} (k : Kp Z H H') (h : SqT K H a xs) : SqT K H' a xs := by
  rcases h with (h | ⟨o, h⟩) | h
  · exact .inl (.inl (k.tup _ _ h))
  · exact .inl (.inr ⟨o, k.frz _ _ _ h⟩)
  · exact .inr h
theorem Kp.scR {K : PySem.W.Frag} {Z : Zt} {H H' : Hp} {a : Addr} {xs : List V} (k : Kp Z H H') (h : ScR K H a xs) : ScR K H' a xs := by
  rcases h with ⟨o, h⟩ | h
  · exact .inl ⟨o, k.frz _ _ _ h⟩
  · exact .inr h
mutual
theorem Rp.mono {K : PySem.W.Frag} {Z : Zt} {H H' : Hp} (k : Kp Z H H') : ∀ {d : D} {v : V}, Rp K H d v → Rp K H' d v
  | _, _, .non => .non
  | _, _, .bl b => .bl b
  | _, _, .int i => .int i
  | _, _, .str x => .str x
  | _, _, .ref a => .ref a
  | _, _, .ty n => .ty n
  | _, _, .tup h r => .tup (k.sqT h) (Rps.mono k r)
  | _, _, .rol h r => .rol (k.scR h) (Rps.mono k r)
theorem Rps.mono {K : PySem.W.Frag} {Z : Zt} {H H' : Hp} (k : Kp Z H H') : ∀ {ds : List D} {vs : List V}, Rps K H ds vs → Rps K H' ds vs
  | _, _, .nil => .nil
  | _, _, .cons h r => .cons (Rp.mono k h) (Rps.mono k r)
end
section
variable {K : PySem.W.Frag} {H : Hp}
theorem Rps.len : ∀ {ds : List D} {vs : List V}, Rps K H ds vs → ds.length = vs.length
  | _, _, .nil => rfl
  | _, _, .cons _ r => by simp [Rps.len r]
theorem Rps.at : ∀ {ds : List D} {vs : List V} {i : Nat} {d : D}, Rps K H ds vs → ds[i]? = some d → ∃ v, vs[i]? = some v ∧ Rp K H d v
  | _, _, _, _, .nil, e => by simp at e
  | _, _, 0, _, .cons r _, e => by simp at e; subst e; exact ⟨_, rfl, r⟩
  | _, _, i + 1, d, .cons _ q, e => by
    obtain ⟨v, h1, h2⟩ := Rps.at (i := i) (d := d) q (by simpa using e)
    exact ⟨v, by simpa using h1, h2⟩
theorem Rps.append : ∀ {ds es : List D} {vs ws : List V}, Rps K H ds vs → Rps K H es ws → Rps K H (ds ++ es) (vs ++ ws)
  | _, _, _, _, .nil, s => s
  | _, _, _, _, .cons r t, s => .cons r (Rps.append t s)
theorem Rps.take : ∀ {ds : List D} {vs : List V} (n : Nat), Rps K H ds vs → Rps K H (ds.take n) (vs.take n)
  | _, _, 0, _ => .nil
  | _, _, _ + 1, .nil => .nil
  | _, _, n + 1, .cons r t => .cons r (Rps.take n t)
theorem Rps.drop : ∀ {ds : List D} {vs : List V} (n : Nat), Rps K H ds vs → Rps K H (ds.drop n) (vs.drop n)
  | _, _, 0, r => r
  | _, _, _ + 1, .nil => .nil
  | _, _, n + 1, .cons _ t => Rps.drop n t
theorem Rps.set {d : D} {v : V} (r : Rp K H d v) : ∀ {ds : List D} {vs : List V} (i : Nat), Rps K H ds vs → Rps K H (ds.set i d) (vs.set i v)
  | _, _, _, .nil => .nil
  | _, _, 0, .cons _ t => .cons r t
  | _, _, i + 1, .cons q t => .cons q (Rps.set r i t)
theorem Rps.snoc_inv : ∀ {ds : List D} {d : D} {vs : List V}, Rps K H (ds ++ [d]) vs → ∃ ws w, vs = ws ++ [w] ∧ Rps K H ds ws ∧ Rp K H d w
  | [], d, _, .cons r .nil => ⟨[], _, rfl, .nil, r⟩
  | _ :: ds, d, _, .cons r q => by
    obtain ⟨ws, w, rfl, a, b⟩ := Rps.snoc_inv (ds := ds) q
    exact ⟨_ :: ws, w, rfl, .cons r a, b⟩
theorem Rps.ints : ∀ (ns : List Int), Rps K H (ns.map D.int) (ns.map V.int)
  | [] => .nil
  | n :: ns => .cons (.int n) (Rps.ints ns)
theorem Rps.strs : ∀ {xs : List Str} {vs : List V}, Rps K H (xs.map D.str) vs → vs = xs.map V.str
  | [], _, .nil => rfl
  | _ :: xs, _, .cons (.str _) q => by rw [Rps.strs q]; rfl
end
/-- what stands at an address -/
def OR (K : PySem.W.Frag) (H : Hp) (a : Addr) : O → Prop
  | .lst ds => ∃ vs, H a = some (.lst vs) ∧ Rps K H ds vs
  | .dic kvs => ∃ ws, H a = some (.dK ws) ∧ Paired (fun (p : Key × D) (q : Key × V) => p.1 = q.1 ∧ Rp K H p.2 q.2) kvs ws
  | .exc C => H a = some (.ext (ExcOf a C))
/-- the heap bears S; the hidden ones Z are there, and not in S -/
structure Rl (K : PySem.W.Frag) (Z : Zt) (S : Hp3) (H : Hp) : Prop where
  obj : ∀ a o, S a = some o → OR K H a o
  hid : ∀ a, Z a → S a = none ∧ H a ≠ none
  old : Kp Z Z.base H
theorem OR.there {K : PySem.W.Frag} {H : Hp} {a : Addr} {o : O} (h : OR K H a o) : H a ≠ none := by
  cases o with
  | lst ds => obtain ⟨vs, e, _⟩ := h; rw [e]; simp
  | dic ds => obtain ⟨vs, e, _⟩ := h; rw [e]; simp
  | exc C => have e : H a = _ := h; rw [e]; simp
theorem OR.nofrz {K : PySem.W.Frag} {H : Hp} {a : Addr} {o : O} (h : OR K H a o) : (∀ xs, H a ≠ some (.tup xs)) ∧ ∀ q u, H a ≠ some (.frz q u) := by
  cases o with
  | lst ds => obtain ⟨vs, e, _⟩ := h; rw [e]; exact ⟨fun _ z => (nomatch z), fun _ _ z => (nomatch z)⟩
  | dic ds => obtain ⟨vs, e, _⟩ := h; rw [e]; exact ⟨fun _ z => (nomatch z), fun _ _ z => (nomatch z)⟩
  | exc C => have e : H a = _ := h; rw [e]; exact ⟨fun _ z => (nomatch z), fun _ _ z => (nomatch z)⟩
theorem Rl.fresh {K : PySem.W.Frag} {Z : Zt} {S : Hp3} {H : Hp} {p : Addr} (r : Rl K Z S H) (h : H p = none) : S p = none ∧ ¬ Z p := by
  constructor
  · cases e : S p with
    | none => rfl
    | some o => exact absurd h (r.obj p o e).there
  · exact fun z => (r.hid p z).2 h
/-- a write at an address of S, or at a new one -/
theorem Kp.new {Z : Zt} {H : Hp} {p : Addr} {o : HO} (h : H p = none) (hz : ¬ Z p) : Kp Z H (upd H p o) :=
  ⟨fun b xs e => by rw [upd_ne (ne_of_none e h)]; exact e, fun b q u e => by rw [upd_ne (ne_of_none e h)]; exact e, fun b z => upd_ne fun e => hz (e ▸ z)⟩
theorem Kp.at {K : PySem.W.Frag} {Z : Zt} {S : Hp3} {H : Hp} {p : Addr} {o : O} {q : HO} (r : Rl K Z S H) (h : S p = some o) : Kp Z H (upd H p q) := by
  have n := (r.obj p o h).nofrz
  refine ⟨fun b xs e => ?_, fun b q u e => ?_, fun b z => ?_⟩
  · rw [upd_ne]; exact e
    rintro rfl; exact n.1 _ e
  · rw [upd_ne]; exact e
    rintro rfl; exact n.2 _ _ e
  · rw [upd_ne]
    rintro rfl
    rw [(r.hid _ z).1] at h
    cases h
theorem OR.keep {K : PySem.W.Frag} {Z : Zt} {H H' : Hp} {a : Addr} {o : O} (h : OR K H a o) (k : Kp Z H H') (e : H' a = H a) : OR K H' a o := by
  cases o with
  | lst ds => obtain ⟨vs, h1, h2⟩ := h; exact ⟨vs, e.trans h1, h2.mono k⟩
  | dic ds => obtain ⟨vs, h1, h2⟩ := h; exact ⟨vs, e.trans h1, Paired.mapP h2 fun p q z => ⟨z.1, z.2.mono k⟩⟩
  | exc C => exact e.trans h
theorem Rl.put {K : PySem.W.Frag} {Z : Zt} {S : Hp3} {H : Hp} {p : Addr} {o : O} {q : HO} (r : Rl K Z S H) (k : Kp Z H (upd H p q)) (hz : ¬ Z p) (h : OR K (upd H p q) p o) : Rl K Z (up S p o) (upd H p q) := by
  refine ⟨fun b u e => ?_, fun b z => ?_, r.old.trans k⟩
  · by_cases hb : b = p
    · subst hb
      rw [up_same] at e
      cases e
      exact h
    · rw [up_ne hb] at e
      exact (r.obj b u e).keep k (upd_ne hb)
  · have hb : b ≠ p := fun e => hz (e ▸ z)
    rw [up_ne hb, upd_ne hb]
    exact r.hid b z
theorem Rl.notZ {K : PySem.W.Frag} {Z : Zt} {S : Hp3} {H : Hp} {p : Addr} {o : O} (r : Rl K Z S H) (h : S p = some o) : ¬ Z p := fun z => by
  rw [(r.hid _ z).1] at h
  cases h
/-- something untracked is laid -/
theorem Rl.lay {K : PySem.W.Frag} {Z : Zt} {S : Hp3} {H : Hp} {p : Addr} {q : HO} (r : Rl K Z S H) (h : H p = none) : Rl K Z S (upd H p q) := by
  obtain ⟨hs, hz⟩ := r.fresh h
  refine ⟨fun b u e => (r.obj b u e).keep (Kp.new h hz) (upd_ne (ne3 e hs)), fun b z => ?_, r.old.trans (Kp.new h hz)⟩
  have hb : b ≠ p := fun e => hz (e ▸ z)
  rw [upd_ne hb]
  exact r.hid b z
/-- locals -/
def RO (K : PySem.W.Frag) (H : Hp) (o : Option D) (p : Option V) : Prop := ∀ d, o = some d → ∃ v, p = some v ∧ Rp K H d v
abbrev SR (K : PySem.W.Frag) (H : Hp) : St3 → L2.St → Prop := Paired (RO K H)
theorem RO.mono {K : PySem.W.Frag} {Z : Zt} {H H' : Hp} (k : Kp Z H H') {o : Option D} {p : Option V} (h : RO K H o p) : RO K H' o p := fun d e => by
  obtain ⟨v, h1, h2⟩ := h d e
  exact ⟨v, h1, h2.mono k⟩
theorem SR.mono {K : PySem.W.Frag} {Z : Zt} {H H' : Hp} (k : Kp Z H H') {σ : St3} {τ : L2.St} (h : SR K H σ τ) : SR K H' σ τ := Paired.mapP h fun _ _ q => q.mono k
theorem SR.at {K : PySem.W.Frag} {H : Hp} : ∀ {σ : St3} {τ : L2.St} {i : Nat} {d : D}, SR K H σ τ → σ[i]? = some (some d) → ∃ v, τ[i]? = some (some v) ∧ Rp K H d v
  | _, _, _, _, .nil, e => by simp at e
  | _, _, 0, _, .cons r _, e => by
    simp at e
    obtain ⟨v, h1, h2⟩ := r _ e
    exact ⟨v, by simp [h1], h2⟩
  | _, _, i + 1, d, .cons _ q, e => by
    obtain ⟨v, h1, h2⟩ := SR.at (i := i) (d := d) q (by simpa using e)
    exact ⟨v, by simpa using h1, h2⟩
theorem SR.set {K : PySem.W.Frag} {H : Hp} {d : D} {v : V} (r : Rp K H d v) : ∀ {σ : St3} {τ : L2.St} (i : Nat), SR K H σ τ → SR K H (σ.set i (some d)) (τ.set i (some v))
  | _, _, _, .nil => .nil
  | _, _, 0, .cons _ t => .cons (fun e he => by cases he; exact ⟨v, rfl, r⟩) t
  | _, _, i + 1, .cons q t => .cons q (SR.set r i t)
theorem SR.ofRps {K : PySem.W.Frag} {H : Hp} : ∀ {ds : List D} {vs : List V}, Rps K H ds vs → SR K H (ds.map some) (vs.map some)
  | _, _, .nil => .nil
  | _, _, .cons r t => .cons (fun e he => by cases he; exact ⟨_, rfl, r⟩) (SR.ofRps t)
theorem SR.nones {K : PySem.W.Frag} {H : Hp} : ∀ n : Nat, SR K H (List.replicate n none) (List.replicate n none)
  | 0 => .nil
  | n + 1 => .cons (fun d e => by cases e) (SR.nones n)
theorem paired_append {α β : Type} {F : α → β → Prop} : ∀ {a b : List α} {c d : List β}, Paired F a c → Paired F b d → Paired F (a ++ b) (c ++ d)
  | _, _, _, _, .nil, s => s
  | _, _, _, _, .cons r t, s => .cons r (paired_append t s)
/-! ### the judgements -/
abbrev TE3 := St3 → Hp3 → K3 → Prop
abbrev TT3 := St3 → Hp3 → (Bool → Hp3 → Prop) → Prop
abbrev TA3 := St3 → Hp3 → (List D → Hp3 → Prop) → Prop
structure Ends3 where
  nx : St3 → Hp3 → Prop
  rt : K3
  bk : St3 → Hp3 → Prop := fun _ _ => False
  ct : St3 → Hp3 → Prop := fun _ _ => False
abbrev TS3 := Ends3 → St3 → Hp3 → Prop
section
variable (K : PySem.W.Frag) (Z : Zt)
/-- a wish about a value, carried down -/
def CK (H : Hp) (Q3 : K3) (Q : VK) : Prop := ∀ d S v H', Kp Z H H' → Rp K H' d v → Rl K Z S H' → Q3 d S → Q v H'
def CT (H : Hp) (Q3 : Bool → Hp3 → Prop) (Q : Bool → Hp → Prop) : Prop := ∀ b S H', Kp Z H H' → Rl K Z S H' → Q3 b S → Q b H'
def CA (H : Hp) (Q3 : List D → Hp3 → Prop) (Q : List V → Hp → Prop) : Prop := ∀ ds S vs H', Kp Z H H' → Rps K H' ds vs → Rl K Z S H' → Q3 ds S → Q vs H'
def CS (H : Hp) (Q3 : St3 → Hp3 → Prop) (Q : L2.St → Hp → Prop) : Prop := ∀ σ S τ H', Kp Z H H' → SR K H' σ τ → Rl K Z S H' → Q3 σ S → Q τ H'
structure CD (H : Hp) (D3 : Ends3) (D : Ends) : Prop where
  nx : CS K Z H D3.nx D.nx
  bk : CS K Z H D3.bk D.bk
  ct : CS K Z H D3.ct D.ct
  rt : CK K Z H D3.rt D.rt
def lE (t : TE3) : TE := fun τ H Q => ∃ σ S Q3, SR K H σ τ ∧ Rl K Z S H ∧ t σ S Q3 ∧ CK K Z H Q3 Q
def lT (t : TT3) : TT := fun τ H Q => ∃ σ S Q3, SR K H σ τ ∧ Rl K Z S H ∧ t σ S Q3 ∧ CT K Z H Q3 Q
def lA (t : TA3) : TA := fun τ H Q => ∃ σ S Q3, SR K H σ τ ∧ Rl K Z S H ∧ t σ S Q3 ∧ CA K Z H Q3 Q
def lS (t : TS3) : TS := fun D τ H => ∃ D3 σ S, SR K H σ τ ∧ Rl K Z S H ∧ t D3 σ S ∧ CD K Z H D3 D
end
variable {K : PySem.W.Frag} {Z : Zt}
theorem CK.mono {H H' : Hp} {Q3 : K3} {Q : VK} (k : Kp Z H H') (h : CK K Z H Q3 Q) : CK K Z H' Q3 Q := fun d S v H2 k2 => h d S v H2 (k.trans k2)
theorem CT.mono {H H' : Hp} {Q3 : Bool → Hp3 → Prop} {Q : Bool → Hp → Prop} (k : Kp Z H H') (h : CT K Z H Q3 Q) : CT K Z H' Q3 Q := fun d S H2 k2 => h d S H2 (k.trans k2)
theorem CA.mono {H H' : Hp} {Q3 : List D → Hp3 → Prop} {Q : List V → Hp → Prop} (k : Kp Z H H') (h : CA K Z H Q3 Q) : CA K Z H' Q3 Q := fun d S v H2 k2 => h d S v H2 (k.trans k2)
theorem CS.mono {H H' : Hp} {Q3 : St3 → Hp3 → Prop} {Q : L2.St → Hp → Prop} (k : Kp Z H H') (h : CS K Z H Q3 Q) : CS K Z H' Q3 Q := fun d S v H2 k2 => h d S v H2 (k.trans k2)
theorem CD.mono {H H' : Hp} {D3 : Ends3} {D : Ends} (k : Kp Z H H') (h : CD K Z H D3 D) : CD K Z H' D3 D := ⟨h.nx.mono k, h.bk.mono k, h.ct.mono k, h.rt.mono k⟩
/-- an exception in flight: its object, its class, its traceback -/
structure FlyT (h : Heap) (a C T : Addr) : Prop where
  ne : T ≠ a
  exc : ∃ oe vs a0, h.get? a = some oe ∧ oe.cls = .ref C ∧ oe.data = .fields vs ∧ vs[0]? = some a0 ∧ vs[1]? = some (.ref T)
  tb : ∃ oT ts, h.get? T = some oT ∧ oT.data = .fields ts ∧ ts[3]? = some .none
/-- an exception behind a call -/
def CX1 (P : Program) (w : World) : CXT := fun outer H s E e s' => ∃ (a C T : Addr) (H' : Hp), e = .ref a ∧ s'.os = s.os ∧ AllBare s'.gens ∧ Un (frs outer) [] H H' s.heap s'.heap ∧ HOk P w H' s'.heap ∧
  FlyT s'.heap a C T ∧ H' a = none ∧ H' T = none ∧ s.heap.get? a = none ∧ s.heap.get? T = none ∧ E (.ref C) (some a) H'
def PassesAt (CX : CXT) (X : Cx) (E : XK) (τ : L2.St) : Prop := ∀ (pins : List (Addr × Obj)) (H : Hp) (s : Shared) (e : Value) (s' : Shared), Inv X pins τ H s → CX X.stack H s E e s' → X.xe e s'
/-- an exception just made -/
def RaisesAt (X : Cx) (E : XK) (τ : L2.St) : Prop := ∀ (pins : List (Addr × Obj)) (H : Hp) (s s3 : Shared) (e C : Addr) (args : List Value), Inv X pins τ H s → Heap.MadeExcOf s.heap s3.heap e (.ref C) args → s3.os = s.os → s3.gens = s.gens → E (.ref C) (some e) H → X.xe (.ref e) s3
theorem pass1 {P : Program} {w : World} {X : Cx} {τ : L2.St} : PassesAt (CX1 P w) X E0 τ := fun _ _ _ _ _ _ h => by
  obtain ⟨a, C, T, H', _, _, _, _, _, _, _, _, _, _, z⟩ := h
  exact z.elim
abbrev NoX : W3T := fun _ _ _ _ => False
def CE3 (K : PySem.W.Frag) (Z : Zt) (H : Hp) (W3 : X3) (E : XK) : Prop := ∀ C a S H', Kp Z H H' → Rl K Z S H' → H' a = none → W3 C a S → E (.ref C) (some a) H'
theorem CE3.mono {H H' : Hp} {W3 : X3} {E : XK} (k : Kp Z H H') (h : CE3 K Z H W3 E) : CE3 K Z H' W3 E := fun C a S H2 k2 => h C a S H2 (k.trans k2)
/-- .. as a context takes it -/
structure ZX (X : Cx) (W3 : W3T) where
  z : Zt
  E : L2.St → XK
  pass : ∀ τ, PassesAt (CX1 X.prog X.w) X (E τ) τ
  rz : ∀ τ, RaisesAt X (E τ) τ
  ce : ∀ σ τ C a S H, SR X.K H σ τ → Rl X.K z S H → H a = none → W3 σ C a S → E τ (.ref C) (some a) H
def ZX.no (X : Cx) (z : Zt) : ZX X NoX := ⟨z, fun _ => E0, fun _ => pass1, fun _ _ _ _ _ _ _ _ _ _ _ _ z => z.elim, fun _ _ _ _ _ _ _ _ _ z => z.elim⟩
def PE3 (X : Cx) (W3 : W3T) (e : Expr) (t : TE3) : Prop := ∀ Z : ZX X W3, PE X e (lE X.K Z.z t)
def PT3 (X : Cx) (W3 : W3T) (e : Expr) (t : TT3) : Prop := ∀ Z : ZX X W3, PT X e (lT X.K Z.z t)
def PW3 (X : Cx) (W3 : W3T) (e : Expr) (t : TT3) : Prop := ∀ Z : ZX X W3, PW X e (lT X.K Z.z t)
def PA3 (X : Cx) (W3 : W3T) (es : List Expr) (t : TA3) : Prop := ∀ Z : ZX X W3, PA X es (lA X.K Z.z t)
def PS3 (X : Cx) (W3 : W3T) (st : Stmt) (t : TS3) : Prop := ∀ Z : ZX X W3, PS X st (lS X.K Z.z t)
def PSs3 (X : Cx) (W3 : W3T) (st : List Stmt) (t : TS3) : Prop := ∀ Z : ZX X W3, PSs X st (lS X.K Z.z t)
theorem PE.imp {X : Cx} {e : Expr} {t u : TE} (h : PE X e t) (f : ∀ σ H Q, u σ H Q → t σ H Q) : PE X e u := fun pins s σ H Q I q => h pins s σ H Q I (f _ _ _ q)
theorem PT.imp {X : Cx} {e : Expr} {t u : TT} (h : PT X e t) (f : ∀ σ H Q, u σ H Q → t σ H Q) : PT X e u := fun pins s σ H Q I q => h pins s σ H Q I (f _ _ _ q)
theorem PW.imp {X : Cx} {e : Expr} {t u : TT} (h : PW X e t) (f : ∀ σ H Q, u σ H Q → t σ H Q) : PW X e u := fun w pins s σ H Q I q => h w pins s σ H Q I (f _ _ _ q)
theorem PA.imp {X : Cx} {e : List Expr} {t u : TA} (h : PA X e t) (f : ∀ σ H Q, u σ H Q → t σ H Q) : PA X e u := fun p pins s σ H Q I q => h p pins s σ H Q I (f _ _ _ q)
theorem PS.imp {X : Cx} {st : Stmt} {t u : TS} (h : PS X st t) (f : ∀ D σ H, u D σ H → t D σ H) : PS X st u := fun pins s σ H D I q => h pins s σ H D I (f _ _ _ q)
theorem PSs.imp {X : Cx} {st : List Stmt} {t u : TS} (h : PSs X st t) (f : ∀ D σ H, u D σ H → t D σ H) : PSs X st u := fun pins s σ H D I q => h pins s σ H D I (f _ _ _ q)
end E3

namespace E3
open PySem PySem.Spec PyProof.Rows L2 EE
/-! ### rules: expressions -/
section
variable {X : Cx} {W3 : W3T} {a b c e : Expr} {es : List Expr} {pos : Pos}
def v3 (i : Nat) : TE3 := fun σ S Q => ∃ d, σ[i]? = some (some d) ∧ Q d S
def c3 (d : D) : TE3 := fun _ S Q => Q d S
theorem e_var {i : Nat} (h : PE X e (tVar i)) : PE3 X W3 e (v3 i) := fun Z => PE.imp h fun τ H Q ⟨σ, S, Q3, hs, hr, ⟨d, e, q⟩, c⟩ => by
  obtain ⟨v, h1, h2⟩ := hs.at e
  exact ⟨v, h1, c d S v H (Kp.refl _ _) h2 hr q⟩
theorem e_v (i : Nat) {x : Str} {pos : Pos} (hN : X.N[i]? = some x := by rfl) (hv : Vis X.env.scope x := by first | exact Or.inl rfl | exact Or.inr (Or.inl rfl) | exact Or.inr (Or.inr rfl)) (hd : (x == ("__debug__" : Str)) = false := by decide)
    (hcd : (x == ("__classdict__" : Str)) = false := by decide) : PE3 X W3 (.Name x pos) (v3 i) := e_var (pe_var hN hv hd hcd)
theorem e_con {v : V} {d : D} (h : PE X e (tC v)) (r : ∀ H, Rp X.K H d v) : PE3 X W3 e (c3 d) := fun Z => PE.imp h fun τ H Q ⟨σ, S, Q3, hs, hr, q, c⟩ => c d S v H (Kp.refl _ _) (r H) hr q
theorem e_int {i j} : PE3 X W3 (.Constant (.int i) j pos) (c3 (.int i)) := e_con pe_int fun _ => .int _
theorem e_bl {b j} : PE3 X W3 (.Constant (.bool b) j pos) (c3 (.bl b)) := e_con pe_bl fun _ => .bl _
theorem e_non {j} : PE3 X W3 (.Constant .none j pos) (c3 .non) := e_con pe_non fun _ => .non
theorem e_str {x j} : PE3 X W3 (.Constant (.str x) j pos) (c3 (.str x)) := e_con pe_str fun _ => .str _
theorem e_bltn {x : Str} {n : String} (hg : Gl X x) (hm : X.mg x = none) (hv : bootBuiltins x = some (.type n)) (hn : x ≠ "__name__" := by decide) (hd : (x == ("__debug__" : Str)) = false := by decide) : PE3 X W3 (.Name x pos) (c3 (.ty n)) :=
  e_con (pe_bltn (v := .ty n) hg hm hv rfl hn hd) fun _ => .ty _
theorem e_globI {x : Str} {i : Int} (h : ∃ t, X.mg x = some (.int i t)) (hg : Gl X x) (hd : (x == ("__debug__" : Str)) = false := by decide) : PE3 X W3 (.Name x pos) (c3 (.int i)) :=
  e_con (pe_globI h hg hd) fun _ => .int _
theorem e_globC {x : Str} {C : Addr} (h : X.mg x = some (.ref C)) (hg : Gl X x) (hd : (x == ("__debug__" : Str)) = false := by decide) : PE3 X W3 (.Name x pos) (c3 (.ref C)) :=
  e_con (pe_glob (v := .ref C) hg h rfl hd) fun _ => .ref _
/-! two values -/
abbrev R3 := D → D → Hp3 → K3 → Prop
def Dn2 (K : PySem.W.Frag) (r3 : R3) (r : R2) : Prop := ∀ (Z : Zt) x y S Q3 v w H Q, Rp K H x v → Rp K H y w → Rl K Z S H → r3 x y S Q3 → CK K Z H Q3 Q → r v w H Q
def o3 (r : R3) (ta tb : TE3) : TE3 := fun σ S Q => ta σ S fun x S1 => tb σ S1 fun y S2 => r x y S2 Q
def test3 (t : TE3) : TT3 := fun σ S Q => t σ S fun x S' => ∃ k, x = .bl k ∧ Q k S'
variable {ta tb tc : TE3} {tA tB : TT3} {t : TA3}
theorem op_down {K : PySem.W.Frag} {Z : Zt} {r3 : R3} {r : R2} (hd : Dn2 K r3 r) {τ : L2.St} {H : Hp} {Q : VK} (h : lE K Z (o3 r3 ta tb) τ H Q) : tOp r (lE K Z ta) (lE K Z tb) τ H Q := by
  obtain ⟨σ, S, Q3, hs, hr, ht, hc⟩ := h
  refine ⟨σ, S, _, hs, hr, ht, fun x S1 v H1 k1 r1 l1 q1 => ?_⟩
  refine ⟨σ, S1, _, hs.mono k1, l1, q1, fun y S2 w H2 k2 r2 l2 q2 => ?_⟩
  exact hd Z x y S2 Q3 v w H2 Q (r1.mono k2) r2 l2 q2 (hc.mono (k1.trans k2))
theorem e_op {op : Operator} {r3 : R3} {r : R2} (ho : OpR X (binaryOp op) r) (hd : Dn2 X.K r3 r) (ha : PE3 X W3 a ta) (hb : PE3 X W3 b tb) : PE3 X W3 (.BinOp a op b pos) (o3 r3 ta tb) :=
  fun Z => PE.imp (pe_op ho (ha Z) (hb Z)) fun _ _ _ h => op_down hd h
theorem e_cmp {op : CmpOp} {r3 : R3} {r : R2} (ho : OpR X (compareOp op) r) (hd : Dn2 X.K r3 r) (ha : PE3 X W3 a ta) (hb : PE3 X W3 b tb) (hm : behindInMarks op b = false) : PE3 X W3 (.Compare a [op] [b] pos) (o3 r3 ta tb) :=
  fun Z => PE.imp (pe_cmpR ho (ha Z) (hb Z) hm) fun _ _ _ h => op_down hd h
theorem test_down {K : PySem.W.Frag} {Z : Zt} {t3 : TE3} {t2 : TE} (hd : ∀ τ H Q, lE K Z t3 τ H Q → t2 τ H Q) {τ : L2.St} {H : Hp} {Q : Bool → Hp → Prop} (h : lT K Z (test3 t3) τ H Q) : tTest t2 τ H Q := by
  obtain ⟨σ, S, Q3, hs, hr, ht, hc⟩ := h
  refine hd τ H _ ⟨σ, S, _, hs, hr, ht, fun x S1 v H1 k1 r1 l1 q1 => ?_⟩
  obtain ⟨k, rfl, q⟩ := q1
  cases r1
  exact ⟨k, rfl, hc k S1 H1 k1 l1 q⟩
theorem t_cmp {op : CmpOp} {r3 : R3} {r : R2} (ho : OpR X (compareOp op) r) (hd : Dn2 X.K r3 r) (ha : PE3 X W3 a ta) (hb : PE3 X W3 b tb) (hm : behindInMarks op b = false) : PT3 X W3 (.Compare a [op] [b] pos) (test3 (o3 r3 ta tb)) :=
  fun Z => PT.imp (pt_cmpR ho (ha Z) (hb Z) hm) fun _ _ _ h => test_down (fun _ _ _ h => op_down hd h) h
theorem e_ix {r3 : R3} {r : R2} (ho : IxR X r) (hd : Dn2 X.K r3 r) (ha : PE3 X W3 a ta) (hb : PE3 X W3 b tb) (hs : PlainIx b) : PE3 X W3 (.Subscript a b pos) (o3 r3 ta tb) :=
  fun Z => PE.imp (pe_ix ho (ha Z) (hb Z) hs) fun _ _ _ h => op_down hd h
theorem t_val (h : PE3 X W3 e ta) (he : ∀ whole, isTrue e X.env whole = (do let v ← whole; standAt e.pos; holding [v] (truthy v)) := by intro _; rfl) : PT3 X W3 e (test3 ta) :=
  fun Z => PT.imp (pt_val (h Z) he) fun _ _ _ q => test_down (t2 := lE X.K Z.z ta) (fun _ _ _ z => z) q
def u3 (r : D → Hp3 → K3 → Prop) (ta : TE3) : TE3 := fun σ S Q => ta σ S fun x S1 => r x S1 Q
theorem e_neg (ha : PE3 X W3 a ta) : PE3 X W3 (.UnaryOp .USub a pos) (u3 (fun x S Q => ∃ i, x = .int i ∧ Q (.int (-i)) S) ta) := fun Z => PE.imp (pe_un un_neg (ha Z)) fun τ H Q ⟨σ, S, Q3, hs, hr, ht, hc⟩ => by
  refine ⟨σ, S, _, hs, hr, ht, fun x S1 v H1 k1 r1 l1 q1 => ?_⟩
  obtain ⟨i, rfl, q⟩ := q1
  cases r1
  exact ⟨i, rfl, hc _ S1 _ H1 k1 (.int _) l1 q⟩
/-! and, or, not, if-else -/
def and3 (t u : TT3) : TT3 := fun σ S Q => t σ S fun c S1 => if c = true then u σ S1 Q else Q false S1
def or3 (t u : TT3) : TT3 := fun σ S Q => t σ S fun c S1 => if c = true then Q true S1 else u σ S1 Q
def not3 (t : TT3) : TT3 := fun σ S Q => t σ S fun c S1 => Q (!c) S1
def andv3 (ta tb : TE3) : TE3 := fun σ S Q => ta σ S fun x S1 => ∃ c, x = .bl c ∧ if c = true then tb σ S1 Q else Q (.bl false) S1
def orv3 (ta tb : TE3) : TE3 := fun σ S Q => ta σ S fun x S1 => ∃ c, x = .bl c ∧ if c = true then Q (.bl true) S1 else tb σ S1 Q
def notv3 (ta : TE3) : TE3 := fun σ S Q => ta σ S fun x S1 => ∃ c, x = .bl c ∧ Q (.bl (!c)) S1
def if3 (t : TT3) (ta tb : TE3) : TE3 := fun σ S Q => t σ S fun c S1 => if c = true then ta σ S1 Q else tb σ S1 Q
variable {rest : List Expr}
theorem w_and1 (ha : PT3 X W3 a tA) : PW3 X W3 (.BoolOp .And [a] pos) tA := fun Z => pw_and1 (ha Z)
theorem w_or1 (ha : PT3 X W3 a tA) : PW3 X W3 (.BoolOp .Or [a] pos) tA := fun Z => pw_or1 (ha Z)
theorem w_and (ha : PT3 X W3 a tA) (hb : PW3 X W3 (.BoolOp .And (b :: rest) pos) tB) : PW3 X W3 (.BoolOp .And (a :: b :: rest) pos) (and3 tA tB) := fun Z => PW.imp (pw_and (ha Z) (hb Z)) fun τ H Q ⟨σ, S, Q3, hs, hr, ht, hc⟩ => by
  refine ⟨σ, S, _, hs, hr, ht, fun c S1 H1 k1 l1 q1 => ?_⟩
  cases c with
  | true => exact ⟨σ, S1, Q3, hs.mono k1, l1, q1, hc.mono k1⟩
  | false => exact hc false S1 H1 k1 l1 q1
theorem w_or (ha : PT3 X W3 a tA) (hb : PW3 X W3 (.BoolOp .Or (b :: rest) pos) tB) : PW3 X W3 (.BoolOp .Or (a :: b :: rest) pos) (or3 tA tB) := fun Z => PW.imp (pw_or (ha Z) (hb Z)) fun τ H Q ⟨σ, S, Q3, hs, hr, ht, hc⟩ => by
  refine ⟨σ, S, _, hs, hr, ht, fun c S1 H1 k1 l1 q1 => ?_⟩
  cases c with
  | true => exact hc true S1 H1 k1 l1 q1
  | false => exact ⟨σ, S1, Q3, hs.mono k1, l1, q1, hc.mono k1⟩
theorem PW3.pt (h : PW3 X W3 e tA) : PT3 X W3 e tA := fun Z => (h Z).pt
theorem t_not (ha : PT3 X W3 a tA) : PT3 X W3 (.UnaryOp .Not a pos) (not3 tA) := fun Z => PT.imp (pt_not (ha Z)) fun τ H Q ⟨σ, S, Q3, hs, hr, ht, hc⟩ => ⟨σ, S, _, hs, hr, ht, fun c S1 H1 k1 l1 q1 => hc (!c) S1 H1 k1 l1 q1⟩
theorem e_one {op} (h : PE3 X W3 a ta) : PE3 X W3 (.BoolOp op [a] pos) ta := fun Z => pe_one (h Z)
theorem e_and (ha : PE3 X W3 a ta) (hb : PE3 X W3 (.BoolOp .And (b :: rest) pos) tb) : PE3 X W3 (.BoolOp .And (a :: b :: rest) pos) (andv3 ta tb) := fun Z => PE.imp (pe_and (ha Z) (hb Z)) fun τ H Q ⟨σ, S, Q3, hs, hr, ht, hc⟩ => by
  refine ⟨σ, S, _, hs, hr, ht, fun x S1 v H1 k1 r1 l1 q1 => ?_⟩
  obtain ⟨c, rfl, q1⟩ := q1
  cases r1
  refine ⟨c, rfl, ?_⟩
  cases c with
  | true => exact ⟨σ, S1, Q3, hs.mono k1, l1, q1, hc.mono k1⟩
  | false => exact hc _ S1 _ H1 k1 (.bl _) l1 q1
theorem e_not (ha : PE3 X W3 a ta) : PE3 X W3 (.UnaryOp .Not a pos) (notv3 ta) := fun Z => PE.imp (pe_not (ha Z)) fun τ H Q ⟨σ, S, Q3, hs, hr, ht, hc⟩ => by
  refine ⟨σ, S, _, hs, hr, ht, fun x S1 v H1 k1 r1 l1 q1 => ?_⟩
  obtain ⟨c, rfl, q1⟩ := q1
  cases r1
  exact ⟨c, rfl, hc _ S1 _ H1 k1 (.bl _) l1 q1⟩
/-! truth -/
def IsL (S : Hp3) (x : D) (ds : List D) : Prop := (∃ a, x = .ref a ∧ S a = some (.lst ds)) ∨ x = .rol ds
theorem IsL.down {K : PySem.W.Frag} {Z : Zt} {S : Hp3} {H : Hp} {x : D} {ds : List D} {v : V} (h : IsL S x ds) (r : Rp K H x v) (l : Rl K Z S H) : ∃ a vs, v = .ref a ∧ SqL K H a vs ∧ Rps K H ds vs := by
  rcases h with ⟨a, rfl, e⟩ | rfl
  · cases r
    obtain ⟨vs, h1, h2⟩ := l.obj a _ e
    exact ⟨a, vs, rfl, SqL.of h1, h2⟩
  · cases r with
    | rol h1 h2 => exact ⟨_, _, rfl, h1.sq, h2⟩
def Tru (S : Hp3) : D → Bool → Prop
  | .non, k => k = false
  | .bl b, k => k = b
  | .int i, k => k = (i != 0)
  | .str y, k => y.length ≤ sizeLine ∧ k = ((y.length : Int) != 0)
  | .tup ds, k => k = !ds.isEmpty
  | .rol ds, k => k = !ds.isEmpty
  | .ref a, k => (∃ ds, S a = some (.lst ds) ∧ k = !ds.isEmpty) ∨ ∃ kvs, S a = some (.dic kvs) ∧ k = !kvs.isEmpty
  | .ty _, _ => False
theorem Rps.empty {K : PySem.W.Frag} {H : Hp} {ds : List D} {vs : List V} (r : Rps K H ds vs) : ds.isEmpty = vs.isEmpty := by cases r <;> rfl
theorem Tru.down {K : PySem.W.Frag} {Z : Zt} {S : Hp3} {H : Hp} {x : D} {v : V} {k : Bool} (h : Tru S x k) (r : Rp K H x v) (l : Rl K Z S H) : TruV K v H k := by
  cases r with
  | non => exact h
  | bl b => exact h
  | int i => exact h
  | str x => exact h
  | ty n => exact h
  | tup h1 h2 => exact .inr (.inl ⟨_, h1, by rw [← h2.empty]; exact h⟩)
  | rol h1 h2 => exact .inl ⟨_, h1.sq, by rw [← h2.empty]; exact h⟩
  | ref a =>
    rcases h with ⟨ds, e, q⟩ | ⟨kvs, e, q⟩
    · obtain ⟨vs, h1, h2⟩ := l.obj a _ e
      exact .inl ⟨vs, SqL.of h1, by rw [← h2.empty]; exact q⟩
    · obtain ⟨ws, h1, h2⟩ := l.obj a _ e
      refine .inr (.inr ⟨ws, h1, ?_⟩)
      cases h2 <;> exact q
def truth3 (ta : TE3) : TT3 := fun σ S Q => ta σ S fun x S1 => ∃ k, Tru S1 x k ∧ Q k S1
theorem t_truth (ha : PE3 X W3 a ta) (he : ∀ whole, isTrue a X.env whole = (do let v ← whole; standAt a.pos; holding [v] (truthy v))) : PT3 X W3 a (truth3 ta) := fun Z => PT.imp (pt_truth (ha Z) he) fun τ H Q ⟨σ, S, Q3, hs, hr, ht, hc⟩ => by
  refine ⟨σ, S, _, hs, hr, ht, fun x S1 v H1 k1 r1 l1 q1 => ?_⟩
  obtain ⟨k, h, q⟩ := q1
  exact ⟨k, h.down r1 l1, hc k S1 H1 k1 l1 q⟩
/-! argument lists and displays -/
def nil3 : TA3 := fun _ S Q => Q [] S
def cons3 (ta : TE3) (tr : TA3) : TA3 := fun σ S Q => ta σ S fun x S1 => tr σ S1 fun xs S2 => Q (x :: xs) S2
theorem a_nil : PA3 X W3 [] nil3 := fun Z => PA.imp pa_nil fun τ H Q ⟨σ, S, Q3, hs, hr, ht, hc⟩ => hc [] S [] H (Kp.refl _ _) .nil hr ht
theorem a_cons (ha : PE3 X W3 e ta) (hr : PA3 X W3 es t) (hs : starEach (e :: es) X.env = (false, eval e X.env) :: starEach es X.env := by rfl) : PA3 X W3 (e :: es) (cons3 ta t) := fun Z => PA.imp (pa_cons (ha Z) (hr Z) hs) fun τ H Q ⟨σ, S, Q3, hs, hr, ht, hc⟩ => by
  refine ⟨σ, S, _, hs, hr, ht, fun x S1 v H1 k1 r1 l1 q1 => ?_⟩
  exact ⟨σ, S1, _, hs.mono k1, l1, q1, fun xs S2 vs H2 k2 r2 l2 q2 => hc (x :: xs) S2 (v :: vs) H2 (k1.trans k2) (.cons (r1.mono k2) r2) l2 q2⟩
/-- a new list -/
def newL (S : Hp3) (ds : List D) (Q : K3) : Prop := ∀ p, S p = none → Q (.ref p) (up S p (.lst ds))
theorem newL.down {K : PySem.W.Frag} {Z : Zt} {S : Hp3} {H : Hp} {ds : List D} {vs : List V} {Q3 : K3} {Q : VK} (h : newL S ds Q3) (r : Rps K H ds vs) (l : Rl K Z S H) (c : CK K Z H Q3 Q) : ∀ p, H p = none → Q (.ref p) (upd H p (.lst vs)) := fun p hp => by
  obtain ⟨hs, hz⟩ := l.fresh hp
  have k := Kp.new (o := HO.lst vs) hp hz
  exact c _ _ _ _ k (.ref p) (l.put (o := .lst ds) k hz ⟨vs, upd_same, r.mono k⟩) (h p hs)
theorem tup.down {K : PySem.W.Frag} {Z : Zt} {S : Hp3} {H : Hp} {ds : List D} {vs : List V} {Q3 : K3} {Q : VK} (h : Q3 (.tup ds) S) (r : Rps K H ds vs) (l : Rl K Z S H) (c : CK K Z H Q3 Q) : ∀ p, H p = none → Q (.ref p) (upd H p (.tup vs)) := fun p hp => by
  obtain ⟨hs, hz⟩ := l.fresh hp
  have k := Kp.new (o := HO.tup vs) hp hz
  exact c _ _ _ _ k (.tup (SqT.of upd_same) (r.mono k)) (l.lay hp) h
def tup3 (t : TA3) : TE3 := fun σ S Q => t σ S fun xs S1 => xs.length ≤ sizeLine ∧ Q (.tup xs) S1
def lst3 (t : TA3) : TE3 := fun σ S Q => t σ S fun xs S1 => xs.length ≤ sizeLine ∧ newL S1 xs Q
theorem e_tup {x1} (h : PA3 X W3 es t) : PE3 X W3 (.Tuple es x1 pos) (tup3 t) := fun Z => PE.imp (pe_tup (h Z)) fun τ H Q ⟨σ, S, Q3, hs, hr, ht, hc⟩ =>
  ⟨σ, S, _, hs, hr, ht, fun xs S1 vs H1 k1 r1 l1 ⟨z, q⟩ => ⟨by rw [← r1.len]; exact z, tup.down q r1 l1 (hc.mono k1)⟩⟩
theorem e_lst (h : PA3 X W3 es t) : PE3 X W3 (.List es pos) (lst3 t) := fun Z => PE.imp (pe_lst (h Z)) fun τ H Q ⟨σ, S, Q3, hs, hr, ht, hc⟩ =>
  ⟨σ, S, _, hs, hr, ht, fun xs S1 vs H1 k1 r1 l1 ⟨z, q⟩ => ⟨by rw [← r1.len]; exact z, newL.down q r1 l1 (hc.mono k1)⟩⟩
def dnew3 : TE3 := fun _ S Q => ∀ p, S p = none → Q (.ref p) (up S p (.dic []))
/-! calls of Python's own -/
def DnC (K : PySem.W.Frag) (r3 : List D → Hp3 → K3 → Prop) (r : List V → Hp → VK → Prop) : Prop := ∀ (Z : Zt) ds S Q3 vs H Q, Rps K H ds vs → Rl K Z S H → r3 ds S Q3 → CK K Z H Q3 Q → r vs H Q
def cb3 (r : List D → Hp3 → K3 → Prop) (t : TA3) : TE3 := fun σ S Q => t σ S fun vs S1 => r vs S1 Q
variable {x : Str} {p : Pos} {id T : String} {r3 : List D → Hp3 → K3 → Prop} {r : List V → Hp → VK → Prop}
theorem cb_down {K : PySem.W.Frag} {Z : Zt} (hd : DnC K r3 r) {τ : L2.St} {H : Hp} {Q : VK} (h : lE K Z (cb3 r3 t) τ H Q) : tCB r (lA K Z t) τ H Q := by
  obtain ⟨σ, S, Q3, hs, hr, ht, hc⟩ := h
  exact ⟨σ, S, _, hs, hr, ht, fun ds S1 vs H1 k1 r1 l1 q1 => hd Z ds S1 Q3 vs H1 Q r1 l1 q1 (hc.mono k1)⟩
theorem e_callB (hc : CallR X (.builtin id) r) (hd : DnC X.K r3 r) (hg : Gl X x) (hm : X.mg x = none) (hv : bootBuiltins x = some (.builtin id)) (ha : PA3 X W3 (e :: es) t) (hn : x ≠ "__name__" := by decide) (hdb : (x == ("__debug__" : Str)) = false := by decide)
    (he : starEach (e :: es) X.env = (false, eval e X.env) :: starEach es X.env := by rfl) (hpl : (backTo pos (starEach es X.env)).any (·.1) = false := by rfl) : PE3 X W3 (.Call (.Name x p) (e :: es) [] pos) (cb3 r3 t) :=
  fun Z => PE.imp (pe_callB hc hg hm hv (ha Z) hn hdb he hpl) fun _ _ _ h => cb_down hd h
/-! methods of Python's own values -/
def DnM (K : PySem.W.Frag) (r3 : D → List D → Hp3 → K3 → Prop) (r : V → List V → Hp → VK → Prop) : Prop := ∀ (Z : Zt) x ds S Q3 v vs H Q, Rp K H x v → Rps K H ds vs → Rl K Z S H → r3 x ds S Q3 → CK K Z H Q3 Q → r v vs H Q
def TyD (T : String) (x : D) (S : Hp3) : Prop := (T = "str" ∧ ∃ z, x = .str z) ∨ (T = "list" ∧ ∃ ds, IsL S x ds) ∨ (T = "dict" ∧ ∃ a kvs, x = .ref a ∧ S a = some (.dic kvs))
theorem TyD.down {K : PySem.W.Frag} {Z : Zt} {S : Hp3} {H : Hp} {T : String} {x : D} {v : V} (h : TyD T x S) (r : Rp K H x v) (l : Rl K Z S H) : tyV K T v H := by
  rcases h with ⟨rfl, z, rfl⟩ | ⟨rfl, ds, h⟩ | ⟨rfl, a, kvs, rfl, e⟩
  · cases r; rfl
  · obtain ⟨a, vs, rfl, h1, _⟩ := h.down r l
    exact .inl ⟨rfl, vs, h1⟩
  · cases r
    obtain ⟨ws, h1, _⟩ := l.obj a _ e
    exact .inr (.inr (.inl ⟨rfl, .inl ⟨ws, h1⟩⟩))
def bm03 (T : String) (r : D → List D → Hp3 → K3 → Prop) (to : TE3) : TE3 := fun σ S Q => to σ S fun x S1 => TyD T x S1 ∧ r x [] S1 Q
def bm3 (T : String) (r : D → List D → Hp3 → K3 → Prop) (to : TE3) (t : TA3) : TE3 := fun σ S Q => to σ S fun x S1 => TyD T x S1 ∧ t σ S1 fun xs S2 => r x xs S2 Q
variable {o : Expr} {to : TE3} {name : Str} {apos cpos : Pos} {m3 : D → List D → Hp3 → K3 → Prop} {m : V → List V → Hp → VK → Prop}
theorem e_bm0 (pa : PlainAttrs T) (slot : Slot T name id) (hty : typeOf (.builtin id) = pure (.type "method_descriptor")) (hm : MtR X id m) (hd : DnM X.K m3 m) (ho : PE3 X W3 o to)
    (hbase : attributeBase o name X.env (eval o X.env) = eval o X.env := by rfl) (hline : (apos.endLine == cpos.line) = true := by rfl) : PE3 X W3 (.Call (.Attribute o name apos) [] [] cpos) (bm03 T m3 to) :=
  fun Z => PE.imp (pe_bm0 pa slot hty hm (ho Z) hbase hline) fun τ H Q ⟨σ, S, Q3, hs, hr, ht, hc⟩ =>
    ⟨σ, S, _, hs, hr, ht, fun x S1 v H1 k1 r1 l1 ⟨ty, q⟩ => ⟨ty.down r1 l1, hd Z.z x [] S1 Q3 v [] H1 Q r1 .nil l1 q (hc.mono k1)⟩⟩
theorem e_bm (pa : PlainAttrs T) (slot : Slot T name id) (hty : typeOf (.builtin id) = pure (.type "method_descriptor")) (hm : MtR X id m) (hd : DnM X.K m3 m) (ho : PE3 X W3 o to) (ha : PA3 X W3 (e :: es) t)
    (hbase : attributeBase o name X.env (eval o X.env) = eval o X.env := by rfl)
    (hfew : ((backTo cpos (starEach (e :: es) X.env)).all (fun x => !x.1) && (backToKw cpos (keywordEach [] X.env)).all (fun x => x.1.isSome)
      && decide ((e :: es).length + ([] : List Keyword).length + (if ([] : List Keyword).isEmpty then 0 else 1) < 30)) = true := by rfl)
    (hline : (apos.endLine == cpos.line) = true := by rfl) (hs : starEach (e :: es) X.env = (false, eval e X.env) :: starEach es X.env := by rfl) (hplain : (backTo cpos (starEach es X.env)).any (·.1) = false := by rfl) :
    PE3 X W3 (.Call (.Attribute o name apos) (e :: es) [] cpos) (bm3 T m3 to t) :=
  fun Z => PE.imp (pe_bm pa slot hty hm (ho Z) (ha Z) hbase hfew hline hs hplain) fun τ H Q ⟨σ, S, Q3, hs, hr, ht, hc⟩ =>
    ⟨σ, S, _, hs, hr, ht, fun x S1 v H1 k1 r1 l1 ⟨ty, q⟩ => ⟨ty.down r1 l1, σ, S1, _, hs.mono k1, l1, q, fun ds S2 vs H2 k2 r2 l2 q2 => hd Z.z x ds S2 Q3 v vs H2 Q (r1.mono k2) r2 l2 q2 (hc.mono (k1.trans k2))⟩⟩
/-! slices -/
abbrev TO3 := St3 → Hp3 → (Option Int → Hp3 → Prop) → Prop
def CO (K : PySem.W.Frag) (Z : Zt) (H : Hp) (Q3 : Option Int → Hp3 → Prop) (Q : Option Int → Hp → Prop) : Prop := ∀ d S H', Kp Z H H' → Rl K Z S H' → Q3 d S → Q d H'
def lO (K : PySem.W.Frag) (Z : Zt) (t : TO3) : TO := fun τ H Q => ∃ σ S Q3, SR K H σ τ ∧ Rl K Z S H ∧ t σ S Q3 ∧ CO K Z H Q3 Q
def PO3 (X : Cx) (W3 : W3T) (e : Option Expr) (t : TO3) : Prop := ∀ Z : ZX X W3, PO X e (lO X.K Z.z t)
def nopart3 : TO3 := fun _ S Q => Q none S
def part3 (t : TE3) : TO3 := fun σ S Q => t σ S fun x S1 => ∃ i, x = .int i ∧ Q (some i) S1
theorem PO.imp {X : Cx} {e : Option Expr} {t u : TO} (h : PO X e t) (f : ∀ σ H Q, u σ H Q → t σ H Q) : PO X e u := fun pins s σ H Q I q => h pins s σ H Q I (f _ _ _ q)
theorem p_none : PO3 X W3 none nopart3 := fun Z => PO.imp po_none fun τ H Q ⟨σ, S, Q3, hs, hr, ht, hc⟩ => hc none S H (Kp.refl _ _) hr ht
theorem p_some (h : PE3 X W3 e ta) : PO3 X W3 (some e) (part3 ta) := fun Z => PO.imp (po_some (h Z)) fun τ H Q ⟨σ, S, Q3, hs, hr, ht, hc⟩ => by
  refine ⟨σ, S, _, hs, hr, ht, fun x S1 v H1 k1 r1 l1 q1 => ?_⟩
  obtain ⟨i, rfl, q⟩ := q1
  cases r1
  exact ⟨i, rfl, hc _ S1 H1 k1 l1 q⟩
def DnS (K : PySem.W.Frag) (r3 : D → Option Int → Option Int → Hp3 → K3 → Prop) (r : V → Option Int → Option Int → Hp → VK → Prop) : Prop := ∀ (Z : Zt) x lo hi S Q3 v H Q, Rp K H x v → Rl K Z S H → r3 x lo hi S Q3 → CK K Z H Q3 Q → r v lo hi H Q
def sl3 (r : D → Option Int → Option Int → Hp3 → K3 → Prop) (te : TE3) (tl th : TO3) : TE3 := fun σ S Q => te σ S fun x S1 => tl σ S1 fun l S2 => th σ S2 fun u S3 => r x l u S3 Q
theorem e_slice {lo hi : Option Expr} {tl th : TO3} {p2 : Pos} {s3 : D → Option Int → Option Int → Hp3 → K3 → Prop} {s2 : V → Option Int → Option Int → Hp → VK → Prop} (hr : SlR X s2) (hd : DnS X.K s3 s2) (he : PE3 X W3 e ta) (hl : PO3 X W3 lo tl) (hu : PO3 X W3 hi th) :
    PE3 X W3 (.Subscript e (.Slice lo hi none p2) pos) (sl3 s3 ta tl th) := fun Z => PE.imp (pe_slice hr (he Z) (hl Z) (hu Z)) fun τ H Q ⟨σ, S, Q3, hs, hr, ht, hc⟩ =>
  ⟨σ, S, _, hs, hr, ht, fun x S1 v H1 k1 r1 l1 q1 => ⟨σ, S1, _, hs.mono k1, l1, q1, fun l S2 H2 k2 l2 q2 => ⟨σ, S2, _, hs.mono (k1.trans k2), l2, q2, fun u S3 H3 k3 l3 q3 =>
    hd Z.z x l u S3 Q3 v H3 Q (r1.mono (k2.trans k3)) l3 q3 (hc.mono (k1.trans (k2.trans k3)))⟩⟩⟩
/-! dicts -/
def kD : Key → D
  | .inl i => .int i
  | .inr x => .str x
def valD (kvs : List (Key × D)) (k : Key) : Option D := (kvs.find? fun kv => decide (kv.1 = k)).map (·.2)
def putD (kvs : List (Key × D)) (k : Key) (v : D) : List (Key × D) := if (kvs.any fun kv => decide (kv.1 = k)) = true then kvs.map fun kv => if kv.1 = k then (kv.1, v) else kv else kvs ++ [(k, v)]
def dget3 (td ty : TE3) : TE3 := fun σ S Q => td σ S fun x S1 => ty σ S1 fun y S2 => ∃ a kvs k v, x = .ref a ∧ S2 a = some (.dic kvs) ∧ y = kD k ∧ valD kvs k = some v ∧ Q v S2
def din3 (ty td : TE3) : TE3 := fun σ S Q => ty σ S fun y S1 => td σ S1 fun x S2 => ∃ a kvs k, x = .ref a ∧ S2 a = some (.dic kvs) ∧ y = kD k ∧ Q (.bl (valD kvs k).isSome) S2
def dnotin3 (ty td : TE3) : TE3 := fun σ S Q => ty σ S fun y S1 => td σ S1 fun x S2 => ∃ a kvs k, x = .ref a ∧ S2 a = some (.dic kvs) ∧ y = kD k ∧ Q (.bl (!(valD kvs k).isSome)) S2
theorem kD_down {K : PySem.W.Frag} {H : Hp} {k : Key} {v : V} (r : Rp K H (kD k) v) : v = kV k := by
  cases k with
  | inl i => cases r; rfl
  | inr x => cases r; rfl
abbrev KR (K : PySem.W.Frag) (H : Hp) := Paired (fun (p : Key × D) (q : Key × V) => p.1 = q.1 ∧ Rp K H p.2 q.2)
theorem KR.val {K : PySem.W.Frag} {H : Hp} {kvs : List (Key × D)} {ws : List (Key × V)} (r : KR K H kvs ws) (k : Key) : RO K H (valD kvs k) (valV ws k) ∧ (valD kvs k).isSome = (valV ws k).isSome := by
  induction r with
  | nil => exact ⟨fun d e => (nomatch e), rfl⟩
  | @cons p q ps qs h t ih =>
    obtain ⟨h1, h2⟩ := h
    by_cases e : p.1 = k
    · have e2 : q.1 = k := h1 ▸ e
      have a : valD (p :: ps) k = some p.2 := by simp [valD, List.find?_cons, e]
      rw [a, valV_pos e2]
      exact ⟨fun d z => by cases z; exact ⟨_, rfl, h2⟩, rfl⟩
    · have e2 : ¬ q.1 = k := h1 ▸ e
      have a : valD (p :: ps) k = valD ps k := by simp [valD, List.find?_cons, e]
      rw [a, valV_neg e2]
      exact ih
theorem KR.any {K : PySem.W.Frag} {H : Hp} {kvs : List (Key × D)} {ws : List (Key × V)} (r : KR K H kvs ws) (k : Key) : (kvs.any fun kv => decide (kv.1 = k)) = ws.any fun kv => decide (kv.1 = k) := by
  induction r with
  | nil => rfl
  | @cons p q ps qs h t ih => rw [List.any_cons, List.any_cons, ih, h.1]
theorem KR.repl {K : PySem.W.Frag} {H : Hp} (k : Key) {d : D} {v : V} (h : Rp K H d v) : ∀ {kvs : List (Key × D)} {ws : List (Key × V)}, KR K H kvs ws → KR K H (kvs.map fun kv => if kv.1 = k then (kv.1, d) else kv) (ws.map fun kv => if kv.1 = k then (kv.1, v) else kv)
  | _, _, .nil => .nil
  | _, _, .cons (a := p) (b := q) ⟨e, r⟩ t => by
    refine .cons ?_ (KR.repl k h t)
    dsimp only
    by_cases c : q.1 = k
    · rw [if_pos c, if_pos (e ▸ c)]
      exact ⟨e, h⟩
    · rw [if_neg c, if_neg (e ▸ c)]
      exact ⟨e, r⟩
theorem KR.put {K : PySem.W.Frag} {H : Hp} {kvs : List (Key × D)} {ws : List (Key × V)} (r : KR K H kvs ws) (k : Key) {d : D} {v : V} (h : Rp K H d v) : KR K H (putD kvs k d) (putK ws k v) := by
  unfold putD putK
  rw [r.any k]
  split
  · exact KR.repl k h r
  · exact paired_append r (.cons ⟨rfl, h⟩ .nil)
theorem KR.len {K : PySem.W.Frag} {H : Hp} {kvs : List (Key × D)} {ws : List (Key × V)} (r : KR K H kvs ws) : kvs.length = ws.length := Paired.length r
theorem DGet.down {K : PySem.W.Frag} {Z : Zt} {S : Hp3} {H : Hp} {a : Addr} {kvs : List (Key × D)} {k : Key} {v : V} (l : Rl K Z S H) (e : S a = some (.dic kvs)) (r : Rp K H (kD k) v) : ∃ ws, DGet H a v (valV ws k) ∧ KR K H kvs ws := by
  obtain ⟨ws, h1, h2⟩ := l.obj a _ e
  rw [kD_down r]
  exact ⟨ws, DGet.k h1, h2⟩
end
end E3

namespace E3
open PySem PySem.Spec PyProof.Rows L2 EE
/-! ### rules: statements -/
section
variable {X : Cx} {W3 : W3T} {st : Stmt} {rest : List Stmt} {t u : TS3} {e : Expr} {te : TE3} {pos : Pos}
def next3 : TS3 := fun D σ S => D.nx σ S
def seq3 (t u : TS3) : TS3 := fun D σ S => t { D with nx := u D } σ S
theorem s_nil : PSs3 X W3 [] next3 := fun Z => PSs.imp pss_nil fun D τ H ⟨D3, σ, S, hs, hr, ht, hc⟩ => hc.nx σ S τ H (Kp.refl _ _) hs hr ht
theorem s_cons (h1 : PS3 X W3 st t) (h2 : PSs3 X W3 rest u) : PSs3 X W3 (st :: rest) (seq3 t u) := fun Z => PSs.imp (pss_cons (h1 Z) (h2 Z)) fun D τ H ⟨D3, σ, S, hs, hr, ht, hc⟩ =>
  ⟨_, σ, S, hs, hr, ht, ⟨fun σ' S' τ' H' k r l q => ⟨D3, σ', S', r, l, q, hc.mono k⟩, hc.bk, hc.ct, hc.rt⟩⟩
theorem s_one (h1 : PS3 X W3 st t) : PSs3 X W3 [st] t := fun Z => pss_one (h1 Z)
def break3 : TS3 := fun D σ S => D.bk σ S
def cont3 : TS3 := fun D σ S => D.ct σ S
def drop3 (te : TE3) : TS3 := fun D σ S => te σ S fun _ S1 => D.nx σ S1
theorem s_expr (he : PE3 X W3 e te) (hs : swapsWith e none pos.line X.env = pure false := by rfl) : PS3 X W3 (.Expr e pos) (drop3 te) := fun Z => PS.imp (ps_expr (he Z) hs) fun D τ H ⟨D3, σ, S, hs, hr, ht, hc⟩ =>
  ⟨σ, S, _, hs, hr, ht, fun d S' v H' k r l q => hc.nx σ S' τ H' k (hs.mono k) l q⟩
def ret3 (te : TE3) : TS3 := fun D σ S => te σ S D.rt
theorem s_ret (he : PE3 X W3 e te) : PS3 X W3 (.Return (some e) pos) (ret3 te) := fun Z => PS.imp (ps_ret (he Z)) fun D τ H ⟨D3, σ, S, hs, hr, ht, hc⟩ => ⟨σ, S, _, hs, hr, ht, hc.rt⟩
def retN3 : TS3 := fun D _ S => D.rt .non S
def ifs3 (c : TT3) (t u : TS3) : TS3 := fun D σ S => c σ S fun b S1 => if b = true then t D σ S1 else u D σ S1
theorem s_if {c : Expr} {a b : List Stmt} {tc : TT3} (hc : PT3 X W3 c tc) (ha : PSs3 X W3 a t) (hb : PSs3 X W3 b u) : PS3 X W3 (.If c a b pos) (ifs3 tc t u) := fun Z => PS.imp (ps_if (hc Z) (ha Z) (hb Z)) fun D τ H ⟨D3, σ, S, hs, hr, ht, hc⟩ => by
  refine ⟨σ, S, _, hs, hr, ht, fun b S' H' k l q => ?_⟩
  cases b with
  | true => exact ⟨D3, σ, S', hs.mono k, l, q, hc.mono k⟩
  | false => exact ⟨D3, σ, S', hs.mono k, l, q, hc.mono k⟩
/-! targets -/
abbrev TG3 := D → St3 → Hp3 → (St3 → Hp3 → Prop) → Prop
def lG (K : PySem.W.Frag) (Z : Zt) (t : TG3) : TG := fun v τ H Q => ∃ d σ S Q3, Rp K H d v ∧ SR K H σ τ ∧ Rl K Z S H ∧ t d σ S Q3 ∧ CS K Z H Q3 Q
def PG3 (X : Cx) (W3 : W3T) (tg : Expr) (t : TG3) : Prop := ∀ Z : ZX X W3, PG X tg (lG X.K Z.z t)
theorem PG.imp {X : Cx} {e : Expr} {t u : TG} (h : PG X e t) (f : ∀ v σ H Q, u v σ H Q → t v σ H Q) : PG X e u := fun pins s σ H v w Q I r q => h pins s σ H v w Q I r (f _ _ _ _ q)
def name3 (i : Nat) : TG3 := fun v σ S Q => Q (σ.set i (some v)) S
theorem g_name {i : Nat} {x : Str} (hN : X.N.Nodup) (hi : X.N[i]? = some x) (hx : Loc X.env.scope x) (hf : X.fn x = true ∨ X.env.scope.names.lookup x = some .local := by first | exact .inl rfl | exact .inr rfl | assumption) : PG3 X W3 (.Name x pos) (name3 i) :=
  fun Z => PG.imp (pg_name hN hi hx hf) fun v τ H Q ⟨d, σ, S, Q3, r, hs, hr, ht, hc⟩ => hc _ S _ H (Kp.refl _ _) (hs.set r i) hr ht
theorem PGs.imp {X : Cx} {e : List Expr} {t u : TGs} (h : PGs X e t) (f : ∀ v σ H Q, u v σ H Q → t v σ H Q) : PGs X e u := fun pins s σ H v w Q I r q => h pins s σ H v w Q I r (f _ _ _ _ q)
def asg3 (te : TE3) (g : TG3) : TS3 := fun D σ S => te σ S fun x S1 => g x σ S1 D.nx
def set3 (i : Nat) (te : TE3) : TS3 := fun D σ S => te σ S fun x S1 => D.nx (σ.set i (some x)) S1
theorem s_set {i : Nat} {x : Str} {pos' : Pos} (hN : X.N.Nodup) (hi : X.N[i]? = some x) (hx : Loc X.env.scope x) (he : PE3 X W3 e te) (hs : swapsWith e (some (.Name x pos')) pos.line X.env = pure false := by rfl) (hf : X.fn x = true ∨ X.env.scope.names.lookup x = some .local := by first | exact .inl rfl | exact .inr rfl | assumption) :
    PS3 X W3 (.Assign [.Name x pos'] e pos) (set3 i te) := fun Z => PS.imp (ps_set hN hi hx (he Z) hs hf) fun D τ H ⟨D3, σ, S, hs, hr, ht, hc⟩ =>
  ⟨σ, S, _, hs, hr, ht, fun d S' v H' k r l q => hc.nx _ S' _ H' k ((hs.mono k).set r i) l q⟩
/-- o[i] = v of a list -/
def setL3 (to ti : TE3) : TG3 := fun v σ S Q => to σ S fun o S1 => ti σ S1 fun i S2 => ∃ p xs k j, o = .ref p ∧ i = .int k ∧ S2 p = some (.lst xs) ∧ ixN xs.length k = some j ∧ Q σ (up S2 p (.lst (xs.set j v)))
/-- d[k] = v -/
def dput3 (td ty tv : TE3) : TS3 := fun D σ S => tv σ S fun v S1 => td σ S1 fun x S2 => ty σ S2 fun y S3 => ∃ a kvs k, x = .ref a ∧ S3 a = some (.dic kvs) ∧ y = kD k ∧ kvs.length < sizeLine ∧ D.nx σ (up S3 a (.dic (putD kvs k v)))
/-- x op= e, ints -/
def aug3 (i : Nat) (te : TE3) (f : Int → Int → Int) : TS3 := fun D σ S => ∃ a, σ[i]? = some (some (.int a)) ∧ te σ S fun y S1 => ∃ b, y = .int b ∧ D.nx (σ.set i (some (.int (f a b)))) S1
/-! while -/
def while3 (c : TT3) (tb : TS3) : TS3 := fun D σ S => ∃ W : Nat → St3 → Hp3 → Prop, (∃ m, W m σ S) ∧ ∀ m σ S, W m σ S →
  c σ S fun b S1 => if b = true then tb { D with nx := fun σ' S' => ∃ m', m' < m ∧ W m' σ' S', ct := fun σ' S' => ∃ m', m' < m ∧ W m' σ' S', bk := D.nx } σ S1 else D.nx σ S1
theorem s_while {c : Expr} {body : List Stmt} {tc : TT3} {tb : TS3} (hp : PassesOwn (model X.prog X.w) X.A X.env X.xe) (hc : PT3 X W3 c tc) (hb : PSs3 X W3 body tb) : PS3 X W3 (.While c body [] pos) (while3 tc tb) := fun Z => PS.imp (ps_while hp (hc Z) (hb Z)) fun D τ H ⟨D3, σ, S, hs, hr, ⟨W, ⟨m0, w0⟩, turn⟩, hc⟩ => by
  refine ⟨fun m τ' H' => ∃ σ' S', Kp Z.z H H' ∧ SR X.K H' σ' τ' ∧ Rl X.K Z.z S' H' ∧ W m σ' S', ⟨m0, σ, S, Kp.refl _ _, hs, hr, w0⟩, ?_⟩
  rintro m τ1 H1 ⟨σ1, S1, k1, s1, l1, w1⟩
  refine ⟨σ1, S1, _, s1, l1, turn m σ1 S1 w1, fun b S2 H2 k2 l2 q2 => ?_⟩
  cases b with
  | true =>
    rw [if_pos rfl] at q2 ⊢
    refine ⟨fun τ' H' => ∃ m', m' < m ∧ ∃ σ' S', Kp Z.z H H' ∧ SR X.K H' σ' τ' ∧ Rl X.K Z.z S' H' ∧ W m' σ' S', fun τ' H' z => z, _, σ1, S2, s1.mono k2, l2, q2, ⟨?_, ?_, ?_, ?_⟩⟩
    · exact fun σ' S' τ' H' k r l ⟨m', hm, w⟩ => ⟨m', hm, σ', S', k1.trans (k2.trans k), r, l, w⟩
    · exact hc.nx.mono (k1.trans k2)
    · exact fun σ' S' τ' H' k r l ⟨m', hm, w⟩ => ⟨m', hm, σ', S', k1.trans (k2.trans k), r, l, w⟩
    · exact hc.rt.mono (k1.trans k2)
  | false =>
    rw [if_neg Bool.false_ne_true] at q2 ⊢
    exact hc.nx σ1 S2 τ1 H2 (k1.trans k2) (s1.mono k2) l2 q2
end
/-! ### what a loop walks: its items, and a condition under which they are still the same -/
abbrev TI3 := St3 → Hp3 → (List D → (Hp3 → Prop) → Hp3 → Prop) → Prop
/-- the items ds, walked by J, while Al holds -/
structure Wk (K : PySem.W.Frag) (Z : Zt) (J : It) (ds : List D) (Al : Hp3 → Prop) (H0 : Hp) : Prop where
  go : ∀ i d S H, Kp Z H0 H → Rl K Z S H → Al S → ds[i]? = some d → J.go i H ∧ ∀ v H', J.yld i H v H' → Kp Z H H' ∧ Rp K H' d v ∧ (∀ S', Rl K Z S' H → Rl K Z S' H') ∧ ∀ b, H b ≠ none → H' b = H b
  stop : ∀ S H, Kp Z H0 H → Rl K Z S H → Al S → J.stop ds.length H
def lI (K : PySem.W.Frag) (Z : Zt) (t : TI3) : TI := fun τ H R => ∃ σ S R3, SR K H σ τ ∧ Rl K Z S H ∧ t σ S R3 ∧ ∀ ds Al S' J H', Kp Z H H' → Rl K Z S' H' → R3 ds Al S' → Wk K Z J ds Al H' → R J H'
def PI3 (X : Cx) (W3 : W3T) (tg iter : Expr) (t : TI3) : Prop := ∀ Z : ZX X W3, PI X tg iter (lI X.K Z.z t)
theorem PI.imp {X : Cx} {tg e : Expr} {t u : TI} (h : PI X tg e t) (f : ∀ σ H R, u σ H R → t σ H R) : PI X tg e u := fun pins s σ H Q I q => h pins s σ H Q I (f _ _ _ q)
section
variable {X : Cx} {W3 : W3T} {tg l : Expr} {tl : TE3} {pos : Pos}
def iL3 (tl : TE3) : TI3 := fun σ S R => tl σ S fun x S1 => (∃ a ds, x = .ref a ∧ S1 a = some (.lst ds) ∧ R ds (fun S => S a = some (.lst ds)) S1) ∨ ∃ ds, x = .rol ds ∧ R ds (fun _ => True) S1
theorem i_list (hl : PE3 X W3 l tl) : PI3 X W3 tg l (iL3 tl) := fun Z => PI.imp (pi_list (hl Z)) fun τ H R ⟨σ, S, R3, hs, hr, ht, hc⟩ => by
  refine ⟨σ, S, _, hs, hr, ht, fun x S1 v H1 k1 r1 l1 q1 => ?_⟩
  rcases q1 with ⟨a, ds, rfl, e, q⟩ | ⟨ds, rfl, q⟩
  · cases r1
    obtain ⟨vs, h1, h2⟩ := l1.obj a _ e
    refine ⟨a, rfl, ⟨vs, SqL.of h1⟩, hc ds _ S1 _ H1 k1 l1 q ⟨fun i d S2 H2 k2 l2 al hd => ?_, fun S2 H2 k2 l2 al => ?_⟩⟩
    · obtain ⟨ws, h3, h4⟩ := l2.obj a _ al
      obtain ⟨v, hv, rv⟩ := h4.at hd
      refine ⟨⟨ws, v, SqL.of h3, hv⟩, fun v' H' y => ?_⟩
      obtain ⟨rfl, y⟩ := y
      have := y ws (SqL.of h3)
      rw [hv] at this
      cases this
      exact ⟨Kp.refl _ _, rv, fun _ z => z, fun _ _ => rfl⟩
    · obtain ⟨ws, h3, h4⟩ := l2.obj a _ al
      exact ⟨ws, SqL.of h3, by rw [h4.len]; exact Nat.le_refl _⟩
  · cases r1 with
    | @rol a vs _ h1 h2 =>
      refine ⟨a, rfl, ⟨vs, h1.sq⟩, hc ds _ S1 _ H1 k1 l1 q ⟨fun i d S2 H2 k2 l2 al hd => ?_, fun S2 H2 k2 l2 al => ?_⟩⟩
      · obtain ⟨v, hv, rv⟩ := h2.at hd
        have h3 := (k2.scR h1).sq
        refine ⟨⟨vs, v, h3, hv⟩, fun v' H' y => ?_⟩
        obtain ⟨rfl, y⟩ := y
        have := y vs h3
        rw [hv] at this
        cases this
        exact ⟨Kp.refl _ _, rv.mono k2, fun _ z => z, fun _ _ => rfl⟩
      · exact ⟨vs, (k2.scR h1).sq, by rw [h2.len]; exact Nat.le_refl _⟩
def iT3 (tl : TE3) : TI3 := fun σ S R => tl σ S fun x S1 => ∃ ds, x = .tup ds ∧ R ds (fun _ => True) S1
def iRev3 (ta : TA3) : TI3 := fun σ S R => ta σ S fun xs S1 => ∃ ds, xs = [.tup ds] ∧ R ds.reverse (fun _ => True) S1
def signs (x : Str) : List D := x.cps.toList.map fun c => .str ⟨#[c]⟩
def iS3 (tl : TE3) : TI3 := fun σ S R => tl σ S fun x S1 => ∃ z, x = .str z ∧ R (signs z) (fun _ => True) S1
theorem i_str (hl : PE3 X W3 l tl) : PI3 X W3 tg l (iS3 tl) := fun Z => PI.imp (pi_str (hl Z)) fun τ H R ⟨σ, S, R3, hs, hr, ht, hc⟩ => by
  refine ⟨σ, S, _, hs, hr, ht, fun x S1 v H1 k1 r1 l1 q1 => ?_⟩
  obtain ⟨z, rfl, q⟩ := q1
  cases r1
  refine ⟨z, rfl, hc _ _ S1 _ H1 k1 l1 q ⟨fun i d S2 H2 k2 l2 al hd => ?_, fun S2 H2 k2 l2 al => ?_⟩⟩
  · unfold signs at hd
    rw [List.getElem?_map] at hd
    cases e : z.cps.toList[i]? with
    | none => rw [e] at hd; cases hd
    | some c =>
      rw [e] at hd
      cases hd
      have hi := (List.getElem?_eq_some_iff.mp e).1
      have e' : z.cps[i]? = some c := by simpa using e
      refine ⟨by show i < z.cps.size; simpa using hi, fun v' H' y => ?_⟩
      obtain ⟨rfl, c', hc', rfl⟩ := y
      rw [e'] at hc'
      cases hc'
      exact ⟨Kp.refl _ _, .str _, fun _ z => z, fun _ _ => rfl⟩
  · show z.cps.size ≤ (signs z).length
    simp [signs]
def nums (lo : Int) (n : Nat) : List D := (List.range n).map fun i : Nat => .int (lo + (i : Int))
theorem nums_at {lo : Int} {n i : Nat} {d : D} (h : (nums lo n)[i]? = some d) : i < n ∧ d = .int (lo + (i : Int)) := by
  unfold nums at h
  rw [List.getElem?_map] at h
  cases e : (List.range n)[i]? with
  | none => rw [e] at h; cases h
  | some c =>
    rw [e] at h
    cases h
    obtain ⟨h1, h2⟩ := List.getElem?_eq_some_iff.mp e
    rw [List.getElem_range] at h2
    subst h2
    exact ⟨by simpa using h1, rfl⟩
theorem nums_len {lo : Int} {n : Nat} : (nums lo n).length = n := by simp [nums]
def iR1 (ta : TA3) : TI3 := fun σ S R => ta σ S fun vs S1 => ∃ j : Int, vs = [.int j] ∧ -(2 ^ 62) ≤ j ∧ j < 2 ^ 62 ∧ R (nums 0 j.toNat) (fun _ => True) S1
def iR2 (ta : TA3) : TI3 := fun σ S R => ta σ S fun vs S1 => ∃ i j : Int, vs = [.int i, .int j] ∧ (-(2 ^ 62) ≤ i ∧ i < 2 ^ 62 ∧ -(2 ^ 62) ≤ j ∧ j < 2 ^ 62) ∧ R (nums i (j - i).toNat) (fun _ => True) S1
theorem wk_rng {K : PySem.W.Frag} {Z : Zt} {lo : Int} {n : Nat} {H : Hp} : Wk K Z (Itr lo n) (nums lo n) (fun _ => True) H := by
  refine ⟨fun i d S2 H2 k2 l2 al hd => ?_, fun S2 H2 k2 l2 al => ?_⟩
  · obtain ⟨hi, rfl⟩ := nums_at hd
    refine ⟨hi, fun v' H' y => ?_⟩
    obtain ⟨rfl, rfl⟩ := y
    exact ⟨Kp.refl _ _, .int _, fun _ z => z, fun _ _ => rfl⟩
  · show n ≤ (nums lo n).length
    rw [nums_len]
    exact Nat.le_refl _
theorem i_range1 {a : Expr} {ta : TA3} {p : Pos} (hg : Gl X "range") (hm : X.mg "range" = none) (ha : PA3 X W3 [a] ta) (hs : starEach [a] X.env = [(false, eval a X.env)] := by rfl) : PI3 X W3 tg (.Call (.Name "range" p) [a] [] pos) (iR1 ta) :=
  fun Z => PI.imp (pi_range1 hg hm (ha Z) hs) fun τ H R ⟨σ, S, R3, hs, hr, ht, hc⟩ => by
  refine ⟨σ, S, _, hs, hr, ht, fun xs S1 vs0 H1 k1 r1 l1 q1 => ?_⟩
  obtain ⟨j, rfl, h1, h2, q⟩ := q1
  cases r1 with
  | cons r1 rr =>
    cases rr
    cases r1
    exact ⟨j, rfl, h1, h2, hc _ _ S1 _ H1 k1 l1 q wk_rng⟩
/-! for -/
/-- W i: what holds ahead of turn i -/
def for3 (wi : TI3) (g : TG3) (tb : TS3) : TS3 := fun D σ S => wi σ S fun ds Al S1 => ∃ W : Nat → St3 → Hp3 → Prop, W 0 σ S1 ∧ (∀ i σ S, W i σ S → Al S) ∧
  (∀ i d σ S, ds[i]? = some d → W i σ S → g d σ S fun σ2 S2 => tb { D with nx := W (i + 1), ct := W (i + 1), bk := D.nx } σ2 S2) ∧ ∀ σ S, W ds.length σ S → D.nx σ S
theorem s_for {iter : Expr} {body : List Stmt} {wi : TI3} {g : TG3} {tb : TS3} (hp : PassesOwn (model X.prog X.w) X.A X.env X.xe) (hc : X.calm = true) (hi : PI3 X W3 tg iter wi) (hg : PG3 X W3 tg g) (hb : PSs3 X W3 body tb)
    (hs : ∀ x, foldedSetIterable iter X.env x = pure x := by intro _; rfl) : PS3 X W3 (.For tg iter body [] pos) (for3 wi g tb) := fun Z => PS.imp (ps_for hp hc (hi Z) (hg Z) (hb Z) hs) fun D τ H ⟨D3, σ, S, hs, hr, ht, hc⟩ => by
  refine ⟨σ, S, _, hs, hr, ht, fun ds Al S1 J H1 k1 l1 q1 wk => ?_⟩
  obtain ⟨W, w0, al, turn, done⟩ := q1
  refine ⟨fun i m τ' H' => m = ds.length - i ∧ i ≤ ds.length ∧ ∃ σ' S', Kp Z.z H1 H' ∧ SR X.K H' σ' τ' ∧ Rl X.K Z.z S' H' ∧ W i σ' S', ⟨ds.length, by simp, Nat.zero_le _, σ, S1, Kp.refl _ _, hs.mono k1, l1, w0⟩, ?_⟩
  rintro i m τ2 H2 ⟨rfl, hi, σ2, S2, k2, s2, l2, w2⟩
  by_cases hlt : i < ds.length
  · have hd : ds[i]? = some ds[i] := List.getElem?_eq_getElem hlt
    obtain ⟨go, yl⟩ := wk.go i _ S2 H2 k2 l2 (al _ _ _ w2) hd
    refine .inr ⟨go, fun τ' H' => i < ds.length ∧ ∃ σ' S', Kp Z.z H1 H' ∧ SR X.K H' σ' τ' ∧ Rl X.K Z.z S' H' ∧ W (i + 1) σ' S', fun τ' H' z => ⟨ds.length - (i + 1), by omega, rfl, z.1, z.2⟩, fun v H3 y => ?_⟩
    obtain ⟨k3, rv, l3, _⟩ := yl v H3 y
    refine ⟨_, σ2, S2, _, rv, s2.mono k3, l3 _ l2, turn i _ σ2 S2 hd w2, fun σ4 S4 τ4 H4 k4 s4 l4 q4 => ?_⟩
    have k14 := k2.trans (k3.trans k4)
    refine ⟨_, σ4, S4, s4, l4, q4, ⟨?_, ?_, ?_, ?_⟩⟩
    · exact fun σ' S' τ' H' k r l w => ⟨hlt, σ', S', k14.trans k, r, l, w⟩
    · exact hc.nx.mono (k1.trans k14)
    · exact fun σ' S' τ' H' k r l w => ⟨hlt, σ', S', k14.trans k, r, l, w⟩
    · exact hc.rt.mono (k1.trans k14)
  · have e : i = ds.length := by omega
    subst e
    exact .inl ⟨wk.stop S2 H2 k2 l2 (al _ _ _ w2), hc.nx σ2 S2 τ2 H2 (k1.trans k2) s2 l2 (done σ2 S2 w2)⟩
/-! comprehensions: the new list is out of sight till it is done -/
def pick3 (σ : St3) (js : List Nat) : St3 := js.map fun j => (σ[j]?).getD none
def comp3 (wi : TI3) (te : TE3) (js : List Nat) : TE3 := fun σ S Q => wi σ S fun ds Al S1 => ∃ W : Nat → List D → Hp3 → Prop, W 0 [] S1 ∧ (∀ i ys S, W i ys S → Al S ∧ ys.length < sizeLine) ∧
  (∀ i d ys S, ds[i]? = some d → W i ys S → te (some d :: pick3 σ js) S fun y S' => W (i + 1) (ys ++ [y]) S') ∧ ∀ ys S, W ds.length ys S → newL S ys Q
def exZ (K : PySem.W.Frag) (te : TE3) : TE := fun τ H Q => ∃ Z : Zt, lE K Z te τ H Q
theorem PE3.ex {X : Cx} {e : Expr} {te : TE3} (h : PE3 X NoX e te) : PE X e (exZ X.K te) := fun pins s σ H Q I ⟨Z, q⟩ => h (ZX.no X Z) pins s σ H Q I q
theorem Rl.unhide {K : PySem.W.Frag} {Z Z' : Zt} {S : Hp3} {H : Hp} (l : Rl K Z' S H) (h : ∀ a, Z a → Z' a) (o : Kp Z Z.base H) : Rl K Z S H := ⟨l.obj, fun a z => l.hid a (h a z), o⟩
theorem Kp.unhide {Z Z' : Zt} {H H' : Hp} (k : Kp Z' H H') (h : ∀ a, Z a → Z' a) : Kp Z H H' := ⟨k.tup, k.frz, fun a z => k.hid a (h a z)⟩
variable {elt iter : Expr} {x : Str} {px : Pos} {scope osc : Scope} {M N : List Str} {js : List Nat} {wi : TI3} {te : TE3}
end
end E3

namespace E3
open PySem PySem.Spec PyProof.Rows L2 EE
/-! ### values: what the operators of the language do to data -/
section
variable {K : PySem.W.Frag}
def i3 (g : Int → Int → D) : R3 := fun x y S Q => ∃ i j, x = .int i ∧ y = .int j ∧ Q (g i j) S
def ic3 (C : Int → Int → Prop) (g : Int → Int → D) : R3 := fun x y S Q => ∃ i j, x = .int i ∧ y = .int j ∧ C i j ∧ Q (g i j) S
theorem dn_int {g : Int → Int → Int} : Dn2 K (i3 fun i j => .int (g i j)) (rI0 fun i j => .int (g i j)) := by
  intro Z x y S Q3 v w H Q rx ry l h c
  obtain ⟨i, j, rfl, rfl, q⟩ := h
  cases rx
  cases ry
  exact ⟨i, j, rfl, rfl, c _ S _ H (Kp.refl _ _) (.int _) l q⟩
theorem dn_intB {g : Int → Int → Bool} : Dn2 K (i3 fun i j => .bl (g i j)) (rI0 fun i j => .bl (g i j)) := by
  intro Z x y S Q3 v w H Q rx ry l h c
  obtain ⟨i, j, rfl, rfl, q⟩ := h
  cases rx
  cases ry
  exact ⟨i, j, rfl, rfl, c _ S _ H (Kp.refl _ _) (.bl _) l q⟩
theorem dn_intC {C : Int → Int → Prop} {g : Int → Int → Int} : Dn2 K (ic3 C fun i j => .int (g i j)) (rI C fun i j => .int (g i j)) := by
  intro Z x y S Q3 v w H Q rx ry l h c
  obtain ⟨i, j, rfl, rfl, h, q⟩ := h
  cases rx
  cases ry
  exact ⟨i, j, rfl, rfl, h, c _ S _ H (Kp.refl _ _) (.int _) l q⟩
def addS3 : R3 := fun x y S Q => ∃ i j, x = .str i ∧ y = .str j ∧ i.length + j.length ≤ sizeLine ∧ Q (.str (i ++ j)) S
theorem dn_addS : Dn2 K addS3 (fun x y H Q => ∃ i j, x = .str i ∧ y = .str j ∧ i.length + j.length ≤ sizeLine ∧ Q (.str (i ++ j)) H) := by
  intro Z x y S Q3 v w H Q rx ry l h c
  obtain ⟨i, j, rfl, rfl, h, q⟩ := h
  cases rx
  cases ry
  exact ⟨i, j, rfl, rfl, h, c _ S _ H (Kp.refl _ _) (.str _) l q⟩
def isNon : D → Bool
  | .non => true
  | _ => false
theorem isNon_down {H : Hp} {x : D} {v : V} (r : Rp K H x v) : isNon x = decide (v = .non) := by
  cases r <;> rfl
def isN3 : R3 := fun x y S Q => y = .non ∧ Q (.bl (isNon x)) S
def notN3 : R3 := fun x y S Q => y = .non ∧ Q (.bl (!isNon x)) S
theorem dn_isN : Dn2 K isN3 (fun x y H Q => y = .non ∧ Q (.bl (decide (x = .non))) H) := by
  intro Z x y S Q3 v w H Q rx ry l h c
  obtain ⟨rfl, q⟩ := h
  cases ry
  rw [← isNon_down rx]
  exact ⟨rfl, c _ S _ H (Kp.refl _ _) (.bl _) l q⟩
theorem dn_notN : Dn2 K notN3 (fun x y H Q => y = .non ∧ Q (.bl (!decide (x = .non))) H) := by
  intro Z x y S Q3 v w H Q rx ry l h c
  obtain ⟨rfl, q⟩ := h
  cases ry
  rw [← isNon_down rx]
  exact ⟨rfl, c _ S _ H (Kp.refl _ _) (.bl _) l q⟩
/-- ==, != of ints, of texts -/
def eqI3 : R3 := i3 fun i j => .bl (decide (i = j))
def neI3 : R3 := i3 fun i j => .bl (!decide (i = j))
def eqS3 : R3 := fun x y S Q => ∃ i j, x = .str i ∧ y = .str j ∧ Q (.bl (decide (i = j))) S
def neS3 : R3 := fun x y S Q => ∃ i j, x = .str i ∧ y = .str j ∧ Q (.bl (!decide (i = j))) S
theorem dV_int {i j : Int} : decide (V.int i = V.int j) = decide (i = j) := by rw [dec_int]; rfl
theorem dV_str {i j : Str} : decide (V.str i = V.str j) = decide (i = j) := by
  by_cases h : i = j
  · subst h; simp
  · have : V.str i ≠ V.str j := fun e => h (V.str.inj e)
    simp [h]
theorem dn_eqI : Dn2 K eqI3 rEq := by
  intro Z x y S Q3 v w H Q rx ry l h c
  obtain ⟨i, j, rfl, rfl, q⟩ := h
  cases rx
  cases ry
  refine ⟨rfl, ?_⟩
  rw [dV_int]
  exact c _ S _ H (Kp.refl _ _) (.bl _) l q
theorem dn_neI : Dn2 K neI3 rNe := by
  intro Z x y S Q3 v w H Q rx ry l h c
  obtain ⟨i, j, rfl, rfl, q⟩ := h
  cases rx
  cases ry
  refine ⟨rfl, ?_⟩
  rw [dV_int]
  exact c _ S _ H (Kp.refl _ _) (.bl _) l q
theorem dn_eqS : Dn2 K eqS3 rEq := by
  intro Z x y S Q3 v w H Q rx ry l h c
  obtain ⟨i, j, rfl, rfl, q⟩ := h
  cases rx
  cases ry
  refine ⟨rfl, ?_⟩
  rw [dV_str]
  exact c _ S _ H (Kp.refl _ _) (.bl _) l q
theorem dn_neS : Dn2 K neS3 rNe := by
  intro Z x y S Q3 v w H Q rx ry l h c
  obtain ⟨i, j, rfl, rfl, q⟩ := h
  cases rx
  cases ry
  refine ⟨rfl, ?_⟩
  rw [dV_str]
  exact c _ S _ H (Kp.refl _ _) (.bl _) l q
/-! == of data -/
mutual
/-- the datum that a value of S stands for -/
inductive Dn (S : Hp3) : D → Dt → Prop where
  | non : Dn S .non .non
  | bl (b : Bool) : Dn S (.bl b) (.bl b)
  | int (i : Int) : Dn S (.int i) (.int i)
  | str (x : Str) : Dn S (.str x) (.str x)
  | tup {ds : List D} {es : List Dt} : Dns S ds es → Dn S (.tup ds) (.tup es)
  | rol {ds : List D} {es : List Dt} : Dns S ds es → Dn S (.rol ds) (.lst es)
  | ref {a : Addr} {ds : List D} {es : List Dt} : S a = some (.lst ds) → Dns S ds es → Dn S (.ref a) (.lst es)
inductive Dns (S : Hp3) : List D → List Dt → Prop where
  | nil : Dns S [] []
  | cons {d : D} {e : Dt} {ds : List D} {es : List Dt} : Dn S d e → Dns S ds es → Dns S (d :: ds) (e :: es)
end
mutual
theorem Dn.down {Z : Zt} {S : Hp3} {H : Hp} (l : Rl K Z S H) : ∀ {d : D} {e : Dt} {v : V}, Dn S d e → Rp K H d v → DR K H e v
  | _, _, _, .non, .non => .non
  | _, _, _, .bl _, .bl _ => .bl _
  | _, _, _, .int _, .int _ => .int _
  | _, _, _, .str _, .str _ => .str _
  | _, _, _, .tup h, .tup p q => .tup p (Dns.down l h q)
  | _, _, _, .rol h, .rol p q => .lst p.sq (Dns.down l h q)
  | _, _, _, .ref e h, .ref _ => by
    obtain ⟨vs, h1, h2⟩ := l.obj _ _ e
    exact .lst (SqL.of h1) (Dns.down l h h2)
theorem Dns.down {Z : Zt} {S : Hp3} {H : Hp} (l : Rl K Z S H) : ∀ {ds : List D} {es : List Dt} {vs : List V}, Dns S ds es → Rps K H ds vs → DRs K H es vs
  | _, _, _, .nil, .nil => .nil
  | _, _, _, .cons h t, .cons p q => .cons (Dn.down l h p) (Dns.down l t q)
end
mutual
/-- a value without addresses is a datum -/
def D.dt : D → Dt
  | .non => .non
  | .bl b => .bl b
  | .int i => .int i
  | .str x => .str x
  | .tup ds => .tup (D.dts ds)
  | .rol ds => .lst (D.dts ds)
  | .ref _ => .non
  | .ty _ => .non
def D.dts : List D → List Dt
  | [] => []
  | d :: ds => d.dt :: D.dts ds
end
mutual
def D.pure : D → Bool
  | .tup ds => D.pures ds
  | .rol ds => D.pures ds
  | .ref _ => false
  | .ty _ => false
  | _ => true
def D.pures : List D → Bool
  | [] => true
  | d :: ds => d.pure && D.pures ds
end
mutual
theorem Dn.of {S : Hp3} : ∀ {d : D}, d.pure = true → Dn S d d.dt
  | .non, _ => .non
  | .bl _, _ => .bl _
  | .int _, _ => .int _
  | .str _, _ => .str _
  | .tup ds, h => by simp only [D.pure] at h; simp only [D.dt]; exact .tup (Dns.of h)
  | .rol ds, h => by simp only [D.pure] at h; simp only [D.dt]; exact .rol (Dns.of h)
  | .ref _, h => by simp [D.pure] at h
  | .ty _, h => by simp [D.pure] at h
theorem Dns.of {S : Hp3} : ∀ {ds : List D}, D.pures ds = true → Dns S ds (D.dts ds)
  | [], _ => .nil
  | d :: ds, h => by
    simp only [D.pures, Bool.and_eq_true] at h
    simp only [D.dts]
    exact .cons (Dn.of h.1) (Dns.of h.2)
end
theorem D.pures_iff : ∀ {ds : List D}, D.pures ds = true ↔ ∀ d ∈ ds, d.pure = true
  | [] => by simp [D.pures]
  | d :: ds => by simp [D.pures, D.pures_iff (ds := ds)]
theorem D.dts_map : ∀ ds : List D, D.dts ds = ds.map D.dt
  | [] => rfl
  | d :: ds => by simp only [D.dts, List.map_cons, D.dts_map ds]
def eqD3 (n : Nat) : R3 := fun x y S Q => ∃ d e, Dn S x d ∧ Dn S y e ∧ deepD d ≤ n ∧ Q (.bl (eqD d e)) S
theorem dn_eqD {n : Nat} : Dn2 K (eqD3 n) (fun x y H Q => ∃ d e, DR K H d x ∧ DR K H e y ∧ deepD d ≤ n ∧ Q (.bl (eqD d e)) H) := by
  intro Z x y S Q3 v w H Q rx ry l h c
  obtain ⟨d, e, h1, h2, hn, q⟩ := h
  exact ⟨d, e, h1.down l rx, h2.down l ry, hn, c _ S _ H (Kp.refl _ _) (.bl _) l q⟩
/-! in, not in, flat -/
def flatD : D → Bool
  | .non => true
  | .bl _ => true
  | .int _ => true
  | .str _ => true
  | _ => false
def vD : D → V
  | .non => .non
  | .bl b => .bl b
  | .int i => .int i
  | .str x => .str x
  | _ => .non
def memD (x : D) (ds : List D) : Bool := inV (vD x) (ds.map vD)
def in3 (neg : Bool) : R3 := fun x y S Q => ∃ ds, (IsL S y ds ∨ y = .tup ds) ∧ flatD x = true ∧ ds.all flatD = true ∧ Q (.bl (if neg then !memD x ds else memD x ds)) S
theorem memD_strs (x : Str) (xs : List Str) : memD (.str x) (xs.map D.str) = decide (x ∈ xs) := by
  unfold memD inV
  induction xs with
  | nil => rfl
  | cons y ys ih =>
    simp only [List.map_cons, List.any_cons, List.mem_cons]
    rw [ih]
    by_cases h : y = x
    · subst h; simp [eqV, vD]
    · have h' : ¬ x = y := fun z => h z.symm
      simp [eqV, vD, h, h']
theorem flat_strs (xs : List Str) : (xs.map D.str).all flatD = true := by
  induction xs with
  | nil => rfl
  | cons y ys ih => simp only [List.map_cons, List.all_cons, ih]; rfl
/-! indexes and slices -/
def ixL3 : R3 := fun x y S Q => ∃ ds i d, IsL S x ds ∧ y = .int i ∧ atI ds i = some d ∧ Q d S
def ixT3 : R3 := fun x y S Q => ∃ ds i d, x = .tup ds ∧ y = .int i ∧ atI ds i = some d ∧ Q d S
def ixS3 : R3 := fun x y S Q => ∃ z i c, x = .str z ∧ y = .int i ∧ z.length ≤ sizeLine ∧ atI z.cps.toList i = some c ∧ Q (.str ⟨#[c]⟩) S
theorem Rps.atI {H : Hp} {ds : List D} {vs : List V} {i : Int} {d : D} (r : Rps K H ds vs) (h : L2.atI ds i = some d) : ∃ v, L2.atI vs i = some v ∧ Rp K H d v := by
  unfold L2.atI at h ⊢
  rw [r.len] at h
  cases e : ixN vs.length i with
  | none => rw [e] at h; cases h
  | some j =>
    rw [e] at h
    exact r.at h
theorem dn_ixL : Dn2 K ixL3 (rIxL K) := by
  intro Z x y S Q3 v w H Q rx ry l h c
  obtain ⟨ds, i, d, h1, rfl, h2, q⟩ := h
  cases ry
  obtain ⟨a, vs, rfl, h3, h4⟩ := h1.down rx l
  obtain ⟨u, h5, h6⟩ := h4.atI h2
  exact ⟨a, vs, i, u, rfl, rfl, h3, h5, c d S u H (Kp.refl _ _) h6 l q⟩
theorem dn_ixT : Dn2 K ixT3 (rIxT K) := by
  intro Z x y S Q3 v w H Q rx ry l h c
  obtain ⟨ds, i, d, rfl, rfl, h2, q⟩ := h
  cases ry
  cases rx with
  | tup h3 h4 =>
    obtain ⟨u, h5, h6⟩ := h4.atI h2
    exact ⟨_, _, i, u, rfl, rfl, h3, h5, c d S u H (Kp.refl _ _) h6 l q⟩
theorem dn_ixS : Dn2 K ixS3 rIxS := by
  intro Z x y S Q3 v w H Q rx ry l h c
  obtain ⟨z, i, k, rfl, rfl, hz, h2, q⟩ := h
  cases ry
  cases rx
  exact ⟨z, i, k, rfl, rfl, hz, h2, c _ S _ H (Kp.refl _ _) (.str _) l q⟩
def cutD (xs : List D) (lo hi : Option Int) : List D := (xs.drop (HT.sIx xs.length 0 lo)).take (HT.sIx xs.length xs.length hi - HT.sIx xs.length 0 lo)
theorem Rps.cut {H : Hp} {ds : List D} {vs : List V} (r : Rps K H ds vs) (lo hi : Option Int) : Rps K H (cutD ds lo hi) (cutV vs lo hi) := by
  unfold cutD cutV
  rw [r.len]
  exact (r.drop _).take _
def slL3 : D → Option Int → Option Int → Hp3 → K3 → Prop := fun x lo hi S Q => ∃ ds, IsL S x ds ∧ newL S (cutD ds lo hi) Q
def slT3 : D → Option Int → Option Int → Hp3 → K3 → Prop := fun x lo hi S Q => ∃ ds, x = .tup ds ∧ Q (.tup (cutD ds lo hi)) S
def slS3 : D → Option Int → Option Int → Hp3 → K3 → Prop := fun x lo hi S Q => ∃ z, x = .str z ∧ z.length ≤ sizeLine ∧ Q (.str (textOf (cutT z.cps.toList lo hi))) S
theorem dn_slL : DnS K slL3 (rSlL K) := by
  intro Z x lo hi S Q3 v H Q rx l h c
  obtain ⟨ds, h1, q⟩ := h
  obtain ⟨a, vs, rfl, h3, h4⟩ := h1.down rx l
  exact ⟨a, vs, rfl, h3, newL.down q (h4.cut lo hi) l c⟩
theorem dn_slS : DnS K slS3 rSlS := by
  intro Z x lo hi S Q3 v H Q rx l h c
  obtain ⟨z, rfl, hz, q⟩ := h
  cases rx
  exact ⟨z, rfl, hz, c _ S _ H (Kp.refl _ _) (.str _) l q⟩
/-! calls -/
def len3 : List D → Hp3 → K3 → Prop := fun xs S Q => ∃ x ds, xs = [x] ∧ (IsL S x ds ∨ x = .tup ds) ∧ Q (.int ds.length) S
theorem dn_len : DnC K len3 (fun xs H Q => ∃ p ys, xs = [.ref p] ∧ (SqL K H p ys ∨ SqT K H p ys) ∧ Q (.int ys.length) H) := by
  intro Z ds S Q3 vs H Q r l h c
  obtain ⟨x, es, rfl, hx, q⟩ := h
  cases r with
  | cons r rr =>
    cases rr
    rcases hx with hx | rfl
    · obtain ⟨a, ws, rfl, h3, h4⟩ := hx.down r l
      refine ⟨a, ws, rfl, .inl h3, ?_⟩
      rw [← h4.len]
      exact c _ S _ H (Kp.refl _ _) (.int _) l q
    · cases r with
      | tup h3 h4 =>
        refine ⟨_, _, rfl, .inr h3, ?_⟩
        rw [← h4.len]
        exact c _ S _ H (Kp.refl _ _) (.int _) l q
def lenS3 : List D → Hp3 → K3 → Prop := fun xs S Q => ∃ z, xs = [.str z] ∧ z.length ≤ sizeLine ∧ Q (.int z.length) S
theorem dn_lenS : DnC K lenS3 (fun xs H Q => ∃ z, xs = [.str z] ∧ z.length ≤ sizeLine ∧ Q (.int z.length) H) := by
  intro Z ds S Q3 vs H Q r l h c
  obtain ⟨z, rfl, hz, q⟩ := h
  cases r with
  | cons r rr =>
    cases rr
    cases r
    exact ⟨z, rfl, hz, c _ S _ H (Kp.refl _ _) (.int _) l q⟩
def toList3 : List D → Hp3 → K3 → Prop := fun xs S Q => ∃ x ds, xs = [x] ∧ (IsL S x ds ∨ x = .tup ds) ∧ newL S ds Q
def toTup3 : List D → Hp3 → K3 → Prop := fun xs S Q => ∃ x ds, xs = [x] ∧ (IsL S x ds ∨ x = .tup ds) ∧ Q (.tup ds) S
/-! methods -/
def append3 : D → List D → Hp3 → K3 → Prop := fun x ys S Q => ∃ a ds y, x = .ref a ∧ ys = [y] ∧ S a = some (.lst ds) ∧ ds.length < sizeLine ∧ Q .non (up S a (.lst (ds ++ [y])))
theorem dn_append : DnM K append3 rAppend := by
  intro Z x ds S Q3 v vs H Q rx r l h c
  obtain ⟨a, es, y, rfl, rfl, e, hz, q⟩ := h
  cases rx
  cases r with
  | @cons _ w _ _ r rr =>
    cases rr
    obtain ⟨ws, h1, h2⟩ := l.obj a _ e
    have kk : Kp Z H (upd H a (.lst (ws ++ [w]))) := Kp.at l e
    exact ⟨a, ws, w, rfl, rfl, h1, by rw [← h2.len]; exact hz, c _ _ _ _ kk .non (l.put (o := .lst (es ++ [y])) kk (l.notZ e) ⟨_, upd_same, (h2.mono kk).append (.cons (r.mono kk) .nil)⟩) q⟩
def pop3 : D → List D → Hp3 → K3 → Prop := fun x ys S Q => ∃ a ds y, x = .ref a ∧ ys = [] ∧ S a = some (.lst (ds ++ [y])) ∧ Q y (up S a (.lst ds))
theorem dn_pop : DnM K pop3 rPopS := by
  intro Z x ds S Q3 v vs H Q rx r l h c
  obtain ⟨a, es, y, rfl, rfl, e, q⟩ := h
  cases rx
  cases r
  obtain ⟨ws, h1, h2⟩ := l.obj a _ e
  obtain ⟨us, u, rfl, h3, h4⟩ := h2.snoc_inv
  have kk : Kp Z H (upd H a (.lst us)) := Kp.at l e
  exact ⟨a, us, u, rfl, rfl, h1, c _ _ _ _ kk (h4.mono kk) (l.put (o := .lst es) kk (l.notZ e) ⟨_, upd_same, h3.mono kk⟩) q⟩
def extendL3 : D → List D → Hp3 → K3 → Prop := fun x ys S Q => ∃ a b ds es, x = .ref a ∧ ys = [.ref b] ∧ S a = some (.lst ds) ∧ S b = some (.lst es) ∧ ds.length + es.length ≤ sizeLine ∧ Q .non (up S a (.lst (ds ++ es)))
theorem dn_extendL : DnM K extendL3 rExtend := by
  intro Z x ds S Q3 v vs H Q rx r l h c
  obtain ⟨a, b, es, fs, rfl, rfl, e, e2, hz, q⟩ := h
  cases rx
  cases r with
  | cons r rr =>
    cases rr
    cases r
    obtain ⟨ws, h1, h2⟩ := l.obj a _ e
    obtain ⟨us, h3, h4⟩ := l.obj b _ e2
    have kk : Kp Z H (upd H a (.lst (ws ++ us))) := Kp.at l e
    exact ⟨a, b, ws, us, rfl, rfl, h1, h3, by rw [← h2.len, ← h4.len]; exact hz, c _ _ _ _ kk .non (l.put (o := .lst (es ++ fs)) kk (l.notZ e) ⟨_, upd_same, (h2.mono kk).append (h4.mono kk)⟩) q⟩
def join3 : D → List D → Hp3 → K3 → Prop := fun x ys S Q => ∃ sep y xs, x = .str sep ∧ ys = [y] ∧ IsL S y (xs.map D.str) ∧ (xs.map (·.length)).sum + xs.length * sep.length ≤ 16777216 ∧ Q (.str (Txt.join sep xs)) S
theorem dn_join : DnM K join3 (rJoin K) := by
  intro Z x ds S Q3 v vs H Q rx r l h c
  obtain ⟨sep, y, xs, rfl, rfl, e, hz, q⟩ := h
  cases rx
  cases r with
  | cons r rr =>
    cases rr
    obtain ⟨a, ws, rfl, h3, h4⟩ := e.down r l
    have := h4.strs
    subst this
    exact ⟨sep, a, xs, rfl, rfl, h3, hz, c _ S _ H (Kp.refl _ _) (.str _) l q⟩
def count3 : D → List D → Hp3 → K3 → Prop := fun x ys S Q => ∃ a b, x = .str a ∧ ys = [.str b] ∧ Q (.int (Txt.count a b)) S
theorem dn_count : DnM K count3 rCount := by
  intro Z x ds S Q3 v vs H Q rx r l h c
  obtain ⟨a, b, rfl, rfl, q⟩ := h
  cases rx
  cases r with
  | cons r rr =>
    cases rr
    cases r
    exact ⟨a, b, rfl, rfl, c _ S _ H (Kp.refl _ _) (.int _) l q⟩
end
end E3

namespace E3
open PySem PySem.Spec PyProof.Rows L2 EE
/-! ### slices and sums of tuples -/
section
variable {prog : Program} {w : World} {A : Around} {E : Value → Shared → Prop} {s : Shared}
end
section
variable {X : Cx}
/-! isinstance(x, T), T a built-in's name -/
def TyN (S : Hp3) : D → String → Prop
  | .non, n => n = "NoneType"
  | .bl _, n => n = "bool"
  | .int _, n => n = "int"
  | .str _, n => n = "str"
  | .tup _, n => n = "tuple"
  | .rol _, n => n = "list"
  | .ref a, n => (n = "list" ∧ ∃ ds, S a = some (.lst ds)) ∨ (n = "dict" ∧ ∃ kvs, S a = some (.dic kvs))
  | .ty _, _ => False
/-- the type of a value that is of a built-in type -/
inductive TyB (K : PySem.W.Frag) (H : Hp) : V → String → Prop where
  | of {x : V} {n : String} : TyOf K H x (.type n) → TyB K H x n
  | tup {a : Addr} {xs : List V} : SqT K H a xs → TyB K H (.ref a) "tuple"
  | lst {a : Addr} {xs : List V} : SqL K H a xs → TyB K H (.ref a) "list"
theorem call_isB : CallR X (.builtin "isinstance") (fun xs H Q => ∃ x n m b, xs = [x, .ty n] ∧ TyB X.K H x m ∧ PySem.W.kitOne X.K (.type m) (.type n) = some b ∧ Q (.bl b) H) := by
  intro pins s σ H xs us Q I r h
  obtain ⟨x, n, m, b, rfl, ty, e, q⟩ := h
  obtain ⟨u, c, rfl, rx, rc⟩ := vals2 r
  obtain rfl : c = Value.type n := rc
  cases ty with
  | of t => exact isinst_ok I rx t e fun tk => ⟨.bl b, H, I.tok _, rfl, q⟩
  | @tup a xs ht =>
    cases (show u = Value.ref a from rx)
    obtain ⟨_, _, ⟨o, h1, h2, _⟩, _⟩ := I.tuple ht
    exact PySem.W.kia_one PySem.W.kitx_tuple I.kIn ⟨o, h1, h2⟩ e (fun z => nomatch z) fun tk => ⟨.bl b, H, I.tok _, rfl, q⟩
  | @lst a xs ht =>
    cases (show u = Value.ref a from rx)
    obtain ⟨_, _, ⟨o, n, h1, h2, _⟩, _⟩ := I.list ht
    exact PySem.W.kia_one PySem.W.kitx_list I.kIn ⟨o, h1, h2⟩ e (fun z => nomatch z) fun tk => ⟨.bl b, H, I.tok _, rfl, q⟩
theorem TyN.down {K : PySem.W.Frag} {Z : Zt} {S : Hp3} {H : Hp} {x : D} {v : V} {n : String} (h : TyN S x n) (r : Rp K H x v) (l : Rl K Z S H) : TyB K H v n := by
  cases r with
  | non => cases h; exact .of .non
  | bl b => cases h; exact .of (.bl b)
  | int i => cases h; exact .of (.int i)
  | str x => cases h; exact .of (.str x)
  | tup h1 h2 => cases h; exact .tup h1
  | rol h1 h2 => cases h; exact .lst h1.sq
  | ty n => exact h.elim
  | ref a =>
    rcases h with ⟨rfl, ds, e⟩ | ⟨rfl, kvs, e⟩
    · obtain ⟨vs, h1, _⟩ := l.obj a _ e
      exact .lst (SqL.of h1)
    · obtain ⟨vs, h1, _⟩ := l.obj a _ e
      exact .of (.dK h1)
/-- m is a kind of n, among Python's own -/
def kin (m n : String) : Option Bool := if m = n then some true else if m = "bool" ∧ n = "int" then some true else
  if m ∈ ["NoneType", "bool", "int", "str", "tuple", "list", "dict"] ∧ n ∈ ["bool", "int", "str", "tuple", "list", "dict"] then some false else none
theorem kin_ok {K : PySem.W.Frag} {m n : String} {b : Bool} (h : kin m n = some b) : PySem.W.kitOne K (.type m) (.type n) = some b := by
  by_cases e : m = n
  · subst e
    rw [kin, if_pos rfl] at h
    cases h
    exact kit_same K m
  rw [kin, if_neg e] at h
  by_cases e2 : m = "bool" ∧ n = "int"
  · rw [if_pos e2] at h
    cases h
    obtain ⟨rfl, rfl⟩ := e2
    unfold PySem.W.kitOne PySem.W.kitCls PySem.W.subIn
    dsimp only
    decide +kernel
  rw [if_neg e2] at h
  by_cases e3 : m ∈ ["NoneType", "bool", "int", "str", "tuple", "list", "dict"] ∧ n ∈ ["bool", "int", "str", "tuple", "list", "dict"]
  · rw [if_pos e3] at h
    cases h
    obtain ⟨h1, h2⟩ := e3
    simp only [List.mem_cons, List.not_mem_nil, or_false] at h1 h2
    unfold PySem.W.kitOne PySem.W.kitCls PySem.W.subIn
    dsimp only
    rcases h1 with rfl | rfl | rfl | rfl | rfl | rfl | rfl <;> rcases h2 with rfl | rfl | rfl | rfl | rfl | rfl <;> first | exact absurd rfl e | exact absurd ⟨rfl, rfl⟩ e2 | decide +kernel
  · rw [if_neg e3] at h
    cases h
def isB3 : List D → Hp3 → K3 → Prop := fun xs S Q => ∃ x n m b, xs = [x, .ty n] ∧ TyN S x m ∧ kin m n = some b ∧ Q (.bl b) S
theorem dn_isB {K : PySem.W.Frag} : DnC K isB3 (fun xs H Q => ∃ x n m b, xs = [x, .ty n] ∧ TyB K H x m ∧ PySem.W.kitOne K (.type m) (.type n) = some b ∧ Q (.bl b) H) := by
  intro Z ds S Q3 vs H Q r l h c
  obtain ⟨x, n, m, b, rfl, ty, e, q⟩ := h
  cases r with
  | cons r rr =>
    cases rr with
    | cons r2 rr =>
      cases rr
      cases r2
      exact ⟨_, n, m, b, rfl, ty.down r l, kin_ok e, c _ S _ H (Kp.refl _ _) (.bl _) l q⟩
end
/-! ### defs -/
abbrev Sp3 := List D → Hp3 → K3 → X3 → Prop
def lSp (K : PySem.W.Frag) (sp : Sp3) : Sp := fun vs H Q E => ∃ (Z : Zt) (ds : List D) (S : Hp3) (Q3 : K3) (E3 : X3), Rps K H ds vs ∧ Rl K Z S H ∧ sp ds S Q3 E3 ∧ CK K Z H Q3 Q ∧ CE3 K Z H E3 E
structure Cal3 (P : Program) (w : World) (K : PySem.W.Frag) (mg : Str → Option Value) (base : Heap) (k : Nat) (x : Str) (ps : List Str) (sp : Sp3) : Prop where
  ex : ∃ f fd, FnOk P w K mg base (CX1 P w) k f fd ps (lSp K sp) ∧ Binds K fd ps [] ∧ PySem.W.keepIn K (.ref f) = true ∧ mg x = some (.ref f)
def start3 (N : List Str) (ds : List D) : St3 := ds.map some ++ List.replicate (N.length - ds.length) none
section
variable {P : Program} {w : World} {K : PySem.W.Frag} {mg : Str → Option Value} {base : Heap}
theorem Cal3.mono {j k : Nat} {x : Str} {ps : List Str} {sp : Sp3} (C : Cal3 P w K mg base j x ps sp) (h : j ≤ k) : Cal3 P w K mg base k x ps sp := by
  obtain ⟨f, fd, F, r⟩ := C.ex
  exact ⟨f, fd, F.mono h, r⟩
theorem Cal3.imp {k : Nat} {x : Str} {ps : List Str} {sp sp' : Sp3} (C : Cal3 P w K mg base k x ps sp) (h : ∀ ds S Q E, sp' ds S Q E → sp ds S Q E) : Cal3 P w K mg base k x ps sp' := by
  obtain ⟨f, fd, F, r⟩ := C.ex
  refine ⟨f, fd, F.imp fun vs H Q E ⟨Z, ds, S, Q3, E3, h1, h2, h3, h4⟩ => ⟨Z, ds, S, Q3, E3, h1, h2, h _ _ _ _ h3, h4⟩, r⟩
/-- two parts of a heap -/
def Spl (S A B : Hp3) : Prop := ∀ a, (S a = A a ∧ B a = none) ∨ (A a = none ∧ S a = B a)
def Sub (A B : Hp3) : Prop := ∀ a o, A a = some o → B a = some o
/-- a promise over a part of the heap, with the rest as it was -/
def fr (sp : Sp3) : Sp3 := fun ds S Q E => ∃ S0 F, Spl S S0 F ∧ sp ds S0 (fun d S1 => ∃ S2, Sub S2 S1 ∧ ∀ S', Spl S' S2 F → Q d S') (fun C a S1 => ∃ S2, Sub S2 S1 ∧ ∀ S', Spl S' S2 F → E C a S')
theorem Rl.sub {Z : Zt} {S S' : Hp3} {H : Hp} (l : Rl K Z S H) (h : Sub S' S) : Rl K Z S' H := by
  refine ⟨fun a o e => l.obj a o (h a o e), fun a z => ⟨?_, (l.hid a z).2⟩, l.old⟩
  cases e : S' a with
  | none => rfl
  | some o =>
    have := h a o e
    rw [(l.hid a z).1] at this
    cases this
def join (A B : Hp3) : Hp3 := fun a => match A a with
  | some o => some o
  | none => B a
/-- .. with the rest hidden -/
abbrev Zt.with (Z : Zt) (H : Hp) (F : Hp3) : Zt := ⟨fun a => Z a ∨ F a ≠ none, H⟩
theorem Rl.frame {Z : Zt} {S S0 F S1 S2 : Hp3} {H H' : Hp} (l : Rl K Z S H) (hs : Spl S S0 F) (k : Kp (Z.with H F) H H') (l1 : Rl K (Z.with H F) S1 H') (h2 : Sub S2 S1) :
    Spl (join S2 F) S2 F ∧ Rl K Z (join S2 F) H' := by
  have l2 := l1.sub h2
  have dis : ∀ a, F a ≠ none → S2 a = none := fun a z => (l2.hid a (.inr z)).1
  refine ⟨fun a => ?_, fun a o e => ?_, fun a z => ?_, l.old.trans (k.unhide fun a z => .inl z)⟩
  · cases e : F a with
    | none =>
      refine .inl ⟨?_, rfl⟩
      unfold join
      cases e2 : S2 a with
      | none => exact e
      | some o => rfl
    | some o =>
      have := dis a (by rw [e]; simp)
      refine .inr ⟨this, ?_⟩
      unfold join
      rw [this]
      exact e
  · unfold join at e
    cases e2 : S2 a with
    | some q =>
      rw [e2] at e
      cases e
      exact l2.obj a _ e2
    | none =>
      rw [e2] at e
      have e : F a = some o := e
      have hne : F a ≠ none := by rw [e]; simp
      have hS : S a = some o := by
        rcases hs a with ⟨_, z⟩ | ⟨_, z⟩
        · exact absurd z hne
        · rw [z]; exact e
      exact (l.obj a o hS).keep k (k.hid a (.inr hne))
  · have z1 := l2.hid a (.inl z)
    have z2 := (l.hid a z).1
    refine ⟨?_, z1.2⟩
    unfold join
    rw [z1.1]
    show F a = none
    rcases hs a with ⟨_, q⟩ | ⟨_, q⟩
    · exact q
    · rw [← q]; exact z2
theorem Cal3.frame {k : Nat} {x : Str} {ps : List Str} {sp : Sp3} (C : Cal3 P w K mg base k x ps sp) : Cal3 P w K mg base k x ps (fr sp) := by
  obtain ⟨f, fd, F0, r⟩ := C.ex
  refine ⟨f, fd, F0.imp fun vs H Q E ⟨Z, ds, S, Q3, E3, h1, l, ⟨S0, F, hs, h3⟩, cq, ce⟩ => ?_, r⟩
  refine ⟨Z.with H F, ds, S0, _, _, h1, ⟨fun a o e => ?_, fun a z => ?_, Kp.refl _ _⟩, h3, ?_, ?_⟩
  · refine l.obj a o ?_
    rcases hs a with ⟨q, _⟩ | ⟨q, _⟩
    · rw [q]; exact e
    · rw [q] at e; cases e
  · rcases z with z | z
    · have z2 := l.hid a z
      refine ⟨?_, z2.2⟩
      rcases hs a with ⟨q, _⟩ | ⟨q, _⟩
      · rw [← q]; exact z2.1
      · exact q
    · rcases hs a with ⟨_, q⟩ | ⟨q, q2⟩
      · exact absurd q z
      · refine ⟨q, ?_⟩
        cases e : F a with
        | none => exact absurd e z
        | some o => exact (l.obj a o (q2.trans e)).there
  · intro d S1 v H' k1 r1 l1 ⟨S2, hsub, q⟩
    obtain ⟨sp', l'⟩ := l.frame hs k1 l1 hsub
    exact cq d _ v H' (k1.unhide fun a z => .inl z) r1 l' (q _ sp')
  · intro C a S1 H' k1 l1 ha ⟨S2, hsub, q⟩
    obtain ⟨sp', l'⟩ := l.frame hs k1 l1 hsub
    exact ce C a _ H' (k1.unhide fun a z => .inl z) l' ha (q _ sp')
theorem spl_emp (S : Hp3) : Spl S emp S := fun _ => .inr ⟨rfl, rfl⟩
theorem spl_emp_eq {S F : Hp3} (h : Spl S emp F) : S = F := by
  funext a
  rcases h a with ⟨q, z⟩ | ⟨_, q⟩
  · rw [q, z]; rfl
  · exact q
theorem sub_emp (S : Hp3) : Sub emp S := fun a o e => (nomatch e)
def one (p : Addr) (o : O) : Hp3 := fun a => if a = p then some o else none
theorem spl_one {S F : Hp3} {p : Addr} {o : O} (h : Spl S (one p o) F) : F p = none ∧ S = up F p o := by
  have hp : F p = none := by
    rcases h p with ⟨_, z⟩ | ⟨q, _⟩
    · exact z
    · simp [one] at q
  refine ⟨hp, funext fun a => ?_⟩
  by_cases e : a = p
  · subst e
    rw [up_same]
    rcases h a with ⟨q, _⟩ | ⟨q, _⟩
    · rw [q]; simp [one]
    · simp [one] at q
  · rw [up_ne e]
    rcases h a with ⟨q, z⟩ | ⟨_, q⟩
    · rw [q, z]; simp [one, e]
    · exact q
theorem sub_one {S : Hp3} {p : Addr} {o : O} (h : S p = some o) : Sub (one p o) S := fun a u e => by
  unfold one at e
  split at e
  · subst a; cases e; exact h
  · cases e
/-- a def without lists among its arguments: its answer is a value -/
def vS (A : List D → (D → Prop) → Prop) : Sp3 := fun ds S Q _ => A ds fun d => Q d S
/-- .. a new list -/
def lSt (A : List D → (List D → Prop) → Prop) : Sp3 := fun ds S Q _ => A ds fun ys => newL S ys Q
variable {x : Str} {st : Stmt} {N ps : List Str} {k : Nat}
/-- what is hidden at a def's entry -/
abbrev Zt.at (Z : Zt) (H : Hp) : Zt := ⟨Z.p, H⟩
theorem Rl.into {Z : Zt} {S : Hp3} {H : Hp} (l : Rl K Z S H) : Rl K (Z.at H) S H := ⟨l.obj, l.hid, Kp.refl _ _⟩
theorem Rl.out {Z : Zt} {S S' : Hp3} {H H' : Hp} (l' : Rl K (Z.at H) S' H') (l : Rl K Z S H) (k : Kp (Z.at H) H H') : Rl K Z S' H' := ⟨l'.obj, l'.hid, l.old.trans (k.unhide fun _ z => z)⟩
def zx0 {X : Cx} (Z : Zt) (H : Hp) : ZX X NoX := ZX.no X (Z.at H)
/-- THE RULE for a def; what its body is read with may be stronger than what is wanted -/
theorem _root_.EE.Has.cal3 {sp : Sp3} (h : Has K mg x st ps) (S : FnScope N ps (defScope st)) (len : ∀ vs H Q E, sp vs H Q E → vs.length = ps.length)
    (hbody : ∀ (f : Addr) (cdv : Value) (A : Around) (outer : List Env) (s : Shared) (H : Hp) (E : XK) (ds : List D) (S : Hp3) (Q : K3) (E3 : X3), Room k (A.deeper (envOfC x (defScope st) s.heap.objs.size f cdv)) → sp ds S Q E3 →
      ∃ t Q', PSs3 (cxOf (CX1 P w) P w K mg base N x (defScope st) f cdv A outer s H E).nox NoX (defBody st) t ∧ t { nx := fun _ S' => Q' .non S', rt := Q' } (start3 N ds) S ∧ ∀ d S', Q' d S' → Q d S') : Cal3 P w K mg base (k + 1) x ps sp := by
  obtain ⟨f, fd, F, b, m⟩ := h.ex
  obtain ⟨oc, od, kV, doc, pm, an, cdv, ct, osl, rfl, lk, hcd⟩ := F.ex
  refine ⟨f, _, fn_of lk hcd S (fun vs H Q E ⟨Z, ds, S, Q3, E3, h1, _, h3, _⟩ => by rw [← h1.len]; exact len _ _ _ _ h3) fun A outer s H vs Q E hr ⟨Z, ds, S3, Q3, E3, h1, h2, h3, h4, _⟩ => ?_, b, F.kp, m⟩
  obtain ⟨t, Q', ht, q, hw⟩ := hbody f cdv A outer s H E ds S3 Q3 E3 hr h3
  refine ⟨_, (ht (zx0 Z H)).nox, _, start3 N ds, S3, ?_, h2.into, q, ⟨?_, ?_, ?_, ?_⟩⟩
  · unfold start3 L2.start
    rw [h1.len]
    exact paired_append (SR.ofRps h1) (SR.nones _)
  · intro σ S' τ H' kk _ l q'
    exact h4 .non S' .non H' (kk.unhide fun _ z => z) .non (l.out h2 kk) (hw _ _ q')
  · exact fun _ _ _ _ _ _ _ z => z
  · exact fun _ _ _ _ _ _ _ z => z
  · exact fun d S' v H' kk r l q' => h4 d S' v H' (kk.unhide fun _ z => z) r (l.out h2 kk) (hw _ _ q')
/-- a def that answers a value (no list goes in or out by name), in a heap of its own -/
theorem _root_.EE.Has.val {A : List D → (D → Prop) → Prop} (h : Has K mg x st ps) (S : FnScope N ps (defScope st)) (len : ∀ ds q, A ds q → ds.length = ps.length)
    (hbody : ∀ (f : Addr) (cdv : Value) (Ar : Around) (outer : List Env) (s : Shared) (H : Hp) (E : XK) (ds : List D) (q : D → Prop), Room k (Ar.deeper (envOfC x (defScope st) s.heap.objs.size f cdv)) → A ds q →
      ∃ t, PSs3 (cxOf (CX1 P w) P w K mg base N x (defScope st) f cdv Ar outer s H E).nox NoX (defBody st) t ∧ t { nx := fun _ _ => q .non, rt := fun d _ => q d } (start3 N ds) emp) : Cal3 P w K mg base (k + 1) x ps (vS A) := by
  have C : Cal3 P w K mg base (k + 1) x ps (fun ds S Q E => S = emp ∧ ∃ q, A ds q ∧ ∀ d S', q d → Q d S') := by
    refine h.cal3 S (fun vs H Q E ⟨_, q, z, _⟩ => len _ _ z) fun f cdv Ar outer s H E ds S3 Q E3 hr z => ?_
    obtain ⟨rfl, q, z, hq⟩ := z
    obtain ⟨t, h1, h2⟩ := hbody f cdv Ar outer s H E ds _ hr z
    exact ⟨t, fun d _ => q d, h1, h2, hq⟩
  exact C.frame.imp fun ds S Q E z => ⟨emp, S, spl_emp S, rfl, _, z, fun d S1 hq => ⟨emp, sub_emp _, fun S' h => spl_emp_eq h ▸ hq⟩⟩
/-- a def that answers a new list -/
theorem _root_.EE.Has.lst {A : List D → (List D → Prop) → Prop} (h : Has K mg x st ps) (S : FnScope N ps (defScope st)) (len : ∀ ds q, A ds q → ds.length = ps.length)
    (hbody : ∀ (f : Addr) (cdv : Value) (Ar : Around) (outer : List Env) (s : Shared) (H : Hp) (E : XK) (ds : List D) (q : List D → Prop), Room k (Ar.deeper (envOfC x (defScope st) s.heap.objs.size f cdv)) → A ds q →
      ∃ t, PSs3 (cxOf (CX1 P w) P w K mg base N x (defScope st) f cdv Ar outer s H E).nox NoX (defBody st) t ∧ t { nx := fun _ _ => False, rt := fun d S' => ∃ p ys, d = .ref p ∧ S' p = some (.lst ys) ∧ q ys } (start3 N ds) emp) : Cal3 P w K mg base (k + 1) x ps (lSt A) := by
  have C : Cal3 P w K mg base (k + 1) x ps (fun ds S Q E => S = emp ∧ ∃ q, A ds q ∧ ∀ d S', (∃ p ys, d = .ref p ∧ S' p = some (.lst ys) ∧ q ys) → Q d S') := by
    refine h.cal3 S (fun vs H Q E ⟨_, q, z, _⟩ => len _ _ z) fun f cdv Ar outer s H E ds S3 Q E3 hr z => ?_
    obtain ⟨rfl, q, z, hq⟩ := z
    obtain ⟨t, h1, h2⟩ := hbody f cdv Ar outer s H E ds _ hr z
    refine ⟨t, fun d S' => ∃ p ys, d = .ref p ∧ S' p = some (.lst ys) ∧ q ys, h1, ?_, hq⟩
    have e : (fun (_ : St3) (_ : Hp3) => False) = fun (_ : St3) (S' : Hp3) => ∃ p ys, D.non = .ref p ∧ S' p = some (.lst ys) ∧ q ys := by
      funext _ S'
      refine propext ⟨False.elim, fun z => ?_⟩
      obtain ⟨p, ys, z, _⟩ := z
      cases z
    rw [← e]
    exact h2
  refine C.frame.imp fun ds S Q E z => ⟨emp, S, spl_emp S, rfl, _, z, fun d S1 ⟨p, ys, e, hp, hq⟩ => ⟨one p (.lst ys), sub_one hp, fun S' h => ?_⟩⟩
  obtain ⟨h1, rfl⟩ := spl_one h
  subst e
  exact hq p h1
section
variable {X : Cx} {CX : CXT} {k : Nat} {f C : Addr} {fd : FuncData} {ps : List Str} {sp : Sp} {dvs : List V} {ds : List Value} {E : L2.St → XK} {x : Str} {p pos : Pos} {e : Expr} {es : List Expr} {t : TA}
/-- a call; what is wished of an exception may speak of the locals -/
theorem pe_callA (F : FnOk X.prog X.w X.K X.mg X.base CX k f fd ps sp) (hr : Room k X.A) (hg : Gl X x) (hm : X.mg x = some (.ref f)) (hk : PySem.W.keepIn X.K (.ref f) = true) (hb : Binds X.K fd ps ds) (hd : Vals dvs ds) (hx : ∀ τ, PassesAt CX X (E τ) τ)
    (ha : PA X (e :: es) t) (hdb : (x == ("__debug__" : Str)) = false := by decide) (he : starEach (e :: es) X.env = (false, eval e X.env) :: starEach es X.env := by rfl) (hpl : (backTo pos (starEach es X.env)).any (·.1) = false := by rfl) :
    PE X (.Call (.Name x p) (e :: es) [] pos) (fun τ H Q => t τ H fun vs H1 => sp (vs ++ dvs) H1 Q (E τ)) := by
  intro pins s σ H Q I h
  refine wpAny_Call_Name_kw (ld_glob I hg hm ?_ hdb)
  refine PySem.W.callWith_K (h₀ := X.base) I.ok.mod.kin hk (thn (ha pos pins s σ H _ I h) fun us s1 ⟨vs, H1, I1, r, q⟩ => ⟨I1.kIn, ?_⟩) he hpl
  have r2 : Vals (vs ++ dvs) (us ++ ds) := r.append hd
  have hl : (us ++ ds).length = ps.length := by rw [← r2.length]; exact F.len _ _ _ _ q
  refine wpAny_call (codeAny_mono (F.run X.A X.stack s1 H1 ⟨us, []⟩ (us ++ ds) (vs ++ dvs) Q (E σ) hr I1.env0 (hb s1 us I1.kIn hl) r2 q) fun r s' hq => ?_)
  cases r with
  | error e => exact hx σ pins H1 s1 e s' I1 hq
  | ok fl =>
    cases fl with
    | ret u => exact I1.after hq
    | next => exact False.elim hq
    | brk => exact False.elim hq
    | cont => exact False.elim hq
end
/-- f(..) -/
def call3 (sp : Sp3) (W3 : W3T) (t : TA3) : TE3 := fun σ S Q => t σ S fun ds S1 => sp ds S1 Q (W3 σ)
variable {X : Cx} {W3 : W3T} {y : Str} {pos p : Pos} {e : Expr} {es : List Expr} {t : TA3} {sp : Sp3}
theorem e_call (C : Cal3 X.prog X.w X.K X.mg X.base k y ps sp) (hr : Room k X.A) (hg : Gl X y) (ha : PA3 X W3 (e :: es) t)
    (hdb : (y == ("__debug__" : Str)) = false := by decide) (he : starEach (e :: es) X.env = (false, eval e X.env) :: starEach es X.env := by rfl) (hpl : (backTo pos (starEach es X.env)).any (·.1) = false := by rfl) :
    PE3 X W3 (.Call (.Name y p) (e :: es) [] pos) (call3 sp W3 t) := by
  obtain ⟨f, fd, F, b, kp, m⟩ := C.ex
  refine fun Z => PE.imp (pe_callA F hr hg m kp b .nil Z.pass (ha Z) hdb he hpl) fun τ H Q ⟨σ, S, Q3, hs, hr, ht, hc⟩ => ?_
  refine ⟨σ, S, _, hs, hr, ht, fun ds S1 vs H1 k1 r1 l1 q1 => ?_⟩
  exact ⟨Z.z, ds, S1, Q3, W3 σ, by rw [List.append_nil]; exact r1, l1, q1, hc.mono k1, fun C a S2 H2 k2 l2 ha z => Z.ce σ τ C a S2 H2 (hs.mono (k1.trans k2)) l2 ha z⟩
end
end E3

namespace E3
open PySem PySem.Spec PyProof.Rows L2 EE
/-! ### steps of a reading -/
section
variable {σ : St3} {S : Hp3} {Q : K3} {QT : Bool → Hp3 → Prop} {QA : List D → Hp3 → Prop} {QO : Option Int → Hp3 → Prop} {ta tb te : TE3} {tA tB : TT3} {t u : TS3} {al : TA3} {r : R3} {n b c : St3 → Hp3 → Prop} {rt : K3} {i : Nat}
theorem j_seq (h : t ⟨u ⟨n, rt, b, c⟩, rt, b, c⟩ σ S) : seq3 t u ⟨n, rt, b, c⟩ σ S := h
theorem j_next (h : n σ S) : next3 ⟨n, rt, b, c⟩ σ S := h
theorem j_break (h : b σ S) : break3 ⟨n, rt, b, c⟩ σ S := h
theorem j_cont (h : c σ S) : cont3 ⟨n, rt, b, c⟩ σ S := h
theorem j_drop (h : te σ S fun _ S1 => n σ S1) : drop3 te ⟨n, rt, b, c⟩ σ S := h
theorem j_ret (h : te σ S rt) : ret3 te ⟨n, rt, b, c⟩ σ S := h
theorem j_retN (h : rt .non S) : retN3 ⟨n, rt, b, c⟩ σ S := h
theorem j_set (h : te σ S fun x S1 => n (σ.set i (some x)) S1) : set3 i te ⟨n, rt, b, c⟩ σ S := h
theorem j_asg {g : TG3} (h : te σ S fun x S1 => g x σ S1 n) : asg3 te g ⟨n, rt, b, c⟩ σ S := h
theorem j_aug {f : Int → Int → Int} {a : Int} (ha : σ[i]? = some (some (.int a))) (h : te σ S fun y S1 => ∃ b, y = .int b ∧ n (σ.set i (some (.int (f a b)))) S1) : aug3 i te f ⟨n, rt, b, c⟩ σ S := ⟨a, ha, h⟩
theorem j_ei {k : Int} {P : Int → Prop} (h : P k) : ∃ b, D.int k = .int b ∧ P b := ⟨k, rfl, h⟩
theorem j_ifs (h : tA σ S fun b' S1 => if b' = true then t ⟨n, rt, b, c⟩ σ S1 else u ⟨n, rt, b, c⟩ σ S1) : ifs3 tA t u ⟨n, rt, b, c⟩ σ S := h
theorem j_name {v : D} {Qs : St3 → Hp3 → Prop} (h : Qs (σ.set i (some v)) S) : name3 i v σ S Qs := h
theorem j_v {d : D} (h : σ[i]? = some (some d)) (q : Q d S) : v3 i σ S Q := ⟨d, h, q⟩
theorem j_c {d : D} (q : Q d S) : c3 d σ S Q := q
theorem j_o (h : ta σ S fun x S1 => tb σ S1 fun y S2 => r x y S2 Q) : o3 r ta tb σ S Q := h
theorem j_i3 {g : Int → Int → D} {k j : Int} (q : Q (g k j) S) : i3 g (.int k) (.int j) S Q := ⟨k, j, rfl, rfl, q⟩
theorem j_mod {g : Int → Int → D} {k j : Int} (h : 0 < j) (q : Q (g k j) S) : ic3 (fun _ j => 0 < j) g (.int k) (.int j) S Q := ⟨k, j, rfl, rfl, h, q⟩
theorem j_div {g : Int → Int → D} {k j : Int} (h : 0 < j ∧ j < 1073741824) (q : Q (g k j) S) : ic3 CDiv g (.int k) (.int j) S Q := ⟨k, j, rfl, rfl, h, q⟩
theorem j_addS {x y : Str} (h : x.length + y.length ≤ sizeLine) (q : Q (.str (x ++ y)) S) : addS3 (.str x) (.str y) S Q := ⟨x, y, rfl, rfl, h, q⟩
theorem j_isN {x : D} (q : Q (.bl (isNon x)) S) : isN3 x .non S Q := ⟨rfl, q⟩
theorem j_notN {x : D} (q : Q (.bl (!isNon x)) S) : notN3 x .non S Q := ⟨rfl, q⟩
theorem j_eqI {k j : Int} (q : Q (.bl (decide (k = j))) S) : eqI3 (.int k) (.int j) S Q := ⟨k, j, rfl, rfl, q⟩
theorem j_neI {k j : Int} (q : Q (.bl (!decide (k = j))) S) : neI3 (.int k) (.int j) S Q := ⟨k, j, rfl, rfl, q⟩
theorem j_eqS {k j : Str} (q : Q (.bl (decide (k = j))) S) : eqS3 (.str k) (.str j) S Q := ⟨k, j, rfl, rfl, q⟩
theorem j_neS {k j : Str} (q : Q (.bl (!decide (k = j))) S) : neS3 (.str k) (.str j) S Q := ⟨k, j, rfl, rfl, q⟩
theorem j_test (h : te σ S fun x S' => ∃ k, x = .bl k ∧ QT k S') : test3 te σ S QT := h
theorem j_eb {k : Bool} {P : Bool → Prop} (h : P k) : ∃ b, D.bl k = .bl b ∧ P b := ⟨k, rfl, h⟩
theorem j_truth (h : te σ S fun x S1 => ∃ k, Tru S1 x k ∧ QT k S1) : truth3 te σ S QT := h
theorem j_truL {a : Addr} {ds : List D} {P : Bool → Prop} (hS : S a = some (.lst ds)) (h : P (!ds.isEmpty)) : ∃ k, Tru S (.ref a) k ∧ P k := ⟨_, .inl ⟨ds, hS, rfl⟩, h⟩
theorem j_truT {ds : List D} {P : Bool → Prop} (h : P (!ds.isEmpty)) : ∃ k, Tru S (.tup ds) k ∧ P k := ⟨_, rfl, h⟩
theorem j_and (h : tA σ S fun c' S1 => if c' = true then tB σ S1 QT else QT false S1) : and3 tA tB σ S QT := h
theorem j_or (h : tA σ S fun c' S1 => if c' = true then QT true S1 else tB σ S1 QT) : or3 tA tB σ S QT := h
theorem j_not (h : tA σ S fun c' S1 => QT (!c') S1) : not3 tA σ S QT := h
theorem j_andv (h : ta σ S fun x S1 => ∃ c', x = .bl c' ∧ if c' = true then tb σ S1 Q else Q (.bl false) S1) : andv3 ta tb σ S Q := h
theorem j_orv (h : ta σ S fun x S1 => ∃ c', x = .bl c' ∧ if c' = true then Q (.bl true) S1 else tb σ S1 Q) : orv3 ta tb σ S Q := h
theorem j_notv (h : ta σ S fun x S1 => ∃ c', x = .bl c' ∧ Q (.bl (!c')) S1) : notv3 ta σ S Q := h
theorem j_ifx (h : tA σ S fun c' S1 => if c' = true then ta σ S1 Q else tb σ S1 Q) : if3 tA ta tb σ S Q := h
theorem j_nil (h : QA [] S) : nil3 σ S QA := h
theorem j_cons (h : te σ S fun x S1 => al σ S1 fun xs S2 => QA (x :: xs) S2) : cons3 te al σ S QA := h
theorem j_tup (h : al σ S fun xs S1 => xs.length ≤ sizeLine ∧ Q (.tup xs) S1) : tup3 al σ S Q := h
theorem j_lst (h : al σ S fun xs S1 => xs.length ≤ sizeLine ∧ newL S1 xs Q) : lst3 al σ S Q := h
theorem j_sz {α : Type} {xs : List α} {P : Prop} (h : xs.length ≤ sizeLine) (q : P) : xs.length ≤ sizeLine ∧ P := ⟨h, q⟩
theorem j_cb {f : List D → Hp3 → K3 → Prop} (h : al σ S fun vs S1 => f vs S1 Q) : cb3 f al σ S Q := h
theorem j_call {sp : Sp3} {W3 : W3T} (h : al σ S fun ds S1 => sp ds S1 Q (W3 σ)) : call3 sp W3 al σ S Q := h
theorem j_bm {T : String} {m : D → List D → Hp3 → K3 → Prop} (h : te σ S fun x S1 => TyD T x S1 ∧ al σ S1 fun xs S2 => m x xs S2 Q) : bm3 T m te al σ S Q := h
theorem j_bm0 {T : String} {m : D → List D → Hp3 → K3 → Prop} (h : te σ S fun x S1 => TyD T x S1 ∧ m x [] S1 Q) : bm03 T m te σ S Q := h
theorem j_tyL {a : Addr} {ds : List D} {P : Prop} (h : S a = some (.lst ds)) (q : P) : TyD "list" (.ref a) S ∧ P := ⟨.inr (.inl ⟨rfl, ds, .inl ⟨a, rfl, h⟩⟩), q⟩
theorem j_tyS {z : Str} {P : Prop} (q : P) : TyD "str" (.str z) S ∧ P := ⟨.inl ⟨rfl, z, rfl⟩, q⟩
theorem j_append {a : Addr} {ds : List D} {y : D} (h : S a = some (.lst ds)) (hz : ds.length < sizeLine) (q : Q .non (up S a (.lst (ds ++ [y])))) : append3 (.ref a) [y] S Q := ⟨a, ds, y, rfl, rfl, h, hz, q⟩
theorem j_pop {a : Addr} {ds : List D} {y : D} (h : S a = some (.lst (ds ++ [y]))) (q : Q y (up S a (.lst ds))) : pop3 (.ref a) [] S Q := ⟨a, ds, y, rfl, rfl, h, q⟩
theorem j_extendL {a a' : Addr} {ds es : List D} (h : S a = some (.lst ds)) (h' : S a' = some (.lst es)) (hz : ds.length + es.length ≤ sizeLine) (q : Q .non (up S a (.lst (ds ++ es)))) : extendL3 (.ref a) [.ref a'] S Q := ⟨a, a', ds, es, rfl, rfl, h, h', hz, q⟩
theorem j_ixT {ds : List D} {k : Int} {d : D} (h : atI ds k = some d) (q : Q d S) : ixT3 (.tup ds) (.int k) S Q := ⟨ds, k, d, rfl, rfl, h, q⟩
theorem j_ixL {a : Addr} {ds : List D} {k : Int} {d : D} (hS : S a = some (.lst ds)) (h : atI ds k = some d) (q : Q d S) : ixL3 (.ref a) (.int k) S Q := ⟨ds, k, d, .inl ⟨a, rfl, hS⟩, rfl, h, q⟩
theorem j_ixR {ds : List D} {k : Int} {d : D} (h : atI ds k = some d) (q : Q d S) : ixL3 (.rol ds) (.int k) S Q := ⟨ds, k, d, .inr rfl, rfl, h, q⟩
theorem j_ixS {z : Str} {k : Int} {cp : Nat} (hz : z.length ≤ sizeLine) (h : atI z.cps.toList k = some cp) (q : Q (.str ⟨#[cp]⟩) S) : ixS3 (.str z) (.int k) S Q := ⟨z, k, cp, rfl, rfl, hz, h, q⟩
theorem j_lenL {a : Addr} {ds : List D} (hS : S a = some (.lst ds)) (q : Q (.int ds.length) S) : len3 [.ref a] S Q := ⟨_, ds, rfl, .inl (.inl ⟨a, rfl, hS⟩), q⟩
theorem j_lenR {ds : List D} (q : Q (.int ds.length) S) : len3 [.rol ds] S Q := ⟨_, ds, rfl, .inl (.inr rfl), q⟩
theorem j_lenT {ds : List D} (q : Q (.int ds.length) S) : len3 [.tup ds] S Q := ⟨_, ds, rfl, .inr rfl, q⟩
theorem j_lenS {z : Str} (hz : z.length ≤ sizeLine) (q : Q (.int z.length) S) : lenS3 [.str z] S Q := ⟨z, rfl, hz, q⟩
theorem j_toListL {a : Addr} {ds : List D} (hS : S a = some (.lst ds)) (q : newL S ds Q) : toList3 [.ref a] S Q := ⟨_, ds, rfl, .inl (.inl ⟨a, rfl, hS⟩), q⟩
theorem j_toListT {ds : List D} (q : newL S ds Q) : toList3 [.tup ds] S Q := ⟨_, ds, rfl, .inr rfl, q⟩
theorem j_toTupL {a : Addr} {ds : List D} (hS : S a = some (.lst ds)) (q : Q (.tup ds) S) : toTup3 [.ref a] S Q := ⟨_, ds, rfl, .inl (.inl ⟨a, rfl, hS⟩), q⟩
theorem j_isB {x : D} {m k : String} {b' : Bool} (h : TyN S x m) (hk : kin m k = some b') (q : Q (.bl b') S) : isB3 [x, .ty k] S Q := ⟨x, k, m, b', rfl, h, hk, q⟩
theorem j_isBL {a : Addr} {ds : List D} {k : String} {b' : Bool} (hS : S a = some (.lst ds)) (hk : kin "list" k = some b') (q : Q (.bl b') S) : isB3 [.ref a, .ty k] S Q := ⟨_, k, "list", b', rfl, .inl ⟨rfl, ds, hS⟩, hk, q⟩
theorem j_sl {f : D → Option Int → Option Int → Hp3 → K3 → Prop} {tl th : TO3} (h : te σ S fun x S1 => tl σ S1 fun l S2 => th σ S2 fun u' S3 => f x l u' S3 Q) : sl3 f te tl th σ S Q := h
theorem j_nopart (h : QO none S) : nopart3 σ S QO := h
theorem j_part (h : te σ S fun x S1 => ∃ k, x = .int k ∧ QO (some k) S1) : part3 te σ S QO := h
theorem j_slL {a : Addr} {ds : List D} {lo hi : Option Int} (hS : S a = some (.lst ds)) (q : newL S (cutD ds lo hi) Q) : slL3 (.ref a) lo hi S Q := ⟨ds, .inl ⟨a, rfl, hS⟩, q⟩
theorem j_slT {ds : List D} {lo hi : Option Int} (q : Q (.tup (cutD ds lo hi)) S) : slT3 (.tup ds) lo hi S Q := ⟨ds, rfl, q⟩
theorem j_slS {z : Str} {lo hi : Option Int} (hz : z.length ≤ sizeLine) (q : Q (.str (textOf (cutT z.cps.toList lo hi))) S) : slS3 (.str z) lo hi S Q := ⟨z, rfl, hz, q⟩
theorem j_comp {wi : TI3} {js : List Nat} (h : wi σ S fun ds Al S1 => ∃ W : Nat → List D → Hp3 → Prop, W 0 [] S1 ∧ (∀ i ys S, W i ys S → Al S ∧ ys.length < sizeLine) ∧
  (∀ i d ys S, ds[i]? = some d → W i ys S → te (some d :: pick3 σ js) S fun y S' => W (i + 1) (ys ++ [y]) S') ∧ ∀ ys S, W ds.length ys S → newL S ys Q) : comp3 wi te js σ S Q := h
theorem j_for {wi : TI3} {g : TG3} (h : wi σ S fun ds Al S1 => ∃ W : Nat → St3 → Hp3 → Prop, W 0 σ S1 ∧ (∀ i σ S, W i σ S → Al S) ∧
  (∀ i d σ S, ds[i]? = some d → W i σ S → g d σ S fun σ2 S2 => t ⟨W (i + 1), rt, n, W (i + 1)⟩ σ2 S2) ∧ ∀ σ S, W ds.length σ S → n σ S) : for3 wi g t ⟨n, rt, b, c⟩ σ S := h
theorem j_while (W : Nat → St3 → Hp3 → Prop) (m : Nat) (h0 : W m σ S) (h : ∀ m σ S, W m σ S → tA σ S fun b S1 => if b = true then t ⟨fun σ' S' => ∃ m', m' < m ∧ W m' σ' S', rt, n, fun σ' S' => ∃ m', m' < m ∧ W m' σ' S'⟩ σ S1 else n σ S1) :
    while3 tA t ⟨n, rt, b, c⟩ σ S := ⟨W, ⟨m, h0⟩, h⟩
abbrev RI := List D → (Hp3 → Prop) → Hp3 → Prop
variable {R : RI}
def litA (R : RI) (x : D) (S : Hp3) : Prop := (∃ a ds, x = .ref a ∧ S a = some (.lst ds) ∧ R ds (fun S => S a = some (.lst ds)) S) ∨ ∃ ds, x = .rol ds ∧ R ds (fun _ => True) S
theorem j_iList (h : te σ S fun x S1 => litA R x S1) : iL3 te σ S R := h
theorem j_iL {a : Addr} {ds : List D} (hS : S a = some (.lst ds)) (q : R ds (fun S => S a = some (.lst ds)) S) : litA R (.ref a) S := .inl ⟨a, ds, rfl, hS, q⟩
theorem j_iRo {ds : List D} (q : R ds (fun _ => True) S) : litA R (.rol ds) S := .inr ⟨ds, rfl, q⟩
def titA (R : RI) (x : D) (S : Hp3) : Prop := ∃ ds, x = .tup ds ∧ R ds (fun _ => True) S
theorem j_iTup (h : te σ S fun x S1 => titA R x S1) : iT3 te σ S R := h
theorem j_iT {ds : List D} (q : R ds (fun _ => True) S) : titA R (.tup ds) S := ⟨ds, rfl, q⟩
theorem j_eT {ds : List D} {P : List D → Prop} (h : P ds) : ∃ es, D.tup ds = .tup es ∧ P es := ⟨ds, rfl, h⟩
def revA (R : RI) (xs : List D) (S : Hp3) : Prop := ∃ ds, xs = [.tup ds] ∧ R ds.reverse (fun _ => True) S
theorem j_iRev (h : al σ S fun xs S1 => revA R xs S1) : iRev3 al σ S R := h
theorem j_iRv {ds : List D} (q : R ds.reverse (fun _ => True) S) : revA R [.tup ds] S := ⟨ds, rfl, q⟩
theorem j_eT1 {ds : List D} {P : List D → Prop} (h : P ds) : ∃ es, [D.tup ds] = [.tup es] ∧ P es := ⟨ds, rfl, h⟩
def sitA (R : RI) (x : D) (S : Hp3) : Prop := ∃ z, x = .str z ∧ R (signs z) (fun _ => True) S
theorem j_iStr (h : te σ S fun x S1 => sitA R x S1) : iS3 te σ S R := h
theorem j_iS {z : Str} (q : R (signs z) (fun _ => True) S) : sitA R (.str z) S := ⟨z, rfl, q⟩
theorem j_eS {z : Str} {P : Str → Prop} (h : P z) : ∃ y, D.str z = .str y ∧ P y := ⟨z, rfl, h⟩
def rngA (R : RI) (vs : List D) (S : Hp3) : Prop := ∃ j : Int, vs = [.int j] ∧ -(2 ^ 62) ≤ j ∧ j < 2 ^ 62 ∧ R (nums 0 j.toNat) (fun _ => True) S
theorem j_iR1 (h : al σ S fun vs S1 => rngA R vs S1) : iR1 al σ S R := h
theorem j_rng {j : Int} (h1 : -(2 ^ 62) ≤ j ∧ j < 2 ^ 62) (q : R (nums 0 j.toNat) (fun _ => True) S) : rngA R [.int j] S := ⟨j, rfl, h1.1, h1.2, q⟩
def rngB (R : RI) (vs : List D) (S : Hp3) : Prop := ∃ i j : Int, vs = [.int i, .int j] ∧ (-(2 ^ 62) ≤ i ∧ i < 2 ^ 62 ∧ -(2 ^ 62) ≤ j ∧ j < 2 ^ 62) ∧ R (nums i (j - i).toNat) (fun _ => True) S
theorem j_iR2 (h : al σ S fun vs S1 => rngB R vs S1) : iR2 al σ S R := h
theorem j_rng2 {i j : Int} (h1 : -(2 ^ 62) ≤ i ∧ i < 2 ^ 62 ∧ -(2 ^ 62) ≤ j ∧ j < 2 ^ 62) (q : R (nums i (j - i).toNat) (fun _ => True) S) : rngB R [.int i, .int j] S := ⟨i, j, rfl, h1, q⟩
theorem j_dnew (h : ∀ p, S p = none → Q (.ref p) (up S p (.dic []))) : dnew3 σ S Q := h
def setA (v : D) (Qs : St3 → Hp3 → Prop) (σ : St3) (o i : D) (S : Hp3) : Prop := ∃ p xs k j, o = .ref p ∧ i = .int k ∧ S p = some (.lst xs) ∧ ixN xs.length k = some j ∧ Qs σ (up S p (.lst (xs.set j v)))
theorem j_setL {v : D} {Qs : St3 → Hp3 → Prop} (h : te σ S fun o S1 => ta σ S1 fun i S2 => setA v Qs σ o i S2) : setL3 te ta v σ S Qs := h
theorem j_esL {a : Addr} {xs : List D} {k : Int} {j : Nat} {v : D} {Qs : St3 → Hp3 → Prop} (hS : S a = some (.lst xs)) (hj : ixN xs.length k = some j) (q : Qs σ (up S a (.lst (xs.set j v)))) : setA v Qs σ (.ref a) (.int k) S := ⟨a, xs, k, j, rfl, rfl, hS, hj, q⟩
def dinA (neg : Bool) (Q : K3) (x y : D) (S : Hp3) : Prop := ∃ a kvs k, x = .ref a ∧ S a = some (.dic kvs) ∧ y = kD k ∧ Q (.bl (if neg then !(valD kvs k).isSome else (valD kvs k).isSome)) S
theorem j_din (h : te σ S fun y S1 => ta σ S1 fun x S2 => dinA false Q x y S2) : din3 te ta σ S Q := h
theorem j_dnotin (h : te σ S fun y S1 => ta σ S1 fun x S2 => dinA true Q x y S2) : dnotin3 te ta σ S Q := h
theorem j_dinS {neg : Bool} {a : Addr} {kvs : List (Key × D)} {z : Str} (hS : S a = some (.dic kvs)) (q : Q (.bl (if neg then !(valD kvs (.inr z)).isSome else (valD kvs (.inr z)).isSome)) S) : dinA neg Q (.ref a) (.str z) S := ⟨a, kvs, .inr z, rfl, hS, rfl, q⟩
def dgetA (Q : K3) (x y : D) (S : Hp3) : Prop := ∃ a kvs k v, x = .ref a ∧ S a = some (.dic kvs) ∧ y = kD k ∧ valD kvs k = some v ∧ Q v S
theorem j_dget (h : te σ S fun x S1 => ta σ S1 fun y S2 => dgetA Q x y S2) : dget3 te ta σ S Q := h
def dputA (n : St3 → Hp3 → Prop) (σ : St3) (v x y : D) (S : Hp3) : Prop := ∃ a kvs k, x = .ref a ∧ S a = some (.dic kvs) ∧ y = kD k ∧ kvs.length < sizeLine ∧ n σ (up S a (.dic (putD kvs k v)))
theorem j_dput {tv : TE3} (h : tv σ S fun v S1 => te σ S1 fun x S2 => ta σ S2 fun y S3 => dputA n σ v x y S3) : dput3 te ta tv ⟨n, rt, b, c⟩ σ S := h
end
theorem FnOk.frame {P : Program} {w : World} {K : PySem.W.Frag} {mg : Str → Option Value} {base : Heap} {k : Nat} {f : Addr} {fd : FuncData} {ps : List Str} {sp : Sp3} (F : FnOk P w K mg base (CX1 P w) k f fd ps (lSp K sp)) : FnOk P w K mg base (CX1 P w) k f fd ps (lSp K (fr sp)) := by
  refine L2.FnOk.imp F fun vs H Q E ⟨Z, ds, S, Q3, E3, h1, l, ⟨S0, F, hs, h3⟩, cq, ce⟩ => ?_
  refine ⟨Z.with H F, ds, S0, _, _, h1, ⟨fun a o e => ?_, fun a z => ?_, Kp.refl _ _⟩, h3, ?_, ?_⟩
  · refine l.obj a o ?_
    rcases hs a with ⟨q, _⟩ | ⟨q, _⟩
    · rw [q]; exact e
    · rw [q] at e; cases e
  · rcases z with z | z
    · have z2 := l.hid a z
      refine ⟨?_, z2.2⟩
      rcases hs a with ⟨q, _⟩ | ⟨q, _⟩
      · rw [← q]; exact z2.1
      · exact q
    · rcases hs a with ⟨_, q⟩ | ⟨q, q2⟩
      · exact absurd q z
      · refine ⟨q, ?_⟩
        cases e : F a with
        | none => exact absurd e z
        | some o => exact (l.obj a o (q2.trans e)).there
  · intro d S1 v H' k1 r1 l1 ⟨S2, hsub, q⟩
    obtain ⟨sp', l'⟩ := l.frame hs k1 l1 hsub
    exact cq d _ v H' (k1.unhide fun a z => .inl z) r1 l' (q _ sp')
  · intro C a S1 H' k1 l1 ha ⟨S2, hsub, q⟩
    obtain ⟨sp', l'⟩ := l.frame hs k1 l1 hsub
    exact ce C a _ H' (k1.unhide fun a z => .inl z) l' ha (q _ sp')
/-- the law itself -/
def lawS : Sp3 := vS fun ds q => ∃ ns : List Int, ds = [.rol (ns.map D.int)] ∧ ns.length ≤ 63 ∧ q (.bl true)
theorem law_fn {P : Program} {w : World} {K : PySem.W.Frag} {mg : Str → Option Value} {base : Heap} {k : Nat} {st : Stmt} {f : Addr} {fd : FuncData} {N : List Str} (F : Fun K "law" "law" st f fd) (S : FnScope N ["script"] (defScope st))
    (hbody : ∀ (cdv : Value) (A : Around) (outer : List Env) (s : Shared) (H : Hp) (E : XK) (ns : List Int), Room k (A.deeper (envOfC "law" (defScope st) s.heap.objs.size f cdv)) → ns.length ≤ 63 →
      ∃ t, PSs3 (cxOf (CX1 P w) P w K mg base N "law" (defScope st) f cdv A outer s H E).nox NoX (defBody st) t ∧ t { nx := fun _ _ => False, rt := fun d _ => d = .bl true } (start3 N [.rol (ns.map D.int)]) emp) :
    FnOk P w K mg base (CX1 P w) (k + 1) f fd ["script"] (lSp K lawS) := by
  obtain ⟨oc, od, kV, doc, pm, an, cdv, ct, osl, rfl, lk, hcd⟩ := F.ex
  refine L2.FnOk.imp (sp := lSp K (fr fun ds S Q E => S = emp ∧ ∃ ns : List Int, ds = [.rol (ns.map D.int)] ∧ ns.length ≤ 63 ∧ ∀ S', Q (.bl true) S')) (FnOk.frame ?_) fun vs H Q E ⟨Z, ds, S, Q3, E3, h1, l, ⟨ns, e, h63, q⟩, h⟩ => ⟨Z, ds, S, Q3, E3, h1, l, ⟨emp, S, spl_emp S, rfl, ns, e, h63, fun S1 => ⟨emp, sub_emp _, fun S' hS => spl_emp_eq hS ▸ q⟩⟩, h⟩
  refine fn_of lk hcd S (fun vs H Q E ⟨Z, ds, S, Q3, E3, h1, _, ⟨_, ns, z, _⟩, _⟩ => by rw [← h1.len, z]; rfl) fun A outer s H vs Q E hr ⟨Z, ds, S3, Q3, E3, h1, h2, ⟨e1, ns, e2, h63, hq⟩, h4, _⟩ => ?_
  subst e1 e2
  obtain ⟨t, ht, q⟩ := hbody cdv A outer s H E ns hr h63
  refine ⟨_, (ht (zx0 Z H)).nox, _, start3 N [.rol (ns.map D.int)], emp, ?_, h2.into, q, ⟨?_, ?_, ?_, ?_⟩⟩
  · unfold start3 L2.start
    rw [h1.len]
    exact paired_append (SR.ofRps h1) (SR.nones _)
  · exact fun _ _ _ _ _ _ _ z => z.elim
  · exact fun _ _ _ _ _ _ _ z => z
  · exact fun _ _ _ _ _ _ _ z => z
  · intro d S' v H' kk r l e
    have e : d = .bl true := e
    subst e
    exact h4 _ S' v H' (kk.unhide fun _ z => z) r (l.out h2 kk) (hq S')
theorem law_sp {K : PySem.W.Frag} {H : Hp} {a : Addr} {ns : List Int} (hl : ns.length ≤ 63) (hO : Only H) (h : SqL K H a (ns.map V.int)) : lSp K lawS [.ref a] H (fun v _ => v = .bl true) fun _ _ _ => False := by
  refine ⟨⟨fun _ => False, H⟩, [.rol (ns.map D.int)], emp, fun d _ => d = .bl true, fun _ _ _ => False, .cons (.rol (ScR.of h hO) (Rps.ints ns)) .nil, ⟨fun a o e => (nomatch e), fun a z => z.elim, Kp.refl _ _⟩, ⟨ns, rfl, hl, rfl⟩, ?_, fun _ _ _ _ _ _ _ z => z⟩
  intro d S v H' _ r _ e
  have e : d = .bl true := e
  subst e
  cases r
  rfl
theorem hu_deep {A : Around} {k : Nat} (hr : Room k A) : A.units + 200 < cLine := by have := hr.un; omega
end E3

namespace E3
open PySem PySem.Spec PyProof.Rows L2 EE
theorem Sub.refl (S : Hp3) : Sub S S := fun _ _ h => h
theorem Sub.trans {A B C : Hp3} (h : Sub A B) (h' : Sub B C) : Sub A C := fun a o e => h' a o (h a o e)
theorem Sub.up {A B : Hp3} {p : Addr} {o : O} (h : Sub A B) (hp : B p = none) : Sub A (up B p o) := fun a u e => up_get (h a u e) hp
theorem Sub.free {A B : Hp3} {p : Addr} (h : Sub A B) (hp : B p = none) : A p = none := by
  cases e : A p with
  | none => rfl
  | some o => rw [h p o e] at hp; cases hp
theorem Sub.upd {A B : Hp3} {p : Addr} {o : O} (h : Sub A B) : Sub (E3.up A p o) (E3.up B p o) := fun a u e => by
  by_cases c : a = p
  · subst c; rw [up_same] at e ⊢; exact e
  · rw [up_ne c] at e ⊢; exact h a u e
/-- an address that is new in A is written -/
theorem Sub.at {A B : Hp3} {p : Addr} {o : O} (h : Sub A B) (hp : A p = none) : Sub A (E3.up B p o) := fun a u e => by
  rw [up_ne (ne3 e hp)]; exact h a u e
section
variable {P : Program} {w : World} {K : PySem.W.Frag} {mg : Str → Option Value} {base : Heap} {x : Str} {st : Stmt} {N ps : List Str} {k : Nat}
/-- what is left of the heap may be forgotten -/
theorem Cal3.drop {sp : Sp3} (C : Cal3 P w K mg base k x ps sp) : Cal3 P w K mg base k x ps (fun ds S Q E => sp ds S (fun d S1 => ∃ S2, Sub S2 S1 ∧ Q d S2) E) := by
  obtain ⟨f, fd, F0, r⟩ := C.ex
  refine ⟨f, fd, F0.imp fun vs H Q E ⟨Z, ds, S, Q3, E3, h1, l, h3, cq, ce⟩ => ⟨Z, ds, S, _, E3, h1, l, h3, ?_, ce⟩, r⟩
  intro d S1 v H' k1 r1 l1 ⟨S2, hsub, q⟩
  exact cq d S2 v H' k1 r1 (l1.sub hsub) q
/-- a def that calls itself: nothing is promised at level nought -/
theorem _root_.EE.Has.none3 {sp : Sp3} (h : Has K mg x st ps) (no : ∀ ds S Q E, ¬ sp ds S Q E) (j : Nat) : Cal3 P w K mg base j x ps sp := by
  obtain ⟨f, fd, F, b, m⟩ := h.ex
  have no' : ∀ vs H Q E, ¬ lSp K sp vs H Q E := fun vs H Q E ⟨Z, ds, S, Q3, E3, _, _, z, _⟩ => no _ _ _ _ z
  exact ⟨f, fd, ⟨fun vs H Q E h => absurd h (no' vs H Q E), fun A outer s H args us vs Q E _ _ _ _ h => absurd h (no' vs H Q E)⟩, b, F.kp, m⟩
end
end E3
namespace E3
open PySem PySem.Spec PyProof.Rows L2 EE
section
variable {P : Program} {w : World} {K : PySem.W.Frag} {mg : Str → Option Value} {base : Heap} {x : Str} {st : Stmt} {N ps : List Str} {k : Nat}
end
section
variable {σ : St3} {S : Hp3} {Q : K3}
theorem j_pow {g : Int → Int → D} {k j : Int} (h : CPow k j) (q : Q (g k j) S) : ic3 CPow g (.int k) (.int j) S Q := ⟨k, j, rfl, rfl, h, q⟩
theorem j_mul {g : Int → Int → D} {k j : Int} (h : CMul k j) (q : Q (g k j) S) : ic3 CMul g (.int k) (.int j) S Q := ⟨k, j, rfl, rfl, h, q⟩
theorem j_neg {σ : St3} {te : TE3} (h : te σ S fun x S1 => ∃ i, x = .int i ∧ Q (.int (-i)) S1) : u3 (fun x S Q => ∃ i, x = .int i ∧ Q (.int (-i)) S) te σ S Q := h
end
end E3
namespace E3
/-- all but one place as it was -/
def Px (sp : PySem.Addr) (S X : Hp3) : Prop := ∀ a u, a ≠ sp → S a = some u → X a = some u
theorem Px.refl (sp : PySem.Addr) (S : Hp3) : Px sp S S := fun _ _ _ h => h
theorem Px.at {sp : PySem.Addr} {S X : Hp3} {o : O} (h : Px sp S X) : Px sp S (up X sp o) := fun a u n e => by rw [up_ne n]; exact h a u n e
theorem Px.new {sp p : PySem.Addr} {S X : Hp3} {o : O} (h : Px sp S X) (hp : X p = none) : Px sp S (up X p o) := fun a u n e => up_get (h a u n e) hp
theorem Px.sub {sp : PySem.Addr} {S X : Hp3} {o : O} (h : Px sp S X) (hx : X sp = some o) : Sub (up S sp o) X := fun a u e => by
  by_cases c : a = sp
  · subst c; rw [up_same] at e; rw [hx]; exact e
  · rw [up_ne c] at e; exact h a u c e
end E3
namespace E3
theorem Px.fresh {sp p : PySem.Addr} {S X : Hp3} {o : O} (h : Px sp S X) (hp : S p = none) : Px sp S (up X p o) := fun a u n e => by rw [up_ne (ne3 e hp)]; exact h a u n e
theorem Px.free {sp p : PySem.Addr} {S X : Hp3} (h : Px sp S X) (hp : X p = none) (n : p ≠ sp) : S p = none := by
  cases e : S p with
  | none => rfl
  | some o => rw [h p o n e] at hp; cases hp
end E3
namespace E3
theorem Px.ext {sp : PySem.Addr} {S X Y : Hp3} (h : Px sp S X) (h' : Sub X Y) : Px sp S Y := fun a u n e => h' a u (h a u n e)
end E3

namespace E3
open PySem PySem.Spec PyProof.Rows L2 EE
/-! ### an exception leaves a def -/
theorem objOk_some {P : Program} {w : World} {H : Hp} {h : Heap} {a : Addr} {o : HO} (x : ObjOk P w H h a o) : ∃ u, h.get? a = some u := by
  cases o with
  | lst xs => obtain ⟨_, _, _, _, e⟩ := x; exact ⟨_, e⟩
  | tup xs => obtain ⟨_, _, _, o, e, _⟩ := x; exact ⟨_, e⟩
  | dK kvs => obtain ⟨_, _, _, _, o, _, _, e, _⟩ := x; exact ⟨_, e⟩
  | dT kvs => obtain ⟨_, _, _, _, o, _, _, e, _⟩ := x; exact ⟨_, e⟩
  | set S n => obtain ⟨o, _, _, _, e, _⟩ := x; exact ⟨_, e⟩
  | ins C dx fs => obtain ⟨_, _, _, e, _⟩ := x; exact ⟨_, e⟩
  | own y => exact x
  | xd fs => obtain ⟨_, ⟨_, _, _, e, _⟩, _⟩ := x; exact ⟨_, e⟩
  | rng lo hi => obtain ⟨_, _, _, e⟩ := x; exact ⟨_, e⟩
  | frz ob u => obtain ⟨e, _⟩ := x; exact ⟨_, e⟩
  | tbl ps => exact ⟨_, show h.get? a = some _ from x⟩
  | met f y => exact ⟨_, show h.get? a = some _ from x⟩
  | ext φ => exact x.2.1
theorem hok_none {P : Program} {w : World} {H : Hp} {h : Heap} {a : Addr} (x : HOk P w H h) (e : h.get? a = none) : H a = none := by
  cases q : H a with
  | none => rfl
  | some o => obtain ⟨u, z⟩ := objOk_some (x a o q); rw [e] at z; cases z
section
variable {P : Program} {w : World} {K : PySem.W.Frag} {mg : Str → Option Value} {base : Heap} {N : List Str} {qual : Str} {scope : Scope} {f : Addr} {cd : Value} {A : Around} {outer : List Env} {s s2 : Shared} {H H1 : Hp} {E : XK}
  {pins : List (Addr × Obj)} {σ : L2.St} {a C : Addr}
/-- the frames that run -/
theorem frames_all (I : Inv (cxOf (CX1 P w) P w K mg base N qual scope f cd A outer s H E) pins σ H1 s2) : s2.heap.FunFrames base (envOfC qual scope s.heap.objs.size f cd :: outer) := by
  obtain ⟨m, ⟨o, es, ep, ho, hd, _⟩, _⟩ := I.loc
  have hk : scope.kind = .function := I.ok.kind
  refine ⟨?_, ⟨s.heap.objs.size, o, rfl, ?_, ho, fun vs z => ?_⟩, I.funs⟩
  · show scope.kind ≠ .module
    rw [hk]
    intro z
    cases z
  · cases q : base.get? s.heap.objs.size with
    | none => rfl
    | some u => exact absurd (Nat.lt_of_lt_of_le (Heap.lt_size q) I.ok.bsz) (Nat.lt_irrefl _)
  · rw [hd] at z
    cases z
theorem cx1_of {a0 : Value} {h' : Heap} (hold : List Addr) (I : Inv (cxOf (CX1 P w) P w K mg base N qual scope f cd A outer s H E) pins σ H1 s2) (hh : ∀ b ∈ hold, H1 b = none ∧ s.heap.get? b = none) (na : H1 a = none ∧ s.heap.get? a = none)
    (fl : Heap.FlyingW (PySem.W.hideAll s2.heap (hold ++ frs (envOfC qual scope s.heap.objs.size f cd :: outer))) outer a (.ref C) a0 h') (us : s2.heap.UpToSlots h') (q : E (.ref C) (some a) H1) {s3 : Shared} (h3 : s3.heap = h') (ho : s3.os = s2.os) (hg : s3.gens = s2.gens) :
    CX1 P w outer H s E (.ref a) s3 := by
  have all := frames_all I
  have frL : frs (envOfC qual scope s.heap.objs.size f cd :: outer) = s.heap.objs.size :: frs outer := rfl
  have hL : s.heap.get? s.heap.objs.size = none := by
    cases q : s.heap.get? s.heap.objs.size with
    | none => rfl
    | some u => exact absurd (Heap.lt_size q) (Nat.lt_irrefl _)
  have frame : ∀ b, b ∈ frs (envOfC qual scope s.heap.objs.size f cd :: outer) → H1 b = none ∧ ∃ o, s2.heap.get? b = some o ∧ ∀ vs, o.data ≠ .fields vs := by
    intro b hb
    refine ⟨?_, (all.mem hb).2⟩
    rw [frL] at hb
    rcases List.mem_cons.mp hb with rfl | hb
    · exact I.free
    · obtain ⟨_, o, e, _⟩ := I.ok.funs.mem hb
      exact I.base.free b o e (I.ok.frf b hb) (by exact List.not_mem_nil)
  have keep : ∀ b o, s2.heap.get? b = some o → b ∉ hold → b ∉ frs (envOfC qual scope s.heap.objs.size f cd :: outer) → h'.get? b = some o := fun b o e n1 n2 =>
    fl.1 b o (PySem.W.hideAll_get _ e fun z => (List.mem_append.mp z).elim n1 n2)
  have slot : ∀ b o, s2.heap.get? b = some o → b ∈ frs (envOfC qual scope s.heap.objs.size f cd :: outer) → ∃ sl, h'.get? b = some { o with slots := sl } := fun b o e hb => by
    obtain ⟨_, o', e', hn⟩ := frame b hb
    rw [e] at e'
    cases e'
    exact us b o e hn
  have nold : ∀ b o, s.heap.get? b = some o → b ∉ hold := fun b o e z => by rw [(hh b z).2] at e; cases e
  have nL : ∀ b o, s.heap.get? b = some o → b ∉ frs outer → b ∉ frs (envOfC qual scope s.heap.objs.size f cd :: outer) := fun b o e n z => by
    rw [frL] at z
    rcases List.mem_cons.mp z with rfl | z
    · rw [hL] at e; cases e
    · exact n z
  obtain ⟨f1, f2, f3, oe, vs, T, oT, ts, he, ⟨hc, h0⟩, hd, h1, hnT, hTe, hT, hdT, h3T⟩ := fl
  have hTfr : T ∉ frs (envOfC qual scope s.heap.objs.size f cd :: outer) := fun z => by
    obtain ⟨_, o', e', hn⟩ := frame T z
    obtain ⟨sl, e2⟩ := us T o' e' hn
    rw [hT] at e2
    cases e2
    exact hn _ hdT
  have tT : H1 T = none ∧ s.heap.get? T = none := by
    by_cases hz : T ∈ hold
    · exact hh T hz
    · have n2 : s2.heap.get? T = none := by
        cases q : s2.heap.get? T with
        | none => rfl
        | some o =>
          rw [PySem.W.hideAll_get _ q fun z => (List.mem_append.mp z).elim hz hTfr] at hnT
          cases hnT
      refine ⟨hok_none I.hok n2, ?_⟩
      cases q : s.heap.get? T with
      | none => rfl
      | some o =>
        obtain ⟨o', e'⟩ := I.base.there T o q (by exact List.not_mem_nil)
        rw [n2] at e'
        cases e'
  refine ⟨a, C, T, H1, rfl, ho.trans I.os, ?_, ?_, ?_, ?_, na.1, tT.1, na.2, tT.2, q⟩
  · rw [hg]; exact I.bare
  · rw [h3]
    refine ⟨fun b o e n hf hx => ?_, fun b o e n hf hx => ?_, fun b o e n hx => I.base.free b o e n (by exact List.not_mem_nil), fun b o e hx => ?_, I.base.tups, I.base.frzs, I.base.tbls⟩
    · exact keep b o (I.base.keep b o e n hf (by exact List.not_mem_nil)) (nold b o e) (nL b o e hf)
    · obtain ⟨sl, e1⟩ := I.base.slot b o e n hf (by exact List.not_mem_nil)
      obtain ⟨sl', e2⟩ := slot b _ e1 (by rw [frL]; exact .tail _ hf)
      exact ⟨sl', e2⟩
    · obtain ⟨o', e1⟩ := I.base.there b o e (by exact List.not_mem_nil)
      by_cases hb : b ∈ frs (envOfC qual scope s.heap.objs.size f cd :: outer)
      · obtain ⟨sl, e2⟩ := slot b _ e1 hb
        exact ⟨_, e2⟩
      · exact ⟨_, keep b _ e1 (nold b o e) hb⟩
  · rw [h3]
    intro b o e
    refine (I.hok b o e).stay (fun c u hc q => ?_) (fun _ q => q) fun _ _ q => q
    have hcH : H1 c ≠ none := by
      rcases hc with rfl | z
      · rw [e]; simp
      · rw [z]; simp
    exact keep c u q (fun z => hcH (hh c z).1) fun z => hcH (frame c z).1
  · rw [h3]
    exact ⟨hTe, ⟨oe, vs, a0, he, hc, hd, h0, h1⟩, ⟨oT, ts, hT, hdT, h3T⟩⟩
/-- an exception of a call goes on -/
theorem pass_on : Passes (CX1 P w) (cxOf (CX1 P w) P w K mg base N qual scope f cd A outer s H E) E := by
  intro pins σ H1 s1 e s' I ⟨a, C, T, H', he, hos, hb, u, hok, fly, ha, hT, na, nT, z⟩
  subst he
  have I' := I.call' hos u hok hb fun _ z => nomatch z
  have all := frames_all I'
  have old : ∀ b, s1.heap.get? b = none → s.heap.get? b = none := fun b e => by
    cases q : s.heap.get? b with
    | none => rfl
    | some o =>
      obtain ⟨o', e'⟩ := I.base.there b o q (by exact List.not_mem_nil)
      rw [e] at e'
      cases e'
  obtain ⟨oe, vs, a0, e1, e2, e3, e4, e5⟩ := fly.exc
  obtain ⟨oT, ts, t1, t2, t3⟩ := fly.tb
  have hl : ∀ env ∈ (envOfC qual scope s.heap.objs.size f cd :: outer), ∀ b, env.frame = some b → b ∈ [a, T] ++ frs (envOfC qual scope s.heap.objs.size f cd :: outer) := fun env he b hb => List.mem_append_right _ (List.mem_filterMap.mpr ⟨env, he, hb⟩)
  show wpAny _ _ (leaving (envOfC qual scope s.heap.objs.size f cd) (.ref a)) _ _ s'
  refine wpAny_leaves_onW (base := PySem.W.hideAll s'.heap ([a, T] ++ frs (envOfC qual scope s.heap.objs.size f cd :: outer))) I'.ok.frames rfl ⟨fun b o q => PySem.W.of_hideAll _ q, PySem.W.hideAll_none _ (by simp), PySem.W.funFrames_hide all hl,
    oe, vs, T, oT, ts, e1, ⟨e2, e4⟩, e3, e5, PySem.W.hideAll_none _ (by simp), fly.ne, t1, t2, t3⟩ fun h' x1 x2 => ?_
  refine cx1_of [a, T] I' (fun b hb => ?_) ⟨ha, old a na⟩ x1 x2 z rfl rfl rfl
  rcases List.mem_cons.mp hb with rfl | hb
  · exact ⟨ha, old b na⟩
  · rcases List.mem_cons.mp hb with rfl | hb
    · exact ⟨hT, old b nT⟩
    · cases hb
/-- an exception of one's own, just made -/
theorem leave_new {args : List Value} {s3 : Shared} {e : Addr} (I : Inv (cxOf (CX1 P w) P w K mg base N qual scope f cd A outer s H E) pins σ H1 s2) (hx : Heap.MadeExcOf s2.heap s3.heap e (.ref C) args) (ho : s3.os = s2.os) (hg : s3.gens = s2.gens) (q : E (.ref C) (some e) H1) :
    (cxOf (CX1 P w) P w K mg base N qual scope f cd A outer s H E).xe (.ref e) s3 := by
  have all := frames_all I
  have hl : ∀ env ∈ (envOfC qual scope s.heap.objs.size f cd :: outer), ∀ b, env.frame = some b → b ∈ [] ++ frs (envOfC qual scope s.heap.objs.size f cd :: outer) := fun env he b hb => List.mem_append_right _ (List.mem_filterMap.mpr ⟨env, he, hb⟩)
  show wpAny _ _ (leaving (envOfC qual scope s.heap.objs.size f cd) (.ref e)) _ _ s3
  refine wpAny_leaves_madeW (base := PySem.W.hideAll s2.heap ([] ++ frs (envOfC qual scope s.heap.objs.size f cd :: outer))) (h := s2.heap) I.ok.frames rfl (fun b o q => PySem.W.of_hideAll _ q) (PySem.W.funFrames_hide all hl) hx fun h' t x1 _ _ x4 => ?_
  refine cx1_of [] I (fun b hb => nomatch hb) ⟨hok_none I.hok hx.new, ?_⟩ x1 ((Heap.UpToSlots.of_keeps hx.keeps).trans x4) q rfl ho hg
  cases q : s.heap.get? e with
  | none => rfl
  | some o =>
    obtain ⟨o', e'⟩ := I.base.there e o q (by exact List.not_mem_nil)
    rw [hx.new] at e'
    cases e'
end
end E3
namespace E3
open PySem PySem.Spec PyProof.Rows L2 EE
section
variable {P : Program} {w : World} {K : PySem.W.Frag} {mg : Str → Option Value} {base : Heap} {x : Str} {st : Stmt} {N ps : List Str} {k : Nat}
/-- a def's body, with a wish about its exceptions -/
def zxE {f : Addr} {cdv : Value} {A : Around} {outer : List Env} {s : Shared} {H : Hp} {E : XK} {scope : Scope} (Z : Zt) (W : X3) (o : Kp Z Z.base H) (ce : CE3 K Z H W E) : ZX (cxOf (CX1 P w) P w K mg base N x scope f cdv A outer s H E) (fun _ => W) where
  z := Z.at H
  E := fun _ => E
  pass := fun τ pins H s e s' I q => pass_on pins τ H s e s' I q
  rz := fun _ _ _ _ _ _ _ _ I hx ho hg q => leave_new I hx ho hg q
  ce := fun _ _ C a S H' _ l ha q => ce C a S H' (l.old.unhide fun _ z => z) ⟨l.obj, l.hid, o.trans (l.old.unhide fun _ z => z)⟩ ha q
/-- THE RULE for a def that may raise -/
theorem _root_.EE.Has.cal3x {sp : Sp3} (h : Has K mg x st ps) (S : FnScope N ps (defScope st)) (len : ∀ vs H Q E, sp vs H Q E → vs.length = ps.length)
    (hbody : ∀ (f : Addr) (cdv : Value) (A : Around) (outer : List Env) (s : Shared) (H : Hp) (E : XK) (ds : List D) (S : Hp3) (Q : K3) (W : X3), Room k (A.deeper (envOfC x (defScope st) s.heap.objs.size f cdv)) → sp ds S Q W →
      ∃ t Q' W', PSs3 (cxOf (CX1 P w) P w K mg base N x (defScope st) f cdv A outer s H E) (fun _ => W') (defBody st) t ∧ t { nx := fun _ S' => Q' .non S', rt := Q' } (start3 N ds) S ∧ (∀ d S', Q' d S' → Q d S') ∧ ∀ C a S', W' C a S' → W C a S') : Cal3 P w K mg base (k + 1) x ps sp := by
  obtain ⟨f, fd, F, b, m⟩ := h.ex
  obtain ⟨oc, od, kV, doc, pm, an, cdv, ct, osl, rfl, lk, hcd⟩ := F.ex
  refine ⟨f, _, fn_of lk hcd S (fun vs H Q E ⟨Z, ds, S, Q3, E3, h1, _, h3, _⟩ => by rw [← h1.len]; exact len _ _ _ _ h3) fun A outer s H vs Q E hr ⟨Z, ds, S3, Q3, E3, h1, h2, h3, h4, h5⟩ => ?_, b, F.kp, m⟩
  obtain ⟨t, Q', W', ht, q, hw, hx⟩ := hbody f cdv A outer s H E ds S3 Q3 E3 hr h3
  refine ⟨_, ht (zxE Z W' h2.old fun C a S' H' kk l ha z => h5 C a S' H' kk l ha (hx _ _ _ z)), _, start3 N ds, S3, ?_, h2.into, q, ⟨?_, ?_, ?_, ?_⟩⟩
  · unfold start3 L2.start
    rw [h1.len]
    exact paired_append (SR.ofRps h1) (SR.nones _)
  · intro σ S' τ H' kk _ l q'
    exact h4 .non S' .non H' (kk.unhide fun _ z => z) .non (l.out h2 kk) (hw _ _ q')
  · exact fun _ _ _ _ _ _ _ z => z
  · exact fun _ _ _ _ _ _ _ z => z
  · exact fun d S' v H' kk r l q' => h4 d S' v H' (kk.unhide fun _ z => z) r (l.out h2 kk) (hw _ _ q')
/-- a def that answers a value or raises -/
def vX (A : List D → (D → Prop) → (Addr → Prop) → Prop) : Sp3 := fun ds S Q W => A ds (fun d => Q d S) fun C => ∀ a, W C a S
theorem _root_.EE.Has.valX {A : List D → (D → Prop) → (Addr → Prop) → Prop} (h : Has K mg x st ps) (S : FnScope N ps (defScope st)) (len : ∀ ds q qx, A ds q qx → ds.length = ps.length)
    (hbody : ∀ (f : Addr) (cdv : Value) (Ar : Around) (outer : List Env) (s : Shared) (H : Hp) (E : XK) (ds : List D) (q : D → Prop) (qx : Addr → Prop), Room k (Ar.deeper (envOfC x (defScope st) s.heap.objs.size f cdv)) → A ds q qx →
      ∃ t, PSs3 (cxOf (CX1 P w) P w K mg base N x (defScope st) f cdv Ar outer s H E) (fun _ C _ _ => qx C) (defBody st) t ∧ t { nx := fun _ _ => q .non, rt := fun d _ => q d } (start3 N ds) emp) : Cal3 P w K mg base (k + 1) x ps (vX A) := by
  have C : Cal3 P w K mg base (k + 1) x ps (fun ds S Q E => S = emp ∧ ∃ q qx, A ds q qx ∧ (∀ d S', q d → Q d S') ∧ ∀ C a S', qx C → E C a S') := by
    refine h.cal3x S (fun vs H Q E ⟨_, q, qx, z, _⟩ => len _ _ _ z) fun f cdv Ar outer s H E ds S3 Q E3 hr z => ?_
    obtain ⟨rfl, q, qx, z, hq, hx⟩ := z
    obtain ⟨t, h1, h2⟩ := hbody f cdv Ar outer s H E ds _ _ hr z
    exact ⟨t, fun d _ => q d, fun C _ _ => qx C, h1, h2, hq, hx⟩
  exact C.frame.imp fun ds S Q E z => ⟨emp, S, spl_emp S, rfl, _, _, z, fun d S1 hq => ⟨emp, sub_emp _, fun S' h => spl_emp_eq h ▸ hq⟩, fun C a S1 hx => ⟨emp, sub_emp _, fun S' h => spl_emp_eq h ▸ hx a⟩⟩
/-- loops in a def that may raise -/
theorem pown {qual : Str} {scope : Scope} {f : Addr} {cd : Value} {A : Around} {outer : List Env} {s : Shared} {H : Hp} {E : XK} :
    PassesOwn (model P w) (cxOf (CX1 P w) P w K mg base N qual scope f cd A outer s H E).A (cxOf (CX1 P w) P w K mg base N qual scope f cd A outer s H E).env (cxOf (CX1 P w) P w K mg base N qual scope f cd A outer s H E).xe := PassesOwn.leaving
end
end E3

namespace E3
open PySem PySem.Spec PyProof.Rows L2 EE
/-! ### raise C(..), C a class of one's own under ValueError -/
abbrev bmVE : List Value := [.type "ValueError", .type "Exception", .type "BaseException", .type "object"]
theorem exc_obj {K : PySem.W.Frag} {h : Heap} {C : Addr} {bmB : List Value} {newId : String} (X : K.In h) (q : PySem.W.excIn K C bmB newId = true) :
    ∃ bm N nm qn bs hdct sn sub ab col dd q0 q1 q2 q3 q5 mN, h.get? C = some (excClassObj nm qn C N bs bm hdct sn sub ab col dd q0 q1 q2 q3 q5 newId) ∧ h.Ns N mN ∧ mN "__init__" = none ∧ OwnTail h bmB bm := by
  unfold PySem.W.excIn at q
  split at q
  · rename_i dd cd sl ho
    split at q
    · rename_i Ca bm q0 q1 q2 q3 n q5 hmr hsz
      simp only [Bool.and_eq_true, beq_iff_eq, Bool.not_eq_true'] at q
      obtain ⟨⟨⟨⟨⟨rfl, rfl⟩, hde⟩, ht⟩, hns⟩, hin⟩ := q
      obtain ⟨nm, bs, mro, ns, qn, hd, sn, sub, ab, col, del⟩ := cd
      dsimp only at hmr hde hns hin
      subst hmr hde
      have hsa : sl = #[q0, q1, q2, q3, some (.builtin n), q5] := by
        obtain ⟨l⟩ := sl
        simp only at hsz
        rw [hsz]
      subst hsa
      exact ⟨bm, ns, nm, qn, bs, hd, sn, sub, ab, col, dd, q0, q1, q2, q3, q5, _, X _ _ ho, .of_isNs (PySem.W.isNs_of_in X hns), PySem.W.nsMap_none_of_in X hns hin, PySem.W.tail_of_in X ht⟩
    · cases q
  · cases q
section
variable {X : Cx} {x : Str} {C : Addr} {np cpos pos : Pos} {e : Expr} {es : List Expr}
theorem ps_raise {ta : TA} {E : L2.St → XK} (hm : X.mg x = some (.ref C)) (q : PySem.W.excIn X.K C bmVE "ValueError.__new__" = true) (hc : X.calm = true) (hg : Gl X x) (rz : ∀ τ, RaisesAt X (E τ) τ) (ha : PA X (e :: es) ta)
    (hd : (x == ("__debug__" : Str)) = false := by decide) (he : starEach (e :: es) X.env = (false, eval e X.env) :: starEach es X.env := by rfl) (hpl : (backTo cpos (starEach es X.env)).any (·.1) = false := by rfl) :
    PS X (.Raise (some (.Call (.Name x np) (e :: es) [] cpos)) none pos) (fun _ τ H => ta τ H fun vs H1 => vs.length ≤ sizeLine ∧ ∀ a, H1 a = none → E τ (.ref C) (some a) H1) := by
  intro pins s σ H D I h
  obtain ⟨bm, N, nm, qn, bs, hdct, sn, sub, ab, col, dd, k0, k1, k2, k3, k5, mN, hC, hN, hni, T⟩ := exc_obj I.mod.kin q
  refine wpAny_Raise_call_subT (C := C) (nm := nm) (q := qn) (N := N) (bs := bs) (bm := bm) (hdct := hdct) (sn := sn) (sub := sub) (ab := ab) (col := col) (dd := dd) (k0 := k0) (k1 := k1) (k2 := k2) (k3 := k3) (k5 := k5)
    PySem.F.excBase_ValueError (mN := mN) (T.hasType PySem.F.excBase_ValueError.hasBase) (I.ok.hd hc) (by rw [he]; show (false || (backTo cpos (starEach es X.env)).any (·.1)) = false; rw [hpl]; rfl) hni (ld_glob I hg hm ⟨rfl, ?_⟩ hd)
  have h1 := ha cpos pins s σ H _ I h
  rw [he] at h1 ⊢
  refine Calls.evalArgs_plain (wpAny_mono h1 (fun us s1 ⟨vs, H1, I1, r, hl, z⟩ => ?_) fun _ _ y => y)
  have keep : ∀ b o, X.base.get? b = some o → s1.heap.get? b = some o := I1.bk
  refine ⟨rfl, by show us.length ≤ sizeLine; rw [← r.length]; exact hl, keep _ _ hC, hN.keeps keep, T.keeps keep, fun h' a hx => ?_⟩
  exact rz σ pins H1 s1 _ a C us I1 hx rfl rfl (z a (hok_none I1.hok hx.new))
def raise3 (W3 : W3T) (C : Addr) (ta : TA3) : TS3 := fun _ σ S => ta σ S fun ds S1 => ds.length ≤ sizeLine ∧ ∀ a, W3 σ C a S1
variable {W3 : W3T}
theorem s_raise {ta : TA3} (hm : X.mg x = some (.ref C)) (q : PySem.W.excIn X.K C bmVE "ValueError.__new__" = true) (hc : X.calm = true) (hg : Gl X x) (ha : PA3 X W3 (e :: es) ta)
    (hd : (x == ("__debug__" : Str)) = false := by decide) (he : starEach (e :: es) X.env = (false, eval e X.env) :: starEach es X.env := by rfl) (hpl : (backTo cpos (starEach es X.env)).any (·.1) = false := by rfl) :
    PS3 X W3 (.Raise (some (.Call (.Name x np) (e :: es) [] cpos)) none pos) (raise3 W3 C ta) := fun Z => PS.imp (ps_raise hm q hc hg Z.rz (ha Z) hd he hpl) fun D τ H ⟨D3, σ, S, hs, hr, ht, hcd⟩ =>
  ⟨σ, S, _, hs, hr, ht, fun ds S1 vs H1 k1 r1 l1 q1 => ⟨by rw [← r1.len]; exact q1.1, fun a ha => Z.ce σ τ C a S1 H1 (hs.mono k1) l1 ha (q1.2 a)⟩⟩
/-! ### f-strings -/
def Fmt : D → Str → Prop
  | .str y, z => z = y ∧ y.length ≤ sizeLine
  | .int a, z => z = toString a ∧ a.natAbs.log2 < 1920
  | _, _ => False
def fmt3 (te : TE3) : TE3 := fun σ S Q => te σ S fun d S1 => ∃ y, Fmt d y ∧ Q (.str y) S1
def fcons3 (te : TE3) (t : Str → TE3) (acc : Str) : TE3 := fun σ S Q => te σ S fun d S1 => ∃ y, d = .str y ∧ (acc ++ y).length ≤ sizeLine ∧ t (acc ++ y) σ S1 Q
end
section
variable {σ : St3} {S : Hp3} {Q : K3} {te : TE3} {al : TA3} {n b c : St3 → Hp3 → Prop} {rt : K3} {W3 : W3T} {C : Addr}
theorem j_raise (h : al σ S fun ds S1 => ds.length ≤ sizeLine ∧ ∀ a, W3 σ C a S1) : raise3 W3 C al ⟨n, rt, b, c⟩ σ S := h
theorem j_fmt (h : te σ S fun d S1 => ∃ y, Fmt d y ∧ Q (.str y) S1) : fmt3 te σ S Q := h
theorem j_fcons {t : Str → TE3} {acc : Str} (h : te σ S fun d S1 => ∃ y, d = .str y ∧ (acc ++ y).length ≤ sizeLine ∧ t (acc ++ y) σ S1 Q) : fcons3 te t acc σ S Q := h
end
end E3

namespace E3
open PySem PySem.Spec PyProof.Rows L2 EE
/-! ### try: .. except C as n: .. -/
/-- an except suite's context; no exception leaves it -/
abbrev _root_.L2.Cx.caught (X : Cx) (v : Value) : Cx := { X with A := X.A.mark (some v), calm := false, xe := fun _ _ => False }
/-- a try body's context -/
abbrev _root_.L2.Cx.tried (X : Cx) (xe : Value → Shared → Prop) (pn : List (Addr × Obj)) : Cx := { X with xe := xe, pn := pn }
section
variable {X : Cx} {pins pn : List (Addr × Obj)} {τ : L2.St} {H H1 : Hp} {s s1 : Shared} {a C : Addr} {v : Value} {xe : Value → Shared → Prop}
theorem ok_caught (ok : X.Ok) : (X.caught v).Ok := ⟨ok.mod, ok.kind, ok.glob, ok.blt, ok.above, ok.inj, ok.has, ok.cab, (fun z => nomatch z), ok.frames, ok.stk, ok.exf, ok.bs, ok.bsz, ok.noex, ok.exfs, ok.funs, ok.frf⟩
theorem ok_tried (ok : X.Ok) : (X.tried xe pn).Ok := ⟨ok.mod, ok.kind, ok.glob, ok.blt, ok.above, ok.inj, ok.has, ok.cab, ok.hd, ok.frames, ok.stk, ok.exf, ok.bs, ok.bsz, ok.noex, ok.exfs, ok.funs, ok.frf⟩
theorem inv_caught (I : Inv X pins τ H s) : Inv (X.caught v) pins τ H s := ⟨ok_caught I.ok, I.os, I.bare, I.base, I.loc, I.cell, I.free, I.freeC, I.pin, I.hok, I.len⟩
theorem inv_uncaught (ok : X.Ok) (I : Inv (X.caught v) pins τ H s) : Inv X pins τ H s := ⟨ok, I.os, I.bare, I.base, I.loc, I.cell, I.free, I.freeC, I.pin, I.hok, I.len⟩
theorem inv_tried (I : Inv X pins τ H s) : Inv (X.tried xe (X.pn ++ pins)) [] τ H s := ⟨ok_tried I.ok, I.os, I.bare, I.base, I.loc, I.cell, I.free, I.freeC, fun p hp => I.pin p (by simpa using hp), I.hok, I.len⟩
theorem inv_untried {pins' : List (Addr × Obj)} (ok : X.Ok) (I : Inv (X.tried xe (X.pn ++ pins)) pins' τ H s) : Inv X pins τ H s := ⟨ok, I.os, I.bare, I.base, I.loc, I.cell, I.free, I.freeC, fun p hp => I.pin p (List.mem_append_left _ hp), I.hok, I.len⟩
theorem sp_untried {D : Ends} {f : Flow} (ok : X.Ok) (h : SP (X.tried xe (X.pn ++ pins)) [] D f s) : SP X pins D f s := by
  cases f with
  | next => obtain ⟨σ', H', I, q⟩ := h; exact ⟨σ', H', inv_untried ok I, q⟩
  | brk => obtain ⟨σ', H', I, q⟩ := h; exact ⟨σ', H', inv_untried ok I, q⟩
  | cont => obtain ⟨σ', H', I, q⟩ := h; exact ⟨σ', H', inv_untried ok I, q⟩
  | ret u => obtain ⟨v, σ', H', I, r, q⟩ := h; exact ⟨v, σ', H', inv_untried ok I, r, q⟩
/-- an exception is looked at: the state at its call, the heap behind it -/
structure Hld (X : Cx) (pins : List (Addr × Obj)) (τ : L2.St) (H : Hp) (a C : Addr) (s : Shared) : Prop where
  ex : ∃ (s1 : Shared) (H1 : Hp) (g : Heap) (hold : List Addr) (a0 : Value), Inv X pins τ H1 s1 ∧ Un (frs X.stack) [] H1 H s1.heap g ∧ HOk X.prog X.w H g ∧ (∀ b ∈ hold, H b = none ∧ s1.heap.get? b = none) ∧ (H a = none ∧ s1.heap.get? a = none) ∧
    Heap.FlyingW (PySem.W.hideAll g (hold ++ frs X.stack)) X.stack a (.ref C) a0 s.heap ∧ g.UpToSlots s.heap ∧ s.os = s1.os ∧ AllBare s.gens
theorem Hld.exc (h : Hld X pins τ H a C s) : ∃ o vs, s.heap.get? a = some o ∧ o.cls = .ref C ∧ o.data = .fields vs := by
  obtain ⟨s1, H1, g, hold, a0, I, u, ok, hh, na, fl, us, ho, hb⟩ := h.ex
  obtain ⟨oe, vs, h1, h2, h3, h4⟩ := fl.first
  exact ⟨oe, vs, h1, h2, h3⟩
theorem Hld.no (h : Hld X pins τ H a C s) : H a = none := by
  obtain ⟨s1, H1, g, hold, a0, I, u, ok, hh, na, fl, us, ho, hb⟩ := h.ex
  exact na.1
/-- .. the state, with or without the exception -/
theorem Hld.un (h : Hld X pins τ H a C s) (o : Option HO) (hO : ∀ q, o = some q → ObjOk X.prog X.w (upd H a q) s.heap a q) : Inv X pins τ (match o with | some q => upd H a q | none => H) s := by
  obtain ⟨s1, H1, g, hold, a0, I, u, ok, hh, na, fl, us, ho, hb⟩ := h.ex
  have I' : s.heap = s.heap := rfl
  have fr : ∀ b ∈ frs X.stack, H b = none ∧ ∃ o, g.get? b = some o ∧ ∀ vs, o.data ≠ .fields vs := by
    intro b hb
    obtain ⟨o, e, hn⟩ := (I.stack.mem hb).2
    obtain ⟨sl, e'⟩ := u.slot b o e (I.stkFree b hb) hb (by exact List.not_mem_nil)
    exact ⟨u.free b o e (I.stkFree b hb) (by exact List.not_mem_nil), _, e', hn⟩
  have keep : ∀ b o, g.get? b = some o → b ∉ hold → b ∉ frs X.stack → s.heap.get? b = some o := fun b o e n1 n2 => fl.1 b o (PySem.W.hideAll_get _ e fun z => (List.mem_append.mp z).elim n1 n2)
  have slot : ∀ b o, g.get? b = some o → b ∈ frs X.stack → ∃ sl, s.heap.get? b = some { o with slots := sl } := fun b o e hb => by
    obtain ⟨_, o', e', hn⟩ := fr b hb
    rw [e] at e'
    cases e'
    exact us b o e hn
  have nold : ∀ b o, s1.heap.get? b = some o → b ∉ hold := fun b o e z => by rw [(hh b z).2] at e; cases e
  have na' : ∀ b o, s1.heap.get? b = some o → b ≠ a := fun b o e z => by rw [z, na.2] at e; cases e
  have un : Un (frs X.stack) [] H1 H s1.heap s.heap := by
    refine ⟨fun b o e n hf hx => ?_, fun b o e n hf hx => ?_, u.free, fun b o e hx => ?_, u.tups, u.frzs, u.tbls⟩
    · exact keep b o (u.keep b o e n hf hx) (nold b o e) hf
    · obtain ⟨sl, e1⟩ := u.slot b o e n hf hx
      obtain ⟨sl', e2⟩ := slot b _ e1 hf
      exact ⟨sl', e2⟩
    · obtain ⟨o', e1⟩ := u.there b o e hx
      by_cases hb : b ∈ frs X.stack
      · obtain ⟨sl, e2⟩ := slot b _ e1 hb
        exact ⟨_, e2⟩
      · exact ⟨_, keep b _ e1 (nold b o e) hb⟩
  have hok : HOk X.prog X.w H s.heap := by
    intro b o e
    refine (ok b o e).stay (fun c u hc q => ?_) (fun _ q => q) fun _ _ q => q
    have hcH : H c ≠ Option.none := by
      rcases hc with rfl | z
      · rw [e]; simp
      · rw [z]; simp
    exact keep c u q (fun z => hcH (hh c z).1) fun z => hcH (fr c z).1
  cases o with
  | none => exact I.call' ho un hok hb fun _ z => nomatch z
  | some q =>
    have n1 : ∀ b o, H b = some o → b ≠ a := fun b o e z => by rw [z, na.1] at e; cases e
    refine I.call' ho ⟨un.keep, un.slot, fun b o e n hx => ?_, un.there, fun b xs e => ?_, fun b o u e => ?_, fun b ps e => ?_⟩ (fun b o e => ?_) hb fun _ z => nomatch z
    · show upd H a q b = Option.none
      rw [upd_ne (na' b o e)]
      exact un.free b o e n hx
    · show upd H a q b = _
      rw [upd_ne (n1 b _ (un.tups b xs e))]
      exact un.tups b xs e
    · show upd H a q b = _
      rw [upd_ne (n1 b _ (un.frzs b o u e))]
      exact un.frzs b o u e
    · obtain ⟨more, e1⟩ := un.tbls b ps e
      refine ⟨more, ?_⟩
      show upd H a q b = _
      rw [upd_ne (n1 b _ e1)]
      exact e1
    · have e : upd H a q b = some o := e
      by_cases hb : b = a
      · subst hb
        rw [upd_same] at e
        cases e
        exact hO _ rfl
      · rw [upd_ne hb] at e
        refine (hok b o e).stay (fun c u hc q => q) (fun c z => ?_) fun c xs z => ?_
        · show upd H a q c = _
          rw [upd_ne (n1 c _ z)]
          exact z
        · show upd H a q c = _
          rw [upd_ne (n1 c _ z)]
          exact z
theorem Hld.inv (h : Hld X pins τ H a C s) : Inv X pins τ H s := h.un none fun _ z => nomatch z
theorem Hld.as (h : Hld X pins τ H a C s) : Inv X pins τ (upd H a (.ext (ExcOf a C))) s := by
  obtain ⟨o, vs, h1, h2, h3⟩ := h.exc
  refine h.un (some _) fun q e => ?_
  cases e
  refine ⟨⟨o, h1, h2, vs, _, h3, rfl⟩, ⟨o, h1⟩, fun h1 h2 ⟨o, e, c, vs, n, d, hn⟩ k => ⟨o, k o e, c, vs, n, d, hn⟩⟩
/-- the exception's mark is taken away -/
theorem Hld.lands {M : Model} {A : Around} {E : Value → Shared → Prop} {Q : Unit → Shared → Prop} (h : Hld X pins τ H a C s) (k : ∀ s', Hld X pins τ H a C s' → Q () s') : wpAny M A (setFlight (.ref a) none) Q E s := by
  obtain ⟨s1, H1, g, hold, a0, I, u, ok, hh, na, fl, us, ho, hb⟩ := h.ex
  exact lands_againW fl fun h' fl' us' => k _ ⟨s1, H1, g, hold, a0, I, u, ok, hh, na, fl', us.trans us', ho, hb⟩
/-- an exception of a call is looked at -/
theorem looked_at {E : XK} {e : Value} {s' : Shared} {M : Model} {Ex : Value → Shared → Prop} {Q : Unit → Shared → Prop} (hst : X.stack = X.env :: X.outer) (hf : X.env.frame = some X.env.locals) (I : Inv X pins τ H1 s1) (cx : CX1 X.prog X.w X.stack H1 s1 E e s')
    (k : ∀ a C H s5, e = .ref a → E (.ref C) (some a) H → Hld X pins τ H a C s5 → Q () s5) :
    wpAny M X.A (noteFrame e X.env) (fun _ s2 => wpAny M X.A (setFlight e none) Q Ex s2) Ex s' := by
  obtain ⟨a, C, T, H', he, hos, hb, u, hok, fly, ha, hT, na, nT, z⟩ := cx
  subst he
  have I' := I.call' hos u hok hb fun _ z => nomatch z
  have all := I'.stack
  obtain ⟨oe, vs, a0, e1, e2, e3, e4, e5⟩ := fly.exc
  obtain ⟨oT, ts, t1, t2, t3⟩ := fly.tb
  have hl : ∀ env ∈ X.stack, ∀ b, env.frame = some b → b ∈ [a, T] ++ frs X.stack := fun env he b hb => List.mem_append_right _ (List.mem_filterMap.mpr ⟨env, he, hb⟩)
  have fl : Heap.FlyingW (PySem.W.hideAll s'.heap ([a, T] ++ frs X.stack)) X.stack a (.ref C) a0 s'.heap := ⟨fun b o q => PySem.W.of_hideAll _ q, PySem.W.hideAll_none _ (by simp), PySem.W.funFrames_hide all hl,
    oe, vs, T, oT, ts, e1, ⟨e2, e4⟩, e3, e5, PySem.W.hideAll_none _ (by simp), fly.ne, t1, t2, t3⟩
  have fl' := fl
  rw [hst] at fl'
  refine wpAny_looks_onW (by rw [I.ok.frames, hst]) hf fl' fun h4 held us4 => ?_
  refine wpAny_landsW held fun h5 fl5 us5 => ?_
  rw [← hst] at fl5
  refine k a C H' _ rfl z ⟨s1, H1, s'.heap, [a, T], a0, I, u, hok, fun b hb => ?_, ⟨ha, na⟩, fl5, us4.trans us5, hos, hb⟩
  rcases List.mem_cons.mp hb with rfl | hb
  · exact ⟨ha, na⟩
  · rcases List.mem_cons.mp hb with rfl | hb
    · exact ⟨hT, nT⟩
    · cases hb
/-- .. one that was just made -/
theorem looked_new {args : List Value} {s3 : Shared} {M : Model} {Ex : Value → Shared → Prop} {Q : Unit → Shared → Prop} (hst : X.stack = X.env :: X.outer) (hf : X.env.frame = some X.env.locals) (I : Inv X pins τ H1 s1) (hx : Heap.MadeExcOf s1.heap s3.heap a (.ref C) args)
    (ho : s3.os = s1.os) (hg : s3.gens = s1.gens) (k : ∀ s5, Hld X pins τ H1 a C s5 → Q () s5) :
    wpAny M X.A (noteFrame (.ref a) X.env) (fun _ s2 => wpAny M X.A (setFlight (.ref a) none) Q Ex s2) Ex s3 := by
  obtain ⟨t, he, htn, ht⟩ := hx.there
  have all := I.stack
  have hl : ∀ env ∈ X.stack, ∀ b, env.frame = some b → b ∈ [] ++ frs X.stack := fun env he b hb => List.mem_append_right _ (List.mem_filterMap.mpr ⟨env, he, hb⟩)
  have ff := PySem.W.funFrames_hide (as := [] ++ frs X.stack) all hl
  have fresh : ∀ b, s1.heap.get? b = none → (PySem.W.hideAll s1.heap ([] ++ frs X.stack)).get? b = none := fun b hb => by
    cases q : (PySem.W.hideAll s1.heap ([] ++ frs X.stack)).get? b with
    | none => rfl
    | some o => have := PySem.W.of_hideAll _ q; rw [hb] at this; cases this
  have ff' := ff
  rw [hst] at ff'
  unfold noteFrame
  simp only [hf]
  refine wpAny_bind (wpAny_field he rfl (x := .none) rfl ?_)
  rw [if_neg (by decide)]
  refine wpAny_entryW (base := PySem.W.hideAll s1.heap ([] ++ frs (X.env :: X.outer))) (outer := X.outer) (by rw [I.ok.frames, hst]) ?_ hf he (fun b o hb => ?_) ?_ rfl (by simp) (a0 := .ref t) rfl fun h4 ⟨n1, n2, n3, n4⟩ => ?_
  · rw [← hst]
    exact ff.of_keeps fun b o hb _ => ⟨o, hx.keeps b o hb, rfl⟩
  · rw [← hst] at hb
    exact hx.keeps b o (PySem.W.of_hideAll _ hb)
  · rw [← hst]
    exact fresh a hx.new
  · refine wpAny_landsW (base := PySem.W.hideAll s1.heap ([] ++ frs (X.env :: X.outer))) (l := X.env :: X.outer) (L := X.env.locals) (cls := .ref C) (a0 := .ref t) ⟨n1, by rw [← hst]; exact fresh a hx.new, n2, n3⟩ fun h5 fl5 us5 => ?_
    rw [← hst] at fl5
    have hbare : AllBare s3.gens := by rw [hg]; exact I.bare
    have hno : ∀ b ∈ ([] : List Addr), H1 b = Option.none ∧ s1.heap.get? b = Option.none := fun b hb => absurd hb List.not_mem_nil
    exact k _ ⟨s1, H1, s1.heap, [], .ref t, I, Un.refl, I.hok, hno, ⟨hok_none I.hok hx.new, hx.new⟩, fl5, ((Heap.UpToSlots.of_keeps hx.keeps).trans n4).trans us5, ho, hbare⟩
end
end E3

namespace E3
open PySem PySem.Spec PyProof.Rows L2 EE
/-- a class is matched -/
theorem exc_matches {K : PySem.W.Frag} {M : Model} {A : Around} {E : Value → Shared → Prop} {s : Shared} {a C Dc : Addr} {o : Obj} {b : Bool} {Q : Bool → Shared → Prop} (X : K.In s.heap) (h1 : s.heap.get? a = some o) (h2 : o.cls = .ref C) (hk : PySem.W.kitCls K (.ref C) (.ref Dc) = some b)
    (hb : PySem.W.kitCls K (.ref Dc) (.type "BaseException") = some true) (q : Q b s) : wpAny M A (excMatches (.ref a) (.ref Dc)) Q E s := by
  obtain ⟨t1, t2, t3⟩ := PySem.W.kit_cls (M := M) X hk
  obtain ⟨_, _, t4⟩ := PySem.W.kit_cls (M := M) X hb
  have LI : PySem.W.Looks M s.heap (isInstance (.ref Dc) (.type "tuple")) false := t1.andThen (PySem.W.Looks.of_pure tc_notTuple)
  have LE : PySem.W.Looks M s.heap (isExcClass (.ref Dc)) true := t2.andThen (by simpa using t4)
  have LT : PySem.W.Looks M s.heap (typeOf (.ref a)) (.ref C) := h2 ▸ (PySem.W.Looks.ld h1).andThen .now
  unfold excMatches
  refine wpAny_bind (LI.here ?_)
  rw [if_neg (by decide)]
  refine wpAny_bind (wpAny_pure ?_)
  dsimp only
  rw [List.forIn_cons]
  refine wpAny_bind (wpAny_bind (wpAny_bind (LE.here ?_)))
  rw [if_neg (by decide)]
  refine wpAny_pure ?_
  dsimp only
  rw [List.forIn_nil]
  refine wpAny_pure (wpAny_bind (LT.here ?_))
  rw [List.forIn_cons]
  refine wpAny_bind (wpAny_bind (wpAny_bind (t3.here ?_)))
  cases b
  · rw [if_neg (by decide)]
    refine wpAny_pure ?_
    dsimp only
    rw [List.forIn_nil]
    exact wpAny_pure (wpAny_pure q)
  · rw [if_pos rfl]
    exact wpAny_pure (wpAny_pure (wpAny_pure q))
section
variable {X : Cx} {W3 : W3T} {pins : List (Addr × Obj)} {τ : L2.St} {H : Hp} {s : Shared}
theorem SR.setNone {K : PySem.W.Frag} {H : Hp} : ∀ {σ : St3} {τ : L2.St} (i : Nat), SR K H σ τ → SR K H (σ.set i none) (τ.set i none)
  | _, _, _, .nil => .nil
  | _, _, 0, .cons _ t => .cons (fun e he => by cases he) t
  | _, _, i + 1, .cons q t => .cons q (SR.setNone i t)
/-- a name goes -/
theorem name_goes {M : Model} {A : Around} {E : Value → Shared → Prop} {i : Nat} {x : Str} {pos : Pos} {Q : Unit → Shared → Prop} (I : Inv X pins τ H s) (hN : X.N.Nodup) (hi : X.N[i]? = some x) (hk : X.env.scope.names.lookup x = some .local) (h : ∀ s', Inv X pins (τ.set i none) H s' → Q () s') :
    wpAny M A (do bindName X.env x .none; unbindBehindTheSuite X.env x pos) Q E s := by
  obtain ⟨m, hn, hl⟩ := id I.loc
  have hcls : (X.env.scope.kind == .class || (X.env.scope.kind == .module && X.env.locals != X.env.globals)) = false := by rw [I.ok.kind]; rfl
  obtain ⟨oL, _, _, hoL, _⟩ := id hn
  refine wpAny_nameGoes_keeps hk hn hcls fun h' v hn' hs => h _ ?_
  have ne : ∀ b o, X.s₀.heap.get? b = some o → b ≠ X.env.locals := fun b o e => Nat.ne_of_lt (Nat.lt_of_lt_of_le (Heap.lt_size e) I.ok.above)
  refine ⟨I.ok, I.os, I.bare, ⟨fun b o e n hb hx => ?_, fun b o e n hb hx => ?_, I.base.free, fun b o e hx => ?_, I.base.tups, I.base.frzs, I.base.tbls⟩, ⟨_, hn', fun j y v' e1 e2 e3 => ?_⟩, fun y c e => ?_, I.free, I.freeC, fun p hp => ?_, fun b ob e => ?_, by simpa using I.len⟩
  · exact (hs.2 b (ne b o e)).trans (I.base.keep b o e n hb hx)
  · obtain ⟨sl, e1⟩ := I.base.slot b o e n hb hx
    exact ⟨sl, (hs.2 b (ne b o e)).trans e1⟩
  · obtain ⟨o', e1⟩ := I.base.there b o e hx
    exact ⟨o', (hs.2 b (ne b o e)).trans e1⟩
  · by_cases hj : j = i
    · subst hj
      rw [List.getElem?_set] at e2
      simp at e2
    · rw [List.getElem?_set_ne (Ne.symm hj)] at e2
      obtain ⟨u', r', q⟩ := hl j y v' e1 e2 e3
      refine ⟨u', r', ?_⟩
      rcases q with ⟨k, e⟩ | ⟨k, c, e, z⟩
      · refine .inl ⟨k, ?_⟩
        have : y ≠ x := fun e => hj (nodup_ix hN e1 (e ▸ hi))
        simp [this, e]
      · exact .inr ⟨k, c, e, z.sameBut hs (I.cne y c e)⟩
  · obtain ⟨w', z⟩ := I.cell y c e
    exact ⟨w', z.sameBut hs (I.cne y c e)⟩
  · obtain ⟨e, n, ne, nf, d⟩ := I.pin p hp
    exact ⟨(hs.2 p.1 ne).trans e, n, ne, nf, d⟩
  · refine (I.hok b ob e).stay (fun c w' hc q => (hs.2 c ?_).trans q) (fun _ q => q) fun _ _ q => q
    rintro rfl
    have hfree := I.free
    rcases hc with rfl | hc
    · rw [hfree] at e; cases e
    · rw [hfree] at hc; cases hc
/-- what a list of handlers does -/
def PH3 (X : Cx) (hs : List ExceptHandler) (r : Ends3 → W3T) : Prop := ∀ (z : Zt) (pins : List (Addr × Obj)) (s : Shared) (τ : L2.St) (σ : St3) (H : Hp) (S : Hp3) (D : Ends) (D3 : Ends3) (a C : Addr), Hld X pins τ H a C s → SR X.K H σ τ → Rl X.K z S H → CD X.K z H D3 D → r D3 σ C a S →
  wpAny (model X.prog X.w) X.A (handleBy (.ref a) X.env hs) (SP X pins D) X.xe s
theorem h_nil : PH3 X [] (fun _ _ _ _ _ => False) := fun _ _ _ _ _ _ _ _ _ _ _ _ _ _ _ h => h.elim
def hAs (K : PySem.W.Frag) (Dc : Addr) (i : Nat) (t : TS3) (r : Ends3 → W3T) : Ends3 → W3T := fun D3 σ C a S => ∃ b, PySem.W.kitCls K (.ref C) (.ref Dc) = some b ∧
  if b = true then S a = none → t { nx := fun σ' S' => D3.nx (σ'.set i none) S', rt := D3.rt, bk := fun σ' S' => D3.bk (σ'.set i none) S', ct := fun σ' S' => D3.ct (σ'.set i none) S' } (σ.set i (some (.ref a))) (up S a (.exc C)) else r D3 σ C a S
variable {x n : Str} {Dc : Addr} {i : Nat} {np pos : Pos} {b0 : Stmt} {suite : List Stmt} {rest : List ExceptHandler} {t : TS3} {r : Ends3 → W3T}
theorem h_as (hm : X.mg x = some (.ref Dc)) (hb : PySem.W.kitCls X.K (.ref Dc) (.type "BaseException") = some true) (hg : Gl X x) (hN : X.N.Nodup) (hi : X.N[i]? = some n) (hl : X.env.scope.names.lookup n = some .local)
    (ht : ∀ v, PSs3 (X.caught v) NoX (b0 :: suite) t) (hr : PH3 X rest r) (hd : (x == ("__debug__" : Str)) = false := by decide) : PH3 X (.ExceptHandler (some (.Name x np)) (some n) (b0 :: suite) pos :: rest) (hAs X.K Dc i t r) := by
  intro z pins s τ σ H S D D3 a C hld hs l cd h
  obtain ⟨b, hk, h⟩ := h
  have I := hld.inv
  obtain ⟨o, vs, h1, h2, h3⟩ := hld.exc
  refine wpAny_handleBy_cons (codeAny_handlers_test (ld_glob (X := X.caught (.ref a)) (inv_caught I) hg hm (exc_matches I.kIn h1 h2 hk hb ?_) hd)) (by intro q; cases q)
  cases b with
  | false => exact hr z pins s τ σ H S D D3 a C hld hs l cd h
  | true =>
    have hn := hld.no
    have hS : S a = none := (l.fresh hn).1
    have hz : ¬ z a := (l.fresh hn).2
    have h := h hS
    have kp : Kp z H (upd H a (.ext (ExcOf a C))) := Kp.new hn hz
    refine codeAny_handlers_suite_as (hld.lands fun s6 h6 => ?_)
    refine store_ok (X := X.caught (.ref a)) (v := .ref a) (inv_caught h6.as) hN hi (.inl hl) rfl (fun s7 I7 => ?_) (.inr hl)
    have go := ht (.ref a) (ZX.no _ z) pins s7 _ _ { nx := fun τ' H' => D.nx (τ'.set i none) H', rt := D.rt, bk := fun τ' H' => D.bk (τ'.set i none) H', ct := fun τ' H' => D.ct (τ'.set i none) H' } I7
      ⟨_, _, _, (hs.mono kp).set (.ref a) i, l.put (o := .exc C) kp hz (show upd H a (.ext (ExcOf a C)) a = some (.ext (ExcOf a C)) from upd_same), h,
        ⟨fun σ' S' τ' H' k' s' l' q' => cd.nx _ S' _ H' (kp.trans k') (s'.setNone i) l' q', fun σ' S' τ' H' k' s' l' q' => cd.bk _ S' _ H' (kp.trans k') (s'.setNone i) l' q',
          fun σ' S' τ' H' k' s' l' q' => cd.ct _ S' _ H' (kp.trans k') (s'.setNone i) l' q', fun d S' v H' k' r' l' q' => cd.rt d S' v H' (kp.trans k') r' l' q'⟩⟩
    refine wpAny_mono go (fun f s8 q => ?_) fun _ _ z => z.elim
    cases f with
    | next => obtain ⟨τ', H', I8, q⟩ := q; exact name_goes (inv_uncaught I.ok I8) hN hi hl fun s9 I9 => ⟨_, H', I9, q⟩
    | brk => obtain ⟨τ', H', I8, q⟩ := q; exact name_goes (inv_uncaught I.ok I8) hN hi hl fun s9 I9 => ⟨_, H', I9, q⟩
    | cont => obtain ⟨τ', H', I8, q⟩ := q; exact name_goes (inv_uncaught I.ok I8) hN hi hl fun s9 I9 => ⟨_, H', I9, q⟩
    | ret u => obtain ⟨v, τ', H', I8, rv, q⟩ := q; exact name_goes (inv_uncaught I.ok I8) hN hi hl fun s9 I9 => ⟨v, _, H', I9, rv, q⟩
def try3 (tb : W3T → TS3) (r : Ends3 → W3T) : TS3 := fun D3 σ S => tb (r D3) D3 σ S
theorem cd_at {K : PySem.W.Frag} {Z : Zt} {S S' : Hp3} {H H' : Hp} {D3 : Ends3} {D : Ends} (l : Rl K Z S H) (hc : CD K Z H D3 D) (l' : Rl K (Z.at H) S' H') : CD K (Z.at H) H' D3 D := by
  have k0 : Kp Z H H' := l'.old.unhide fun _ z => z
  have out : ∀ {S2 : Hp3} {H2 : Hp}, Kp (Z.at H) H' H2 → Rl K (Z.at H) S2 H2 → Kp Z H H2 ∧ Rl K Z S2 H2 := fun k l2 => ⟨k0.trans (k.unhide fun _ z => z), l2.out l (l'.old.trans k)⟩
  exact ⟨fun σ' S2 τ' H2 k s2 l2 q => hc.nx _ _ _ _ (out k l2).1 s2 (out k l2).2 q, fun σ' S2 τ' H2 k s2 l2 q => hc.bk _ _ _ _ (out k l2).1 s2 (out k l2).2 q, fun σ' S2 τ' H2 k s2 l2 q => hc.ct _ _ _ _ (out k l2).1 s2 (out k l2).2 q,
    fun d S2 v H2 k r l2 q => hc.rt _ _ _ _ (out k l2).1 r (out k l2).2 q⟩
theorem s_try {body : List Stmt} {h0 : ExceptHandler} {hs : List ExceptHandler} {tb : W3T → TS3} (hst : X.stack = X.env :: X.outer) (hf : X.env.frame = some X.env.locals)
    (hb : ∀ xe pn (W : W3T), PSs3 (X.tried xe pn) W body (tb W)) (hh : PH3 X (h0 :: hs) r) : PS3 X W3 (.Try body (h0 :: hs) [] [] pos) (try3 tb r) := by
  intro Z pins s τ H D I ⟨D3, σ, S, hsr, l, ht, hc⟩
  refine wpAny_Try_except ?_
  have main : ∀ τ' a C H' s5 σ' S', Hld X pins τ' H' a C s5 → SR X.K H' σ' τ' → Rl X.K (Z.z.at H) S' H' → r D3 σ' C a S' → wpAny (model X.prog X.w) X.A (handleBy (.ref a) X.env (h0 :: hs)) (SP X pins D) X.xe s5 :=
    fun τ' a C H' s5 σ' S' hld sr l' w => hh (Z.z.at H) pins s5 τ' σ' H' S' D D3 a C hld sr l' (cd_at l hc l') w
  let xe' : Value → Shared → Prop := fun e s1 => wpAny (model X.prog X.w) X.A (noteFrame e X.env) (fun _ s2 => wpAny (model X.prog X.w) X.A (setFlight e none) (fun _ s3 => wpAny (model X.prog X.w) X.A (handleBy e X.env (h0 :: hs)) (SP X pins D) X.xe s3) X.xe s2) X.xe s1
  let zx : ZX (X.tried xe' (X.pn ++ pins)) (r D3) := {
    z := Z.z.at H
    E := fun τ cv oa H' => ∃ C a σ S, cv = .ref C ∧ oa = some a ∧ SR X.K H' σ τ ∧ Rl X.K (Z.z.at H) S H' ∧ r D3 σ C a S
    pass := fun τ' pins' H1 s1 e s' I1 cx => looked_at hst hf (inv_untried I.ok I1) cx fun a C H' s5 he hE hld => by
      subst he
      obtain ⟨C', a', σ', S', e1, e2, sr, l', w⟩ := hE
      cases e1
      cases e2
      exact main τ' a C H' s5 σ' S' hld sr l' w
    rz := fun τ' pins' H1 s1 s3 a C args I1 hx ho hg hE => looked_new hst hf (inv_untried I.ok I1) hx ho hg fun s5 hld => by
      obtain ⟨C', a', σ', S', e1, e2, sr, l', w⟩ := hE
      cases e1
      cases e2
      exact main τ' a C H1 s5 σ' S' hld sr l' w
    ce := fun σ τ C a S H' sr l' _ w => ⟨C, a, σ, S, rfl, rfl, sr, l', w⟩ }
  refine wpAny_mono (hb xe' (X.pn ++ pins) (r D3) zx [] s τ H D (inv_tried I) ⟨D3, σ, S, hsr, l.into, ht, cd_at l hc l.into⟩) (fun f s1 q => ?_) fun _ _ z => z
  have q := sp_untried I.ok q
  cases f with
  | next => exact wpAny_execs_nil q
  | brk => exact q
  | cont => exact q
  | ret u => exact q
end
section
variable {σ : St3} {S : Hp3} {n b c : St3 → Hp3 → Prop} {rt : K3} {K : PySem.W.Frag} {C Dc a : Addr} {i : Nat} {t : TS3} {r : Ends3 → W3T}
theorem j_try {tb : W3T → TS3} (h : tb (r ⟨n, rt, b, c⟩) ⟨n, rt, b, c⟩ σ S) : try3 tb r ⟨n, rt, b, c⟩ σ S := h
theorem j_hit (hk : PySem.W.kitCls K (.ref C) (.ref Dc) = some true) (h : S a = none → t ⟨fun σ' S' => n (σ'.set i none) S', rt, fun σ' S' => b (σ'.set i none) S', fun σ' S' => c (σ'.set i none) S'⟩ (σ.set i (some (.ref a))) (up S a (.exc C))) : hAs K Dc i t r ⟨n, rt, b, c⟩ σ C a S := ⟨true, hk, by rw [if_pos rfl]; exact h⟩
end
end E3

namespace E3
section
open PySem PySem.Spec PyProof.Rows L2 EE PySem.W Builtin Builtin.ObjectAttr Builtin.Getset_descriptor
/-! ### what an exception is -/
theorem exc_class {K : PySem.W.Frag} {prog : Program} {w : World} {A : Around} {E : Value → Shared → Prop} {s : Shared} {a C : Addr} {o : Obj} {Q : Option Value → Shared → Prop} (X : K.In s.heap) (h1 : s.heap.get? a = some o) (h2 : o.cls = .ref C)
    (hga : findIn K (.ref C) "__getattribute__" = some (some (.builtin "BaseException.__getattribute__"))) (hgt : findIn K (.ref C) "__getattr__" = some none) (ha : findIn K (.ref C) "__class__" = some (some (.builtin "object.__class__")))
    (hn : specialIn K (.builtin "object.__class__") "__get__" = some (some (.builtin "getset_descriptor.__get__"))) (htk : takesIn K (.builtin "object.__class__") = some true) (hm : mroIn K C (.type "object") = some true) (hmB : mroIn K C (.type "BaseException") = some true)
    (h : Q (some (.ref C)) { s with toks := s.toks + 1 }) : wpAny (model prog w) A (getAttr? (.ref a) "__class__") Q E s := by
  obtain ⟨hh, g, d, t, os⟩ := s
  have L0 : Looks (model prog w) hh (typeOf (.ref a)) (.ref C) := h2 ▸ (Looks.ld h1).andThen .now
  have L1 := looks_findIn (M := model prog w) X hga; have L2 := looks_findIn (M := model prog w) X hgt
  have LF : Looks (model prog w) hh (Builtin.ObjectAttr.find (.ref a) (.ref C) "__class__") (.bind (.builtin "getset_descriptor.__get__") (.builtin "object.__class__")) :=
    by
    have d1 : Looks (model prog w) hh (Builtin.ObjectAttr.dataDescriptor? (some (.builtin "object.__class__")) (some (.builtin "getset_descriptor.__get__"))) (some (.builtin "getset_descriptor.__get__", .builtin "object.__class__")) := by
      have d0 := looks_takesIn (M := model prog w) X htk
      intro A' Q' E' s' k q
      refine wpAny_bind (d0 A' _ E' s' k ?_)
      rw [if_pos rfl]
      exact wpAny_pure q
    exact (looks_findIn X ha).andThen ((looks_specialIn X hn).andThen (d1.andThen (Looks.tag .now)))
  have Lm : Looks (model prog w) hh (isSubtype (.ref C) (.type "BaseException")) true := looks_mroIn X hmB
  have Lo : Looks (model prog w) hh (isSubtype (.ref C) (.type "object")) true := looks_mroIn X hm
  unfold getAttr? getAttrBy? getAttrBy; refine wpAny_bind (wpAny_mkText (wpAny_bind (wpAny_attempt (wpAny_holding (wpAny_bind (L0.at (wpAny_bind (L1.at ?_))))))))
  show wpAny _ _ (getAttrByItsOwn _ _ _ _ _ _) _ _ _
  unfold getAttrByItsOwn
  refine wpAny_bind (L2.at ?_)
  refine wpAny_bind (wpAny_attempt (wpAny_holding ?_))
  show wpAny _ _ (boundAndCalled _ _ _) _ _ _
  unfold boundAndCalled
  rw [F.excAttr_ValueError.ga.bind]
  refine wpAny_bind (wpAny_pure ?_)
  refine wpAny_call (codeAny_call_builtin F.excAttr_ValueError.ga.plain F.entry_bexc_ga ?_)
  have hk : builtinKind "BaseException.__getattribute__" = some .slot := by decide +kernel
  have hs : splitId "BaseException.__getattribute__" = some ("BaseException", "__getattribute__") := by decide +kernel
  simp only [checkBuiltinCall, hk, hs]
  have LI : Looks (model prog w) hh (isInstance (.ref a) (.type "BaseException")) true := L0.andThen Lm
  refine wpAny_bind (LI.at ?_)
  simp only [Bool.not_true, Bool.false_eq_true, if_false]
  have fin : ∀ s1 : Shared, s1 = ⟨hh, g, d, t + 1, os⟩ → wpAny (model prog w) A (handedOut (.ref C)) (fun a s' => wpAny (model prog w) A (pure (some a)) Q E s') E s1 := fun s1 e => by
    subst e
    exact wpAny_pure (wpAny_pure h)
  have get : ∀ {R : Result → Shared → Prop} {A : Around}, R (.ok (.ret (.ref C))) ⟨hh, g, d, t + 1, os⟩ → codeAny (model prog w) A (.call (.builtin "getset_descriptor.__get__") ⟨[.builtin "object.__class__", .ref a, .ref C], []⟩) R ⟨hh, g, d, t + 1, os⟩ := by
    intro R A hR; refine codeAny_call_builtin KF.slot_gs.plain KF.entry_gs (KF.slot_gs.check _ _ _ _ _ _ _ _ KF.type_class (KF.args_gs _ _ _) ?_); unfold Builtin.«getset_descriptor.__get__» descrGet
    rw [dga_obj]
    refine wpAny_bind (wpAny_pure ?_)
    unfold descrGetter descrCheckInstance descrNameAndClass isInstance; simp only [KF.owner_class]; (repeat lk); refine ⟨Code.quiet_builtin _ (by decide +kernel), codeAny_builtin KF.entry_class ?_⟩; unfold Builtin.«object.__class__» shownTypeOf
    repeat lk
    exact hR
  have body : ∀ {A : Around} {Q : Fin → Shared → Prop} {E : Value → Shared → Prop}, Q (.done (.ret (.ref C))) ⟨hh, g, d, t + 1, os⟩ → wpAny (model prog w) A (Builtin.«object.__getattribute__» ⟨[.ref a, .str "__class__" t], []⟩) Q E ⟨hh, g, d, t + 1, os⟩ := by
    intro A Q E hQ
    unfold Builtin.«object.__getattribute__» slotArgs
    repeat (first | with_reducible refine Looks.at (by assumption) ?_ | wp_step)
    exact get (wpAny_pure hQ)
  cases hsig : Manifest.signature? "BaseException.__getattribute__" with
  | none =>
    refine wpAny_pure (body ?_)
    exact wpAny_pure (wpAny_pure h)
  | some sig =>
    have ha := F.args_bexc_ga (.ref a) (.str "__class__" t)
    simp only [argsOk, hsig] at ha
    have h2 : Bind.checkArgs "BaseException.__getattribute__" sig ⟨[.ref a, .str "__class__" t], []⟩ = pure () := ha
    show wpAny _ _ (Bind.checkArgs "BaseException.__getattribute__" sig ⟨[.ref a, .str "__class__" t], []⟩) _ _ _
    rw [h2]
    refine wpAny_pure (body ?_)
    exact wpAny_pure (wpAny_pure h)
end
open PySem PySem.Spec PyProof.Rows L2 EE
/-- the facts of a class of exceptions -/
def rfOne (K : PySem.W.Frag) (C : Addr) : Bool := PySem.W.excIn K C bmVE "ValueError.__new__" && PySem.W.findIn K (.ref C) "__getattribute__" == some (some (.builtin "BaseException.__getattribute__")) && PySem.W.findIn K (.ref C) "__getattr__" == some none &&
  PySem.W.findIn K (.ref C) "__class__" == some (some (.builtin "object.__class__")) && PySem.W.specialIn K (.builtin "object.__class__") "__get__" == some (some (.builtin "getset_descriptor.__get__")) && PySem.W.takesIn K (.builtin "object.__class__") == some true &&
  PySem.W.mroIn K C (.type "object") == some true && PySem.W.mroIn K C (.type "BaseException") == some true && PySem.W.kitCls K (.ref C) (.type "BaseException") == some true && PySem.W.kitCls K (.ref C) (.type "ValueError") == some true && (PySem.W.clsIn K C).isSome
def AtX (a C : Addr) (h : Heap) : Prop := ∃ o, h.get? a = some o ∧ o.cls = .ref C
theorem kitx_exc {K : PySem.W.Frag} {a C : Addr} (e : rfOne K C = true) : PySem.W.KitX K (.ref a) (.ref C) (AtX a C) := by
  unfold rfOne at e
  simp only [Bool.and_eq_true, beq_iff_eq] at e
  obtain ⟨⟨⟨⟨⟨⟨⟨⟨⟨⟨_, e1⟩, e2⟩, e3⟩, e4⟩, e5⟩, e6⟩, e7⟩, _⟩, _⟩, e8⟩ := e
  obtain ⟨cd, e8⟩ := Option.isSome_iff_exists.mp e8
  unfold PySem.W.clsIn at e8
  split at e8
  · rename_i c' d' cd' sl' ho
    refine ⟨fun M h X p => ?_, fun M h X p => ?_, fun h tp dd its n sl X htp => ?_, fun X p k => ?_⟩
    · obtain ⟨o, h1, h2⟩ := p
      exact h2 ▸ (PySem.W.Looks.ld h1).andThen .now
    · intro A' Q' E' s' k q
      unfold isType loadHead
      exact wpAny_bind (wpAny_loadPart (k _ _ (X _ _ ho)) (wpAny_pure q))
    · refine Bool.eq_false_iff.mpr fun q => ?_
      have e : C = tp := Value.ref.inj (beq_iff_eq.mp q)
      subst e
      cases (X _ _ ho).symm.trans htp
    · obtain ⟨o, h1, h2⟩ := p
      exact exc_class X h1 h2 e1 e2 e3 e4 e5 e6 e7 k
  · cases e8
section
variable {X : Cx}
theorem vals_refs : ∀ {cs : List Addr} {us : List Value}, Vals (cs.map V.ref) us → us = cs.map Value.ref
  | [], _, .nil => rfl
  | _ :: cs, _, .cons r t => by rw [vals_refs t, show _ = Value.ref _ from r]; rfl
def isEV (K : PySem.W.Frag) : List V → Hp → VK → Prop := fun xs H Q => ∃ (a C : Addr) (c : V) (b : Bool), xs = [.ref a, c] ∧ H a = some (.ext (ExcOf a C)) ∧ rfOne K C = true ∧ Q (.bl b) H ∧
  ((∃ Dc, c = .ref Dc ∧ PySem.W.kitOne K (.ref C) (.ref Dc) = some b) ∨ (∃ n, c = .ty n ∧ PySem.W.kitOne K (.ref C) (.type n) = some b) ∨ ∃ (t : Addr) (cs : List Addr), c = .ref t ∧ SqT K H t (cs.map V.ref) ∧ PySem.W.kitAny K (.ref C) (cs.map Value.ref) = some b)
theorem call_isE : CallR X (.builtin "isinstance") (isEV X.K) := by
  intro pins s σ H xs us Q I r h
  obtain ⟨a, C, c, b, rfl, hH, e, q, h⟩ := h
  obtain ⟨u, v, rfl, ru, rv⟩ := vals2 r
  cases (show u = Value.ref a from ru)
  have p : AtX a C s.heap := by
    obtain ⟨⟨o, h1, h2, _⟩, _⟩ := I.hok a _ hH
    exact ⟨o, h1, h2⟩
  rcases h with ⟨Dc, rfl, hk⟩ | ⟨n, rfl, hk⟩ | ⟨t, cs, rfl, ht, hk⟩
  · cases (show v = Value.ref Dc from rv)
    exact PySem.W.kia_one (kitx_exc e) I.kIn p hk (fun z => nomatch z) fun tk => ⟨.bl b, H, I.tok _, rfl, q⟩
  · cases (show v = Value.type n from rv)
    exact PySem.W.kia_one (kitx_exc e) I.kIn p hk (fun z => nomatch z) fun tk => ⟨.bl b, H, I.tok _, rfl, q⟩
  · cases (show v = Value.ref t from rv)
    obtain ⟨its, rs, ⟨o, h1, h2, n, h3⟩, _⟩ := I.tuple ht
    cases vals_refs rs
    obtain ⟨oc, od, dt, sl⟩ := o
    cases h2
    cases h3
    exact PySem.W.kia_tup (kitx_exc e) I.kIn p h1 hk (fun z => nomatch z) fun tk => ⟨.bl b, H, I.tok _, rfl, q⟩
end
/-! ### the refusals -/
inductive Rf where
  | err | text | twice | such | count | apart | many | way
  deriving DecidableEq
def Rf.nm : Rf → Str
  | .err => "ErrandError" | .text => "BadText" | .twice => "Twice" | .such => "NoSuch" | .count => "WrongCount" | .apart => "Apart" | .many => "TooMany" | .way => "NoWay"
def Rf.sub (i j : Rf) : Bool := decide (i = j) || decide (j = .err)
structure Rfs (K : PySem.W.Frag) (mg : Str → Option Value) (es : List Rf) (adr : Rf → Addr) : Prop where
  bound : ∀ i ∈ es, mg i.nm = some (.ref (adr i))
  one : ∀ i ∈ es, rfOne K (adr i) = true
  two : ∀ i ∈ es, ∀ j ∈ es, PySem.W.kitCls K (.ref (adr i)) (.ref (adr j)) = some (i.sub j)
section
variable {K : PySem.W.Frag} {mg : Str → Option Value} {es : List Rf} {adr : Rf → Addr} (R : Rfs K mg es adr) {i j : Rf}
include R
theorem Rfs.exc (hi : i ∈ es) : PySem.W.excIn K (adr i) bmVE "ValueError.__new__" = true := by
  have e := R.one i hi
  unfold rfOne at e
  simp only [Bool.and_eq_true] at e
  exact e.1.1.1.1.1.1.1.1.1.1
theorem Rfs.base (hi : i ∈ es) : PySem.W.kitCls K (.ref (adr i)) (.type "BaseException") = some true := by
  have e := R.one i hi
  unfold rfOne at e
  simp only [Bool.and_eq_true, beq_iff_eq] at e
  exact e.1.1.2
theorem Rfs.val (hi : i ∈ es) : PySem.W.kitOne K (.ref (adr i)) (.type "ValueError") = some true := by
  have e := R.one i hi
  unfold rfOne at e
  simp only [Bool.and_eq_true, beq_iff_eq] at e
  unfold PySem.W.kitOne
  rw [if_neg (by intro z; cases beq_iff_eq.mp z)]
  exact e.1.2
theorem Rfs.is (hi : i ∈ es) (hj : j ∈ es) : PySem.W.kitOne K (.ref (adr i)) (.ref (adr j)) = some (i.sub j) := by
  unfold PySem.W.kitOne
  have h := R.two i hi j hj
  split
  · rename_i z
    have e : adr i = adr j := Value.ref.inj (beq_iff_eq.mp z)
    rw [← e, R.two i hi i hi] at h
    rw [← h]
    unfold Rf.sub
    simp
  · exact h
theorem Rfs.any (hi : i ∈ es) : ∀ {js : List Rf}, (∀ j ∈ js, j ∈ es) → PySem.W.kitAny K (.ref (adr i)) ((js.map adr).map Value.ref) = some (js.any fun j => i.sub j)
  | [], _ => rfl
  | j :: js, h => by
    have hr := Rfs.any hi (js := js) fun k hk => h k (.tail _ hk)
    simp only [List.map_cons, PySem.W.kitAny, R.is hi (h j (.head _)), List.any_cons]
    cases i.sub j
    · exact hr
    · rfl
end
theorem Rf.all {P : Rf → Prop} (h : ∀ i ∈ [Rf.err, .text, .twice, .such, .count, .apart, .many, .way], P i) : ∀ i, P i := fun i => h i (by cases i <;> decide)
/-- isinstance(e, ..), by the refusals' names -/
def isE3 (es : List Rf) (adr : Rf → Addr) : List D → Hp3 → K3 → Prop := fun xs S Q => ∃ a i c b, xs = [.ref a, c] ∧ S a = some (.exc (adr i)) ∧ i ∈ es ∧ Q (.bl b) S ∧
  ((∃ j ∈ es, c = .ref (adr j) ∧ b = i.sub j) ∨ (c = .ty "ValueError" ∧ b = true) ∨ ∃ js : List Rf, (∀ j ∈ js, j ∈ es) ∧ c = .tup (js.map fun j => .ref (adr j)) ∧ b = js.any fun j => i.sub j)
theorem rps_refs {K : PySem.W.Frag} {H : Hp} {adr : Rf → Addr} : ∀ {js : List Rf} {vs : List V}, Rps K H (js.map fun j => D.ref (adr j)) vs → vs = (js.map adr).map V.ref
  | [], _, .nil => rfl
  | _ :: js, _, .cons (.ref _) q => by rw [rps_refs q]; rfl
theorem dn_isE {K : PySem.W.Frag} {mg : Str → Option Value} {es : List Rf} {adr : Rf → Addr} (R : Rfs K mg es adr) : DnC K (isE3 es adr) (isEV K) := by
  intro Z ds S Q3 vs H Q r l h c
  obtain ⟨a, i, x, b, rfl, hS, hi, q, h⟩ := h
  cases r with
  | cons r rr =>
    cases rr with
    | cons r2 rr =>
      cases rr
      cases r
      refine ⟨a, adr i, _, b, rfl, l.obj a _ hS, R.one i hi, c _ S _ H (Kp.refl _ _) (.bl _) l q, ?_⟩
      rcases h with ⟨j, hj, rfl, rfl⟩ | ⟨rfl, rfl⟩ | ⟨js, hj, rfl, rfl⟩
      · cases r2
        exact .inl ⟨_, rfl, R.is hi hj⟩
      · cases r2
        exact .inr (.inl ⟨_, rfl, R.val hi⟩)
      · cases r2 with
        | tup h1 h2 =>
          cases rps_refs h2
          exact .inr (.inr ⟨_, js.map adr, rfl, h1, R.any hi hj⟩)
section
variable {S : Hp3} {Q : K3} {es : List Rf} {adr : Rf → Addr} {a : Addr} {i j : Rf}
theorem j_isE (hS : S a = some (.exc (adr i))) (hi : i ∈ es) (hj : j ∈ es) (q : Q (.bl (i.sub j)) S) : isE3 es adr [.ref a, .ref (adr j)] S Q := ⟨a, i, _, _, rfl, hS, hi, q, .inl ⟨j, hj, rfl, rfl⟩⟩
theorem j_isEV (hS : S a = some (.exc (adr i))) (hi : i ∈ es) (q : Q (.bl true) S) : isE3 es adr [.ref a, .ty "ValueError"] S Q := ⟨a, i, _, _, rfl, hS, hi, q, .inr (.inl ⟨rfl, rfl⟩)⟩
theorem j_isET (js : List Rf) (hS : S a = some (.exc (adr i))) (hi : i ∈ es) (hj : ∀ j ∈ js, j ∈ es) (q : Q (.bl (js.any fun j => i.sub j)) S) : isE3 es adr [.ref a, .tup (js.map fun j => .ref (adr j))] S Q := ⟨a, i, _, _, rfl, hS, hi, q, .inr (.inr ⟨js, hj, rfl, rfl⟩)⟩
end
/-- all of them at once, by reckoning -/
def rfAll (K : PySem.W.Frag) (l : List (Rf × Addr)) : Bool := l.all fun p => rfOne K p.2 && l.all fun q => PySem.W.kitCls K (.ref p.2) (.ref q.2) == some (p.1.sub q.1)
def adrOf (l : List (Rf × Addr)) (i : Rf) : Addr := (l.lookup i).getD 0
theorem lookup_mem {i : Rf} : ∀ {l : List (Rf × Addr)}, i ∈ l.map (·.1) → (i, adrOf l i) ∈ l
  | (j, b) :: l, h => by
    unfold adrOf
    by_cases e : i = j
    · subst e
      simp [List.lookup]
    · have : (i == j) = false := by simpa using e
      rw [List.lookup, this]
      rcases List.mem_cons.mp h with z | z
      · exact absurd z e
      · exact .tail _ (lookup_mem (l := l) z)
theorem rfs_mk {K : PySem.W.Frag} {mg : Str → Option Value} {l : List (Rf × Addr)} (h : rfAll K l = true) (hm : ∀ i ∈ l.map (·.1), mg i.nm = some (.ref (adrOf l i))) : Rfs K mg (l.map (·.1)) (adrOf l) := by
  unfold rfAll at h
  simp only [List.all_eq_true, Bool.and_eq_true, beq_iff_eq] at h
  exact ⟨hm, fun i hi => (h _ (lookup_mem hi)).1, fun i hi j hj => (h _ (lookup_mem hi)).2 _ (lookup_mem hj)⟩
end E3

namespace E3
open PySem PySem.Spec PyProof.Rows L2 EE
section
variable {P : Program} {w : World} {K : PySem.W.Frag} {mg : Str → Option Value} {base : Heap} {x : Str} {st : Stmt} {N ps : List Str} {k : Nat}
theorem Cal3.dropX {sp : Sp3} (C : Cal3 P w K mg base k x ps sp) : Cal3 P w K mg base k x ps (fun ds S Q E => sp ds S (fun d S1 => ∃ S2, Sub S2 S1 ∧ Q d S2) fun C a S1 => ∃ S2, Sub S2 S1 ∧ E C a S2) := by
  obtain ⟨f, fd, F0, r⟩ := C.ex
  refine ⟨f, fd, F0.imp fun vs H Q E ⟨Z, ds, S, Q3, E3, h1, l, h3, cq, ce⟩ => ⟨Z, ds, S, _, _, h1, l, h3, ?_, ?_⟩, r⟩
  · intro d S1 v H' k1 r1 l1 ⟨S2, hsub, q⟩
    exact cq d S2 v H' k1 r1 (l1.sub hsub) q
  · intro C a S1 H' k1 l1 ha ⟨S2, hsub, q⟩
    exact ce C a S2 H' k1 (l1.sub hsub) ha q
/-- .. and writes one object -/
def wrX (A : List D → Hp3 → (D → Addr → O → Prop) → (Addr → Prop) → Prop) : Sp3 := fun ds S Q W => A ds S (fun d a o => Q d (up S a o)) fun C => ∀ a, W C a S
theorem _root_.EE.Has.wrX {A : List D → Hp3 → (D → Addr → O → Prop) → (Addr → Prop) → Prop} (h : Has K mg x st ps) (S : FnScope N ps (defScope st)) (len : ∀ ds S q qx, A ds S q qx → ds.length = ps.length)
    (hbody : ∀ (f : Addr) (cdv : Value) (Ar : Around) (outer : List Env) (s : Shared) (H : Hp) (E : XK) (ds : List D) (S : Hp3) (q : D → Addr → O → Prop) (qx : Addr → Prop), Room k (Ar.deeper (envOfC x (defScope st) s.heap.objs.size f cdv)) → A ds S q qx →
      ∃ t, PSs3 (cxOf (CX1 P w) P w K mg base N x (defScope st) f cdv Ar outer s H E) (fun _ C _ S' => Sub S S' ∧ qx C) (defBody st) t ∧
        t { nx := fun _ S' => ∃ a o, Sub (up S a o) S' ∧ q .non a o, rt := fun d S' => ∃ a o, Sub (up S a o) S' ∧ q d a o } (start3 N ds) S) : Cal3 P w K mg base (k + 1) x ps (wrX A) := by
  have C : Cal3 P w K mg base (k + 1) x ps (fun ds S Q E => ∃ q qx, A ds S q qx ∧ (∀ d S', (∃ a o, Sub (up S a o) S' ∧ q d a o) → Q d S') ∧ ∀ C a S', Sub S S' ∧ qx C → E C a S') := by
    refine h.cal3x S (fun vs H Q E ⟨q, qx, z, _⟩ => len _ _ _ _ z) fun f cdv Ar outer s H E ds S3 Q E3 hr ⟨q, qx, z, hq, hx⟩ => ?_
    obtain ⟨t, h1, h2⟩ := hbody f cdv Ar outer s H E ds S3 _ _ hr z
    exact ⟨t, fun d S' => ∃ a o, Sub (up S3 a o) S' ∧ q d a o, fun C _ S' => Sub S3 S' ∧ qx C, h1, h2, hq, hx⟩
  exact C.dropX.imp fun ds S Q E z => ⟨_, _, z, fun d S1 ⟨a, o, hs, hq⟩ => ⟨_, hs, hq⟩, fun C a S1 hx => ⟨S, hx.1, hx.2 a⟩⟩
end
/-! ### trees as data -/
def _root_.EE.Tre.d : Tre → D
  | .bud => .non
  | .pair l r => .tup [l.d, r.d]
end E3

namespace E3
open PySem PySem.Spec PyProof.Rows L2 EE
section
variable {prog : Program} {w : World} {A : Around} {E : Value → Shared → Prop} {a : Addr} {its : Array Value} {n : Nat}
end
end E3

namespace E3
open PySem PySem.Spec PyProof.Rows L2 EE
section
variable {prog : Program} {w : World} {A : Around} {E : Value → Shared → Prop}
/-- the items from i on: tuples of a key and a value -/
inductive PairsAt {κ : Type} [DecidableEq κ] (knd : PySem.KeyKind prog w κ) (h : Heap) : List Value → List (κ × Value) → Prop where
  | nil : PairsAt knd h [] []
  | cons {t : Addr} {key v : Value} {k : κ} {r : List Value} {ps : List (κ × Value)} : IsTup h t #[key, v] → knd.is k key = true → PairsAt knd h r ps → PairsAt knd h (.ref t :: r) ((k, v) :: ps)
theorem PairsAt.keep {κ : Type} [DecidableEq κ] {knd : PySem.KeyKind prog w κ} {h h' : Heap} {d : Addr} {o : Obj} (hd : h.get? d = some o) (hc : o.cls = .type "dict") (hs : ∀ b ob, b ≠ d → h.get? b = some ob → h'.get? b = some ob) : ∀ {r : List Value} {ps : List (κ × Value)}, PairsAt knd h r ps → PairsAt knd h' r ps
  | _, _, .nil => .nil
  | _, _, .cons ⟨ob, e, c, q⟩ hk t => .cons ⟨ob, hs _ _ (by rintro rfl; rw [hd] at e; cases e; rw [hc] at c; exact absurd c (by decide)) e, c, q⟩ hk (PairsAt.keep hd hc hs t)
theorem PairsAt.kept {κ : Type} [DecidableEq κ] {knd : PySem.KeyKind prog w κ} {h h' : Heap} (hs : ∀ b ob, h.get? b = some ob → h'.get? b = some ob) : ∀ {r : List Value} {ps : List (κ × Value)}, PairsAt knd h r ps → PairsAt knd h' r ps
  | _, _, .nil => .nil
  | _, _, .cons ⟨ob, e, c, q⟩ hk t => .cons ⟨ob, hs _ _ e, c, q⟩ hk (PairsAt.kept hs t)
end
section
variable {X : Cx} {W3 : W3T}
def anyA (R : RI) (x : D) (S : Hp3) : Prop := (∃ a ds, x = .ref a ∧ S a = some (.lst ds) ∧ R ds (fun S => S a = some (.lst ds)) S) ∨ ∃ ds, x = .tup ds ∧ R ds (fun _ => True) S
def iA3 (tl : TE3) : TI3 := fun σ S R => tl σ S fun x S1 => anyA R x S1
theorem j_iAny {σ : St3} {S : Hp3} {te : TE3} {R : RI} (h : te σ S fun x S1 => anyA R x S1) : iA3 te σ S R := h
theorem j_iAL {S : Hp3} {R : RI} {a : Addr} {ds : List D} (hS : S a = some (.lst ds)) (q : R ds (fun S => S a = some (.lst ds)) S) : anyA R (.ref a) S := .inl ⟨a, ds, rfl, hS, q⟩
theorem j_iAT {S : Hp3} {R : RI} {ds : List D} (q : R ds (fun _ => True) S) : anyA R (.tup ds) S := .inr ⟨ds, rfl, q⟩
def notinA (Q : K3) (x y : D) (S : Hp3) : Prop := (∃ a kvs k, x = .ref a ∧ S a = some (.dic kvs) ∧ y = kD k ∧ Q (.bl (!(valD kvs k).isSome)) S) ∨ ∃ ds, x = .tup ds ∧ flatD y = true ∧ ds.all flatD = true ∧ Q (.bl (!memD y ds)) S
def notin3 (ty td : TE3) : TE3 := fun σ S Q => ty σ S fun y S1 => td σ S1 fun x S2 => notinA Q x y S2
section
variable {σ : St3} {S : Hp3} {Q : K3} {te ta : TE3}
theorem j_notin (h : te σ S fun y S1 => ta σ S1 fun x S2 => notinA Q x y S2) : notin3 te ta σ S Q := h
theorem j_notinD {a : Addr} {kvs : List (Key × D)} {z : Str} (hS : S a = some (.dic kvs)) (q : Q (.bl (!(valD kvs (.inr z)).isSome)) S) : notinA Q (.ref a) (.str z) S := .inl ⟨a, kvs, .inr z, rfl, hS, rfl, q⟩
theorem j_notinT {xs : List Str} {z : Str} (q : Q (.bl (!decide (z ∈ xs))) S) : notinA Q (.tup (xs.map D.str)) (.str z) S := .inr ⟨_, rfl, rfl, flat_strs xs, by rw [memD_strs]; exact q⟩
theorem j_inT {x : D} {ds : List D} (hx : flatD x = true) (hd : ds.all flatD = true) (q : Q (.bl (memD x ds)) S) : in3 false x (.tup ds) S Q := ⟨ds, .inr rfl, hx, hd, q⟩
end
theorem iteBt {b : Bool} {A B : Prop} (h : b = true) (q : A) : if b = true then A else B := by rw [if_pos h]; exact q
theorem iteBf {b : Bool} {A B : Prop} (h : b = false) (q : B) : if b = true then A else B := by rw [if_neg (by rw [h]; exact Bool.false_ne_true)]; exact q
end
end E3

namespace E3
open PySem PySem.Spec PyProof.Rows L2 EE
theorem small_le {n : Nat} (h : n ≤ 1000000) : n ≤ sizeLine := Nat.le_trans h (by decide)
theorem atI_of {α : Type} {xs : List α} {i : Int} {v : α} (h0 : 0 ≤ i) (h : xs[i.toNat]? = some v) : atI xs i = some v := by
  have e : i = ((i.toNat : Nat) : Int) := by omega
  rw [e]
  exact atI_nat h
theorem atI_0 {α : Type} {x : α} {xs : List α} : atI (x :: xs) 0 = some x := atI_nat (j := 0) rfl
theorem atI_1 {α : Type} {x y : α} {xs : List α} : atI (x :: y :: xs) 1 = some y := atI_nat (j := 1) rfl
theorem atI_2 {α : Type} {x y z : α} {xs : List α} : atI (x :: y :: z :: xs) 2 = some z := atI_nat (j := 2) rfl
theorem atI_3 {α : Type} {x y z u : α} {xs : List α} : atI (x :: y :: z :: u :: xs) 3 = some u := atI_nat (j := 3) rfl
theorem ixN_of {n : Nat} {i : Int} {j : Nat} (h : i = (j : Int)) (hj : j < n) : ixN n i = some j := by
  subst h
  unfold ixN
  rw [if_pos (by omega), if_pos (by omega)]
  simp
theorem ixN_0 {α : Type} {x : α} {xs : List α} : ixN (x :: xs).length 0 = some 0 := ixN_of rfl (by simp)
theorem ixN_1 {α : Type} {x y : α} {xs : List α} : ixN (x :: y :: xs).length 1 = some 1 := ixN_of rfl (by simp)
theorem cutT_to {cs : List Nat} {p : Int} (h0 : 0 ≤ p) : cutT cs none (some p) = cs.take p.toNat := by
  unfold cutT
  have e : p = ((p.toNat : Nat) : Int) := by omega
  rw [e, HT.sIx_none, HT.sIx_nat, List.drop_zero, Nat.sub_zero, ← e]
  by_cases h : p.toNat ≤ cs.length
  · rw [Nat.min_eq_left h]
  · rw [Nat.min_eq_right (by omega), List.take_of_length_le (by omega), List.take_of_length_le (by omega)]
theorem cutT_from {cs : List Nat} {p : Int} (h0 : 0 ≤ p) : cutT cs (some p) none = cs.drop p.toNat := by
  unfold cutT
  have e : p = ((p.toNat : Nat) : Int) := by omega
  rw [e, HT.sIx_none, HT.sIx_nat, ← e]
  by_cases h : p.toNat ≤ cs.length
  · rw [Nat.min_eq_left h, List.take_of_length_le (by rw [List.length_drop]; omega)]
  · rw [Nat.min_eq_right (by omega), List.drop_eq_nil_of_le (Nat.le_refl _), List.drop_eq_nil_of_le (by omega)]
    simp
/-! ### names: one to eight small letters -/
def NameOk (x : Str) : Prop := ∃ cs : List Nat, x = textOf cs ∧ 1 ≤ cs.length ∧ cs.length ≤ 8 ∧ ∀ c ∈ cs, 97 ≤ c ∧ c ≤ 122
theorem textOf_codes (cs : List Nat) : (textOf cs).cps.toList = cs := by simp [textOf]
/-- a row of names made so -/
structure Row (n : Nat) (xs : List Str) : Prop where
  len : xs.length = n
  nd : xs.Nodup
  ok : ∀ x ∈ xs, NameOk x
theorem Row.turn {n t : Nat} {xs : List Str} (r : Row n xs) : Row n (xs.drop t ++ xs.take t) := by
  have e := List.take_append_drop t xs
  have pm : (xs.drop t ++ xs.take t).Perm xs := by
    have := List.perm_append_comm (l₁ := xs.drop t) (l₂ := xs.take t)
    rw [e] at this
    exact this
  exact ⟨pm.length_eq.trans r.len, pm.nodup_iff.mpr r.nd, fun x hx => r.ok x (pm.mem_iff.mp hx)⟩
/-! ### sayings -/
inductive Sy where
  | name (x : Str) | bud | pair (a b : Sy) | left (a : Sy) | right (a : Sy) | fork (a b c : Sy) | send (x : Str) (as : List Sy)
mutual
def Sy.d : Sy → D
  | .name x => .tup [.str "name", .str x]
  | .bud => .tup [.str "bud"]
  | .pair a b => .tup [.str "pair", a.d, b.d]
  | .left a => .tup [.str "left", a.d]
  | .right a => .tup [.str "right", a.d]
  | .fork a b c => .tup [.str "fork", a.d, b.d, c.d]
  | .send x as => .tup [.str "send", .str x, .tup (Sy.ds as)]
def Sy.ds : List Sy → List D
  | [] => []
  | a :: as => a.d :: Sy.ds as
end
mutual
def Sy.deep : Sy → Nat
  | .name _ => 1
  | .bud => 1
  | .pair a b => max a.deep b.deep + 1
  | .left a => a.deep + 1
  | .right a => a.deep + 1
  | .fork a b c => max a.deep (max b.deep c.deep) + 1
  | .send _ as => Sy.deeps as + 1
def Sy.deeps : List Sy → Nat
  | [] => 0
  | a :: as => max a.deep (Sy.deeps as)
end
mutual
/-- a saying and all in it, in the order of the text -/
def Sy.pre : Sy → List Sy
  | .name x => [.name x]
  | .bud => [.bud]
  | .pair a b => .pair a b :: (a.pre ++ b.pre)
  | .left a => .left a :: a.pre
  | .right a => .right a :: a.pre
  | .fork a b c => .fork a b c :: (a.pre ++ (b.pre ++ c.pre))
  | .send x as => .send x as :: Sy.pres as
def Sy.pres : List Sy → List Sy
  | [] => []
  | a :: as => a.pre ++ Sy.pres as
end
mutual
/-- its names are parameters, its sends are of errands with so many parameters -/
def Sy.wf (ar : Str → Option Nat) (ps : List Str) : Sy → Prop
  | .name x => x ∈ ps
  | .bud => True
  | .pair a b => a.wf ar ps ∧ b.wf ar ps
  | .left a => a.wf ar ps
  | .right a => a.wf ar ps
  | .fork a b c => a.wf ar ps ∧ b.wf ar ps ∧ c.wf ar ps
  | .send x as => ar x = some as.length ∧ 1 ≤ as.length ∧ as.length ≤ 4 ∧ Sy.wfs ar ps as
def Sy.wfs (ar : Str → Option Nat) (ps : List Str) : List Sy → Prop
  | [] => True
  | a :: as => a.wf ar ps ∧ Sy.wfs ar ps as
end
/-- how many sends -/
def Sy.sends (s : Sy) : Nat := (s.pre.filter fun a => match a with | .send _ _ => true | _ => false).length
/-- the name that stands for it -/
def Sy.tag : Sy → Str
  | .name _ => "name"
  | .bud => "bud"
  | .pair _ _ => "pair"
  | .left _ => "left"
  | .right _ => "right"
  | .fork _ _ _ => "fork"
  | .send _ _ => "send"
/-- an errand's parameters by name, from two rows -/
def arOf : List Str → List Nat → Str → Option Nat
  | x :: xs, n :: ns, y => if y = x then some n else arOf xs ns y
  | _, _, _ => none
/-! ### errands -/
structure Er where
  name : Str
  ps : List Str
  body : Sy
def Er.d (e : Er) : D := .tup [.str e.name, .tup (e.ps.map D.str), e.body.d]
end E3
namespace E3
open PySem PySem.Spec PyProof.Rows L2 EE
/-! ### programs that are sound -/
def arP (prog : List Er) : Str → Option Nat := arOf (prog.map Er.name) (prog.map fun e => e.ps.length)
structure Good (prog : List Er) (most deep b : Nat) : Prop where
  len1 : 1 ≤ prog.length
  len : prog.length ≤ most
  nd : (prog.map Er.name).Nodup
  nm : ∀ e ∈ prog, NameOk e.name
  ps : ∀ e ∈ prog, 1 ≤ e.ps.length ∧ e.ps.length ≤ 4 ∧ e.ps.Nodup ∧ ∀ x ∈ e.ps, NameOk x
  wf : ∀ e ∈ prog, e.body.wf (arP prog) e.ps ∧ e.body.deep ≤ deep
  sends : (prog.map fun e => e.body.sends).sum ≤ b
/-- good data about an errand that is being drawn -/
structure ErOk (ar : Str → Option Nat) (deep : Nat) (e : Er) : Prop where
  l1 : 1 ≤ e.ps.length
  l4 : e.ps.length ≤ 4
  nd : e.ps.Nodup
  ok : ∀ x ∈ e.ps, NameOk x
  wf : e.body.wf ar e.ps
  dp : e.body.deep ≤ deep
end E3

namespace E3
open PySem PySem.Spec PyProof.Rows L2 EE
/-- right where it stands -/
def Sy.loc (ar : Str → Option Nat) (ps : List Str) : Sy → Prop
  | .name x => x ∈ ps
  | .send x as => ar x = some as.length
  | _ => True
mutual
theorem Sy.wf_pre {ar : Str → Option Nat} {ps : List Str} : ∀ {s : Sy}, s.wf ar ps → ∀ a ∈ s.pre, a.loc ar ps
  | .name x, h, a, ha => by simp only [Sy.pre, List.mem_singleton] at ha; subst ha; exact h
  | .bud, h, a, ha => by simp only [Sy.pre, List.mem_singleton] at ha; subst ha; trivial
  | .pair x y, h, a, ha => by
    simp only [Sy.pre, List.mem_cons, List.mem_append] at ha
    simp only [Sy.wf] at h
    rcases ha with rfl | ha | ha
    · trivial
    · exact Sy.wf_pre h.1 a ha
    · exact Sy.wf_pre h.2 a ha
  | .left x, h, a, ha => by
    simp only [Sy.pre, List.mem_cons] at ha
    simp only [Sy.wf] at h
    rcases ha with rfl | ha
    · trivial
    · exact Sy.wf_pre h a ha
  | .right x, h, a, ha => by
    simp only [Sy.pre, List.mem_cons] at ha
    simp only [Sy.wf] at h
    rcases ha with rfl | ha
    · trivial
    · exact Sy.wf_pre h a ha
  | .fork x y z, h, a, ha => by
    simp only [Sy.pre, List.mem_cons, List.mem_append] at ha
    simp only [Sy.wf] at h
    rcases ha with rfl | ha | ha | ha
    · trivial
    · exact Sy.wf_pre h.1 a ha
    · exact Sy.wf_pre h.2.1 a ha
    · exact Sy.wf_pre h.2.2 a ha
  | .send x as, h, a, ha => by
    simp only [Sy.pre, List.mem_cons] at ha
    simp only [Sy.wf] at h
    rcases ha with rfl | ha
    · exact h.1
    · exact Sy.wfs_pre h.2.2.2 a ha
theorem Sy.wfs_pre {ar : Str → Option Nat} {ps : List Str} : ∀ {as : List Sy}, Sy.wfs ar ps as → ∀ a ∈ Sy.pres as, a.loc ar ps
  | [], _, a, ha => by simp [Sy.pres] at ha
  | x :: xs, h, a, ha => by
    simp only [Sy.pres, List.mem_append] at ha
    simp only [Sy.wfs] at h
    rcases ha with ha | ha
    · exact Sy.wf_pre h.1 a ha
    · exact Sy.wfs_pre h.2 a ha
end
mutual
/-- no more than four sayings in one: so many in all -/
theorem Sy.pre_len {ar : Str → Option Nat} {ps : List Str} : ∀ {s : Sy}, s.wf ar ps → s.pre.length ≤ 5 ^ s.deep
  | .name _, _ => by simp [Sy.pre, Sy.deep]
  | .bud, _ => by simp [Sy.pre, Sy.deep]
  | .pair x y, h => by
    simp only [Sy.wf] at h
    have h1 := Sy.pre_len h.1
    have h2 := Sy.pre_len h.2
    simp only [Sy.pre, Sy.deep, List.length_cons, List.length_append]
    have e1 : 5 ^ x.deep ≤ 5 ^ max x.deep y.deep := Nat.pow_le_pow_right (by omega) (by omega)
    have e2 : 5 ^ y.deep ≤ 5 ^ max x.deep y.deep := Nat.pow_le_pow_right (by omega) (by omega)
    have e3 : 1 ≤ 5 ^ max x.deep y.deep := Nat.one_le_pow _ _ (by omega)
    rw [Nat.pow_succ]
    omega
  | .left x, h => by
    simp only [Sy.wf] at h
    have h1 := Sy.pre_len h
    simp only [Sy.pre, Sy.deep, List.length_cons]
    have e3 : 1 ≤ 5 ^ x.deep := Nat.one_le_pow _ _ (by omega)
    rw [Nat.pow_succ]
    omega
  | .right x, h => by
    simp only [Sy.wf] at h
    have h1 := Sy.pre_len h
    simp only [Sy.pre, Sy.deep, List.length_cons]
    have e3 : 1 ≤ 5 ^ x.deep := Nat.one_le_pow _ _ (by omega)
    rw [Nat.pow_succ]
    omega
  | .fork x y z, h => by
    simp only [Sy.wf] at h
    have h1 := Sy.pre_len h.1
    have h2 := Sy.pre_len h.2.1
    have h3 := Sy.pre_len h.2.2
    simp only [Sy.pre, Sy.deep, List.length_cons, List.length_append]
    have e1 : 5 ^ x.deep ≤ 5 ^ max x.deep (max y.deep z.deep) := Nat.pow_le_pow_right (by omega) (by omega)
    have e2 : 5 ^ y.deep ≤ 5 ^ max x.deep (max y.deep z.deep) := Nat.pow_le_pow_right (by omega) (by omega)
    have e4 : 5 ^ z.deep ≤ 5 ^ max x.deep (max y.deep z.deep) := Nat.pow_le_pow_right (by omega) (by omega)
    have e3 : 1 ≤ 5 ^ max x.deep (max y.deep z.deep) := Nat.one_le_pow _ _ (by omega)
    rw [Nat.pow_succ]
    omega
  | .send x as, h => by
    simp only [Sy.wf] at h
    have h1 := Sy.pres_len h.2.2.2
    simp only [Sy.pre, Sy.deep, List.length_cons]
    have e3 : 1 ≤ 5 ^ Sy.deeps as := Nat.one_le_pow _ _ (by omega)
    have e4 : as.length * 5 ^ Sy.deeps as ≤ 4 * 5 ^ Sy.deeps as := Nat.mul_le_mul_right _ h.2.2.1
    rw [Nat.pow_succ]
    omega
theorem Sy.pres_len {ar : Str → Option Nat} {ps : List Str} : ∀ {as : List Sy}, Sy.wfs ar ps as → (Sy.pres as).length ≤ as.length * 5 ^ Sy.deeps as
  | [], _ => by simp [Sy.pres]
  | x :: xs, h => by
    simp only [Sy.wfs] at h
    have h1 := Sy.pre_len h.1
    have h2 := Sy.pres_len h.2
    simp only [Sy.pres, Sy.deeps, List.length_cons, List.length_append]
    have e1 : 5 ^ x.deep ≤ 5 ^ max x.deep (Sy.deeps xs) := Nat.pow_le_pow_right (by omega) (by omega)
    have e2 : 5 ^ Sy.deeps xs ≤ 5 ^ max x.deep (Sy.deeps xs) := Nat.pow_le_pow_right (by omega) (by omega)
    have e3 : xs.length * 5 ^ Sy.deeps xs ≤ xs.length * 5 ^ max x.deep (Sy.deeps xs) := Nat.mul_le_mul_left _ e2
    rw [Nat.succ_mul]
    omega
end
/-- the names sent, in the order of the text -/
def Sy.nm : Sy → Option Str
  | .send x _ => some x
  | _ => none
/-! ### sayings and programs as data -/
mutual
theorem Sy.d_pure : ∀ s : Sy, s.d.pure = true
  | .name x => rfl
  | .bud => rfl
  | .pair a b => by simp only [Sy.d, D.pure, D.pures, a.d_pure, b.d_pure, Bool.and_self]
  | .left a => by simp only [Sy.d, D.pure, D.pures, a.d_pure, Bool.and_self]
  | .right a => by simp only [Sy.d, D.pure, D.pures, a.d_pure, Bool.and_self]
  | .fork a b c => by simp only [Sy.d, D.pure, D.pures, a.d_pure, b.d_pure, c.d_pure, Bool.and_self]
  | .send x as => by simp only [Sy.d, D.pure, D.pures, Sy.ds_pure as, Bool.and_self]
theorem Sy.ds_pure : ∀ as : List Sy, D.pures (Sy.ds as) = true
  | [] => rfl
  | a :: as => by simp only [Sy.ds, D.pures, a.d_pure, Sy.ds_pure as, Bool.and_self]
end
mutual
theorem Sy.d_deep : ∀ s : Sy, deepD s.d.dt ≤ 2 * s.deep
  | .name x => by simp [Sy.d, D.dt, D.dts, deepD, deepDs, Sy.deep]
  | .bud => by simp [Sy.d, D.dt, D.dts, deepD, deepDs, Sy.deep]
  | .pair a b => by
    have h1 := a.d_deep
    have h2 := b.d_deep
    simp only [Sy.d, D.dt, D.dts, deepD, deepDs, Sy.deep]; omega
  | .left a => by
    have h1 := a.d_deep
    simp only [Sy.d, D.dt, D.dts, deepD, deepDs, Sy.deep]; omega
  | .right a => by
    have h1 := a.d_deep
    simp only [Sy.d, D.dt, D.dts, deepD, deepDs, Sy.deep]; omega
  | .fork a b c => by
    have h1 := a.d_deep
    have h2 := b.d_deep
    have h3 := c.d_deep
    simp only [Sy.d, D.dt, D.dts, deepD, deepDs, Sy.deep]; omega
  | .send x as => by
    have h1 := Sy.ds_deep as
    simp only [Sy.d, D.dt, D.dts, deepD, deepDs, Sy.deep]; omega
theorem Sy.ds_deep : ∀ as : List Sy, deepDs (D.dts (Sy.ds as)) ≤ 2 * Sy.deeps as
  | [] => by simp [Sy.ds, D.dts, deepDs]
  | a :: as => by
    have h1 := a.d_deep
    have h2 := Sy.ds_deep as
    simp only [Sy.ds, D.dts, deepDs, Sy.deeps]; omega
end
theorem D.strs_pure (xs : List Str) : D.pures (xs.map D.str) = true := D.pures_iff.mpr fun d hd => by
  obtain ⟨x, _, rfl⟩ := List.mem_map.mp hd
  rfl
theorem deepDs_le {ds : List Dt} {n : Nat} (h : ∀ d ∈ ds, deepD d ≤ n) : deepDs ds ≤ n := by
  induction ds with
  | nil => simp [deepDs]
  | cons d r ih =>
    simp only [deepDs]
    have h1 := h d List.mem_cons_self
    have h2 := ih fun e he => h e (List.mem_cons_of_mem _ he)
    omega
theorem D.strs_deep (xs : List Str) : deepDs (D.dts (xs.map D.str)) ≤ 0 := by
  rw [D.dts_map]
  refine deepDs_le fun d hd => ?_
  obtain ⟨x, hx, rfl⟩ := List.mem_map.mp hd
  obtain ⟨y, _, rfl⟩ := List.mem_map.mp hx
  simp [D.dt, deepD]
theorem Er.d_pure (e : Er) : e.d.pure = true := by simp only [Er.d, D.pure, D.pures, D.strs_pure, e.body.d_pure, Bool.and_self]
theorem Er.d_deep (e : Er) : deepD e.d.dt ≤ 2 * e.body.deep + 2 := by
  have h1 := e.body.d_deep
  have h2 := D.strs_deep e.ps
  simp only [Er.d, D.dt, D.dts, deepD, deepDs]
  omega
end E3

set_option maxHeartbeats 4000000
namespace LW
open PySem PySem.Spec PyProof.Rows L2 EE E3
local macro_rules | `(tactic| decreasing_trivial) => `(tactic| repeat (first | (with_reducible refine j_seq ?_) | (with_reducible refine j_set ?_) | ((with_reducible apply j_v); exact rfl) | (with_reducible refine j_c ?_) | (with_reducible refine j_o ?_) | (with_reducible refine j_i3 ?_) | (with_reducible refine j_cons ?_) | (with_reducible refine j_nil ?_) | (with_reducible refine j_ifs ?_) | (with_reducible refine j_test ?_) | (with_reducible refine j_eb ?_) | (with_reducible refine j_ei ?_) | (with_reducible refine j_ret ?_) | (with_reducible refine j_drop ?_) | (with_reducible refine j_next ?_) | (with_reducible refine j_break ?_) | (with_reducible refine j_cont ?_) | (with_reducible refine j_retN ?_) | (with_reducible refine j_asg ?_) | (with_reducible refine j_name ?_) | (with_reducible refine j_eqI ?_) | (with_reducible refine j_neI ?_) | (with_reducible refine j_eqS ?_) | (with_reducible refine j_neS ?_) | (with_reducible refine j_isN ?_) | (with_reducible refine j_notN ?_) | ((with_reducible refine j_mod ?_ ?_); (first | decide | omega)) | ((with_reducible refine j_div ?_ ?_); (first | exact ⟨by decide, by decide⟩ | omega)) | ((with_reducible refine j_pow ?_ ?_); exact ⟨by decide, by decide, by decide⟩) | ((with_reducible refine j_mul ?_ ?_); (first | exact .inl ⟨by decide, by decide⟩ | exact .inr ⟨by decide, by decide⟩)) | (with_reducible refine j_neg ?_) | (with_reducible refine j_and ?_) | (with_reducible refine j_or ?_) | (with_reducible refine j_not ?_) | (with_reducible refine j_andv ?_) | (with_reducible refine j_orv ?_) | (with_reducible refine j_notv ?_) | (with_reducible refine j_ifx ?_) | (with_reducible refine j_truth ?_) | (with_reducible refine j_truL (by assumption) ?_) | (with_reducible refine j_truL up_same ?_) | (with_reducible refine j_truT ?_) | (with_reducible refine E3.j_tup ?_) | (with_reducible refine j_lst ?_) | ((with_reducible refine j_sz ?_ ?_); exact small_le (Nat.le_of_ble_eq_true rfl)) | (with_reducible refine j_cb ?_) | (with_reducible refine j_call ?_) | (with_reducible refine j_bm ?_) | (with_reducible refine j_bm0 ?_) | (with_reducible refine j_tyS ?_) | (with_reducible refine j_tyL (by assumption) ?_) | (with_reducible refine j_tyL up_same ?_) | ((with_reducible apply j_ixT); (first | exact rfl | exact atI_0 | exact atI_1 | exact atI_2 | exact atI_3)) | ((with_reducible apply j_ixL (by assumption)); (first | exact rfl | exact atI_0 | exact atI_1 | exact atI_2 | exact atI_3)) | ((with_reducible apply j_ixL up_same); (first | exact rfl | exact atI_0 | exact atI_1 | exact atI_2 | exact atI_3)) | ((with_reducible apply j_ixR); exact rfl) | ((with_reducible apply j_aug); exact rfl) | (with_reducible refine j_lenT ?_) | (with_reducible refine j_lenR ?_) | (with_reducible refine j_lenL (by assumption) ?_) | (with_reducible refine j_lenL up_same ?_) | (with_reducible refine j_toListT ?_) | (with_reducible refine j_toListL (by assumption) ?_) | (with_reducible refine j_toTupL (by assumption) ?_) | (with_reducible refine j_toTupL up_same ?_) | ((with_reducible apply j_isBL (by assumption)); exact rfl) | ((with_reducible apply j_isBL up_same); exact rfl) | ((with_reducible apply j_isB); (exact rfl); (exact rfl)) | (with_reducible refine j_sl ?_) | (with_reducible refine j_nopart ?_) | (with_reducible refine j_part ?_) | (with_reducible refine j_slL (by assumption) ?_) | (with_reducible refine j_slL up_same ?_) | (with_reducible refine j_slT ?_) | (with_reducible refine j_comp ?_) | (with_reducible refine j_for ?_) | (with_reducible refine j_iList ?_) | (with_reducible refine j_iTup ?_) | (with_reducible refine j_eT ?_) | (with_reducible refine j_iRev ?_) | (with_reducible refine j_eT1 ?_) | (with_reducible refine j_iStr ?_) | (with_reducible refine j_eS ?_) | (with_reducible refine j_iR1 ?_) | (with_reducible refine j_iR2 ?_) | (with_reducible refine j_iL (by assumption) ?_) | (with_reducible refine j_iL up_same ?_) | (with_reducible refine j_iRo ?_) | (with_reducible refine j_iT ?_) | (with_reducible refine j_iRv ?_) | (with_reducible refine j_iS ?_) | (with_reducible refine j_iAny ?_) | (with_reducible refine j_iAL (by assumption) ?_) | (with_reducible refine j_iAT ?_) | (with_reducible refine j_notin ?_) | (with_reducible refine j_notinD (by assumption) ?_) | (with_reducible refine j_notinT ?_) | ((with_reducible refine j_inT ?_ ?_ ?_); (exact rfl); (exact rfl)) | (with_reducible refine j_dinS (by assumption) ?_) | (with_reducible refine j_dinS up_same ?_) | (with_reducible refine j_raise ?_) | (with_reducible refine j_fmt ?_) | (with_reducible refine j_fcons ?_) | (with_reducible refine j_try ?_) | (with_reducible refine j_dnew ?_) | (with_reducible refine j_din ?_) | (with_reducible refine j_dnotin ?_) | (with_reducible refine j_dget ?_) | (with_reducible refine j_dput ?_) | (with_reducible refine j_setL ?_) | ((with_reducible apply j_esL (by assumption)); (first | exact rfl | exact ixN_0 | exact ixN_1)) | ((with_reducible apply j_esL up_same); (first | exact rfl | exact ixN_0 | exact ixN_1)) | (with_reducible refine iteT ?_) | (with_reducible refine iteF ?_) | (with_reducible refine iteD (by assumption) ?_) | (with_reducible refine iteDN (by assumption) ?_) | (with_reducible refine iteN (by assumption) ?_) | (with_reducible refine iteNS (by assumption) ?_) | ((with_reducible refine iteBt ?_ ?_); exact rfl) | ((with_reducible refine iteBf ?_ ?_); exact rfl) | (with_reducible refine iteBt (by decide +kernel) ?_) | (with_reducible refine iteBf (by decide +kernel) ?_) | (with_reducible refine iteD (by omega) ?_) | (with_reducible refine iteDN (by omega) ?_) | (with_reducible refine iteN (by omega) ?_) | (with_reducible refine iteNS (by omega) ?_) | ((with_reducible refine j_rng2 ?_ ?_); (first | exact ⟨by decide, by decide, by decide, by decide⟩ | exact ⟨by omega, by omega, by omega, by omega⟩)) | ((with_reducible refine j_rng ?_ ?_); (first | exact ⟨by decide, by decide⟩ | exact ⟨by omega, by omega⟩)) | ((with_reducible refine j_lenS ?_ ?_); assumption)))
def top (i : Nat) : Stmt := PySem.Challenge.pw_errandend_k03_tree_texts_refused.main.body.getD i (.Pass ⟨0, 0, 0, 0⟩)
abbrev s_shown_tree : Stmt := top 11
theorem sc_shown_tree : FnScope ["tree", "written", "pending", "part"] ["tree"] (defScope s_shown_tree) := ⟨rfl, rfl, rfl, by decide +kernel, rfl, by decide +kernel, by decide +kernel⟩
abbrev s_read_tree : Stmt := top 12
theorem sc_read_tree : FnScope ["text", "tree"] ["text"] (defScope s_read_tree) := ⟨rfl, rfl, rfl, by decide +kernel, rfl, by decide +kernel, by decide +kernel⟩
abbrev s_guessed_tree : Stmt := top 13
theorem sc_guessed_tree : FnScope ["text", "found", "sign"] ["text"] (defScope s_guessed_tree) := ⟨rfl, rfl, rfl, by decide +kernel, rfl, by decide +kernel, by decide +kernel⟩
abbrev s_taken_pair : Stmt := top 14
theorem sc_taken_pair : FnScope ["found", "right", "left"] ["found"] (defScope s_taken_pair) := ⟨rfl, rfl, rfl, by decide +kernel, rfl, by decide +kernel, by decide +kernel⟩
abbrev s_cell_at : Stmt := top 16
theorem sc_cell_at : FnScope ["script", "k"] ["script", "k"] (defScope s_cell_at) := ⟨rfl, rfl, rfl, by decide +kernel, rfl, by decide +kernel, by decide +kernel⟩
abbrev s_tree_by : Stmt := top 17
theorem sc_tree_by : FnScope ["cell", "room", "row", "left", "k", "digit", "last", "tree", "one"] ["cell", "room"] (defScope s_tree_by) := ⟨rfl, rfl, rfl, by decide +kernel, rfl, by decide +kernel, by decide +kernel⟩
abbrev s_count : Stmt := top 18
theorem sc_count : FnScope ["tree"] ["tree"] (defScope s_count) := ⟨rfl, rfl, rfl, by decide +kernel, rfl, by decide +kernel, by decide +kernel⟩
abbrev s_written : Stmt := top 19
theorem sc_written : FnScope ["tree"] ["tree"] (defScope s_written) := ⟨rfl, rfl, rfl, by decide +kernel, rfl, by decide +kernel, by decide +kernel⟩
abbrev s_is_tree : Stmt := top 20
theorem sc_is_tree : FnScope ["found", "room", "left", "one"] ["found", "room"] (defScope s_is_tree) := ⟨rfl, rfl, rfl, by decide +kernel, rfl, by decide +kernel, by decide +kernel⟩
abbrev s_parsed : Stmt := top 21
theorem sc_parsed : FnScope ["text", "stack", "wants", "sign", "row"] ["text"] (defScope s_parsed) := ⟨rfl, rfl, rfl, by decide +kernel, rfl, by decide +kernel, by decide +kernel⟩
abbrev s_row : Stmt := top 22
theorem sc_row : FnScope ["many", "left", "tree", "k"] ["many", "left"] (defScope s_row) := ⟨rfl, rfl, rfl, by decide +kernel, rfl, by decide +kernel, by decide +kernel⟩
abbrev s_sized : Stmt := top 23
theorem sc_sized : FnScope ["cell", "many", "tree", "k"] ["cell", "many"] (defScope s_sized) := ⟨rfl, rfl, rfl, by decide +kernel, rfl, by decide +kernel, by decide +kernel⟩
abbrev s_changed : Stmt := top 24
theorem sc_changed : FnScope ["text", "way", "place", "sign", "put"] ["text", "way", "place", "sign"] (defScope s_changed) := ⟨rfl, rfl, rfl, by decide +kernel, rfl, by decide +kernel, by decide +kernel⟩
abbrev s_refused : Stmt := top 25
theorem sc_refused : FnScope ["text", "told", "e"] ["text"] (defScope s_refused) := ⟨rfl, rfl, rfl, by decide +kernel, rfl, by decide +kernel, by decide +kernel⟩
abbrev s_law : Stmt := top 26
theorem sc_law : FnScope ["script", "tree", "many", "left", "text", "due", "found"] ["script"] (defScope s_law) := ⟨rfl, rfl, rfl, by decide +kernel, rfl, by decide +kernel, by decide +kernel⟩
structure Gs (K : PySem.W.Frag) (mg : Str → Option Value) : Prop where
  len : mg "len" = none
  range : mg "range" = none
  isinstance : mg "isinstance" = none
  str : mg "str" = none
  tuple : mg "tuple" = none
  ValueError : mg "ValueError" = none
  MOST_PAIRS : ∃ t, mg "MOST_PAIRS" = some (.int 60 t)
abbrev ES : List Rf := [.err, .text, .twice, .such, .count, .apart, .many, .way]
section
variable {P : Program} {w : World} {K : PySem.W.Frag} {mg : Str → Option Value} {base : Heap} {adr : Rf → Addr}
/-- the k-th cell, nought where there is none -/
def cellAt (ns : List Int) (k : Int) : Int := ns.getD k.toNat 0
def sp_cell_at : Sp3 := vS fun ds q => ∃ (ns : List Int) (k : Int), ds = [.rol (ns.map D.int), .int k] ∧ 0 ≤ k ∧ q (.int (cellAt ns k))
theorem ok_cell_at {k : Nat} (h : Has K mg "_law_cell_at" s_cell_at ["script", "k"]) (G : Gs K mg) : Cal3 P w K mg base (k + 1) "_law_cell_at" ["script", "k"] sp_cell_at := by
  refine h.val sc_cell_at (fun ds q ⟨ns, k, e, _⟩ => by rw [e]; rfl) fun f cdv A outer s H E ds q hr ⟨ns, k, e, h0, hq⟩ => ?_
  subst e
  refine ⟨_, (s_cons (s_if (t_cmp op_lt dn_intB (e_v 1) (e_callB call_len_seq dn_len rfl G.len PySem.boot_len (a_cons (e_v 0) a_nil)) (nomark _)) (s_one (s_ret (e_ix ix_list dn_ixL (e_v 0) (e_v 1) (fun _ _ => rfl)))) s_nil)
 (s_one (s_ret e_int))), ?_⟩
  decreasing_trivial
  have hl : (ns.map D.int).length = ns.length := List.length_map _
  refine iteD2 (fun c => ?_) (fun c => ?_)
  · rw [hl] at c
    have hk : k.toNat < ns.length := by omega
    decreasing_trivial
    refine j_ixR (atI_of h0 (v := .int (cellAt ns k)) ?_) hq
    rw [List.getElem?_map, List.getElem?_eq_getElem hk]
    simp [cellAt, List.getD_eq_getElem?_getD, List.getElem?_eq_getElem hk]
  · rw [hl] at c
    have hk : ns.length ≤ k.toNat := by omega
    decreasing_trivial
    have e : cellAt ns k = 0 := by simp [cellAt, List.getD_eq_getElem?_getD, List.getElem?_eq_none hk]
    rw [e] at hq
    exact hq

/-- the two last ones, taken; too few are refused -/
def sp_taken_pair (adr : Rf → Addr) : Sp3 := wrX fun ds S q qx => ∃ (p : Addr) (xs : List D), ds = [.ref p] ∧ S p = some (.lst xs) ∧ (∀ ys x y, xs = ys ++ [x, y] → q (.tup [x, y]) p (.lst ys)) ∧ (xs.length < 2 → qx (adr .text))
theorem ok_taken_pair {k : Nat} (h : Has K mg "taken_pair" s_taken_pair ["found"]) (G : Gs K mg) (R : Rfs K mg ES adr) : Cal3 P w K mg base (k + 1) "taken_pair" ["found"] (sp_taken_pair adr) := by
  refine h.wrX sc_taken_pair (fun ds S q qx ⟨p, xs, e, _⟩ => by rw [e]; rfl) fun f cdv A outer s0 H E ds S q qx hr hA => ?_
  obtain ⟨p, xs, rfl, hS, hq, hx⟩ := hA
  refine ⟨_, (s_cons (s_if (t_cmp op_lt dn_intB (e_callB call_len_seq dn_len rfl G.len PySem.boot_len (a_cons (e_v 0) a_nil)) e_int (nomark _)) (s_one (s_raise (C := adr .text) (R.bound .text (by decide)) (R.exc (by decide)) rfl rfl (a_cons e_str a_nil))) s_nil)
 (s_cons (s_set (i := 1) sc_taken_pair.nd rfl (Or.inl rfl) (e_bm0 PySem.F.plainAttrs_list PySem.F.slot_list_pop PySem.F.type_list_pop mt_popS dn_pop (e_v 0)))
 (s_cons (s_set (i := 2) sc_taken_pair.nd rfl (Or.inl rfl) (e_bm0 PySem.F.plainAttrs_list PySem.F.slot_list_pop PySem.F.type_list_pop mt_popS dn_pop (e_v 0)))
 (s_one (s_ret (e_tup (a_cons (e_v 2) (a_cons (e_v 1) a_nil)))))))), ?_⟩
  decreasing_trivial
  by_cases c : (xs.length : Int) < 2
  · refine iteD c ?_
    decreasing_trivial
    exact fun a => ⟨Sub.refl _, hx (by omega)⟩
  · refine iteDN c ?_
    rcases snoc_cases xs with rfl | ⟨ys1, y, rfl⟩
    · simp at c
    rcases snoc_cases ys1 with rfl | ⟨ys, x, rfl⟩
    · simp at c
    decreasing_trivial
    refine j_pop (by assumption) ?_
    decreasing_trivial
    refine j_pop up_same ?_
    rw [up_up]
    decreasing_trivial
    exact ⟨p, _, Sub.refl _, hq ys x y (by simp)⟩

/-- the guess of a text -/
def sp_guessed_tree (adr : Rf → Addr) : Sp3 := vX fun ds q qx => ∃ cs : List Nat, ds = [.str (textOf cs)] ∧ cs.length ≤ 1000 ∧ (∀ t, pile cs [] = [t] → q t.d) ∧ ((∀ t, pile cs [] ≠ [t]) → qx (adr .text))
theorem sign_eq (c d : Nat) : (⟨#[c]⟩ : Str) = textOf [d] ↔ c = d := by
  constructor
  · intro h
    have := congrArg (fun x : Str => x.cps.toList) h
    simpa [textOf] using this
  · rintro rfl
    rfl
theorem sign_at {cs : List Nat} {i : Nat} {d : D} (h : (E3.signs (textOf cs))[i]? = some d) : ∃ c, cs[i]? = some c ∧ d = .str ⟨#[c]⟩ := by
  unfold E3.signs at h
  rw [List.getElem?_map] at h
  have e : (textOf cs).cps.toList = cs := by simp [textOf]
  rw [e] at h
  cases c : cs[i]? with
  | none => rw [c] at h; cases h
  | some a => rw [c] at h; cases h; exact ⟨a, rfl, rfl⟩
theorem signs_len (cs : List Nat) : (E3.signs (textOf cs)).length = cs.length := by
  unfold E3.signs
  rw [List.length_map]
  simp [textOf]
theorem drop_at {α : Type} {xs : List α} {i : Nat} {x : α} (h : xs[i]? = some x) : xs.drop i = x :: xs.drop (i + 1) := by
  obtain ⟨hi, e⟩ := List.getElem?_eq_some_iff.mp h
  rw [← e]
  exact List.drop_eq_getElem_cons hi
theorem ok_guessed_tree {k : Nat} (h : Has K mg "guessed_tree" s_guessed_tree ["text"]) (G : Gs K mg) (R : Rfs K mg ES adr) (C_taken_pair : Cal3 P w K mg base k "taken_pair" ["found"] (sp_taken_pair adr)) : Cal3 P w K mg base (k + 1) "guessed_tree" ["text"] (sp_guessed_tree adr) := by
  refine h.valX sc_guessed_tree (fun ds q qx ⟨cs, e, _⟩ => by rw [e]; rfl) fun f cdv A outer s0 H E ds q qx hr hA => ?_
  obtain ⟨cs, rfl, hl, hq, hx⟩ := hA
  refine ⟨_, (s_cons (s_set (i := 1) sc_guessed_tree.nd rfl (Or.inl rfl) (e_lst a_nil))
 (s_cons (s_for pown rfl (i_str (e_v 0)) (g_name (i := 2) sc_guessed_tree.nd rfl (Or.inl rfl)) (s_one (s_if (t_cmp op_eq dn_eqS (e_v 2) e_str (nomark _)) (s_one (s_expr (e_bm PySem.F.plainAttrs_list PySem.F.slot_list_append PySem.F.type_list_append mt_append dn_append (e_v 1) (a_cons e_non a_nil)))) (s_one (s_if (t_cmp op_eq dn_eqS (e_v 2) e_str (nomark _)) (s_one (s_expr (e_bm PySem.F.plainAttrs_list PySem.F.slot_list_append PySem.F.type_list_append mt_append dn_append (e_v 1) (a_cons (e_call C_taken_pair hr rfl (a_cons (e_v 1) a_nil)) a_nil)))) s_nil)))))
 (s_cons (s_if (t_cmp op_ne dn_neI (e_callB call_len_seq dn_len rfl G.len PySem.boot_len (a_cons (e_v 1) a_nil)) e_int (nomark _)) (s_one (s_raise (C := adr .text) (R.bound .text (by decide)) (R.exc (by decide)) rfl rfl (a_cons e_str a_nil))) s_nil)
 (s_one (s_ret (e_ix ix_list dn_ixL (e_v 1) e_int (fun _ _ => rfl))))))), ?_⟩
  decreasing_trivial
  intro p hp
  decreasing_trivial
  refine ⟨fun i σ S => ∃ (ts : List Tre) (x2 : Option D), σ = [some (.str (textOf cs)), some (.ref p), x2] ∧ S p = some (.lst (ts.reverse.map Tre.d)) ∧ ts.length ≤ i ∧ i ≤ cs.length ∧ pile (cs.drop i) ts = pile cs [], ⟨[], none, rfl, up_same, Nat.le_refl _, Nat.zero_le _, by simp⟩, fun _ _ _ _ => trivial, ?_, ?_⟩
  · rintro i d σ S hd ⟨ts, x2, rfl, hS, hi, hic, hpl⟩
    obtain ⟨c, hc, rfl⟩ := sign_at hd
    have hil : i < cs.length := (List.getElem?_eq_some_iff.mp hc).1
    rw [drop_at hc] at hpl
    have hlen : (List.map Tre.d ts.reverse).length < sizeLine := by
      rw [List.length_map, List.length_reverse]
      exact Nat.lt_of_le_of_lt (by omega : ts.length ≤ 5000) (by decide)
    decreasing_trivial
    rw [s_bud]
    refine iteD2 (fun c0 => ?_) (fun c0 => ?_)
    · have ec : c = 45 := (sign_eq c 45).mp c0
      subst ec
      rw [pile_bud] at hpl
      decreasing_trivial
      refine j_append (by assumption) hlen ?_
      decreasing_trivial
      refine ⟨.bud :: ts, _, rfl, ?_, by simp only [List.length_cons]; omega, hil, hpl⟩
      rw [up_same, List.reverse_cons, List.map_append]
      rfl
    · have nc : ¬ c = 45 := fun z => c0 ((sign_eq c 45).mpr z)
      decreasing_trivial
      rw [s_shut]
      refine iteD2 (fun c1 => ?_) (fun c1 => ?_)
      · have ec : c = 93 := (sign_eq c 93).mp c1
        subst ec
        decreasing_trivial
        refine ⟨p, _, rfl, hS, fun ys x y e => ?_, fun hfew a => ?_⟩
        · obtain ⟨b, a, r, rfl⟩ : ∃ b a r, ts = b :: a :: r := by
            have := congrArg List.length e
            simp at this
            match ts, this with
            | b :: a :: r, _ => exact ⟨b, a, r, rfl⟩
          simp only [List.reverse_cons, List.append_assoc, List.map_append, List.map_cons, List.map_nil, List.cons_append, List.nil_append] at e
          obtain ⟨rfl, e2⟩ := List.append_inj' e rfl
          simp only [List.cons.injEq, and_true] at e2
          obtain ⟨rfl, rfl⟩ := e2
          rw [pile_shut] at hpl
          decreasing_trivial
          refine j_append up_same ?_ ?_
          · simp only [List.length_map, List.length_reverse, List.length_cons] at hlen ⊢
            omega
          rw [up_up]
          decreasing_trivial
          refine ⟨.pair a b :: r, _, rfl, ?_, by simp only [List.length_cons] at hi ⊢; omega, hil, hpl⟩
          rw [up_same, List.reverse_cons, List.map_append]
          rfl
        · refine hx fun t ht => ?_
          rw [ht] at hpl
          obtain ⟨a, b, r, rfl, _⟩ := pile_shut_few hpl (by simp)
          simp at hfew
          omega
      · have nc2 : ¬ c = 93 := fun z => c1 ((sign_eq c 93).mpr z)
        rw [pile_other nc nc2] at hpl
        decreasing_trivial
        exact ⟨ts, _, rfl, hS, by omega, hil, hpl⟩
  · rintro σ S ⟨ts, x2, rfl, hS, hi, hic, hpl⟩
    have e : cs.drop (E3.signs (textOf cs)).length = [] := List.drop_eq_nil_of_le (by rw [signs_len]; exact Nat.le_refl _)
    rw [e] at hpl
    have hpl : ts = pile cs [] := hpl
    decreasing_trivial
    by_cases c1 : ((List.map Tre.d ts.reverse).length : Int) = 1
    · refine iteNS c1 ?_
      rw [List.length_map, List.length_reverse] at c1
      match ts, c1 with
      | [t], _ =>
        decreasing_trivial
        exact hq t hpl.symm
    · refine iteN c1 ?_
      rw [List.length_map, List.length_reverse] at c1
      decreasing_trivial
      refine fun a => hx fun t ht => c1 ?_
      rw [hpl, ht]
      rfl

/-- what is still to be written: a tree, or one sign -/
inductive Piece where
  | tree (t : Tre)
  | sign (c : Nat)
def Piece.codes : Piece → List Nat
  | .tree t => t.codes
  | .sign c => [c]
def Piece.d : Piece → D
  | .tree t => t.d
  | .sign c => .str (textOf [c])
def Piece.wt : Piece → Nat
  | .tree t => 5 * t.size + 1
  | .sign _ => 1
/-- in the order in which they are written: from the end -/
def toCome (ps : List Piece) : List Nat := ps.reverse.flatMap Piece.codes
def weight (ps : List Piece) : Nat := (ps.map Piece.wt).sum
theorem toCome_snoc (ps : List Piece) (p : Piece) : toCome (ps ++ [p]) = p.codes ++ toCome ps := by simp [toCome]
theorem weight_snoc (ps : List Piece) (p : Piece) : weight (ps ++ [p]) = weight ps + p.wt := by simp [weight]
theorem weight_len (ps : List Piece) : ps.length ≤ weight ps := by
  induction ps with
  | nil => simp [weight]
  | cons p r ih =>
    have : 1 ≤ p.wt := by cases p <;> simp [Piece.wt]
    simp only [weight, List.map_cons, List.sum_cons, List.length_cons] at ih ⊢
    omega
def sp_shown_tree : Sp3 := vS fun ds q => ∃ t : Tre, ds = [t.d] ∧ t.size ≤ 1000 ∧ q (.str t.text)
theorem ok_shown_tree {k : Nat} (h : Has K mg "shown_tree" s_shown_tree ["tree"]) (G : Gs K mg) : Cal3 P w K mg base (k + 1) "shown_tree" ["tree"] sp_shown_tree := by
  refine h.val sc_shown_tree (fun ds q ⟨t, e, _⟩ => by rw [e]; rfl) fun f cdv A outer s0 H E ds q hr hA => ?_
  obtain ⟨t, rfl, hz, hq⟩ := hA
  refine ⟨_, (s_cons (s_set (i := 1) sc_shown_tree.nd rfl (Or.inl rfl) (e_lst a_nil))
 (s_cons (s_set (i := 2) sc_shown_tree.nd rfl (Or.inl rfl) (e_lst (a_cons (e_v 0) a_nil)))
 (s_cons (s_while PassesOwn.never (t_truth (e_v 2) (fun _ => rfl)) (s_cons (s_set (i := 3) sc_shown_tree.nd rfl (Or.inl rfl) (e_bm0 PySem.F.plainAttrs_list PySem.F.slot_list_pop PySem.F.type_list_pop mt_popS dn_pop (e_v 2)))
 (s_one (s_if (t_cmp op_isN dn_isN (e_v 3) e_non (nomark _)) (s_one (s_expr (e_bm PySem.F.plainAttrs_list PySem.F.slot_list_append PySem.F.type_list_append mt_append dn_append (e_v 1) (a_cons e_str a_nil)))) (s_one (s_if (t_val (e_callB call_isB dn_isB rfl G.isinstance boot_isinstance (a_cons (e_v 3) (a_cons (e_bltn (n := "str") rfl G.str boot_str) a_nil)))) (s_one (s_expr (e_bm PySem.F.plainAttrs_list PySem.F.slot_list_append PySem.F.type_list_append mt_append dn_append (e_v 1) (a_cons (e_v 3) a_nil)))) (s_one (s_expr (e_bm PySem.F.plainAttrs_list PySem.F.slot_list_extend PySem.F.type_list_extend mt_extend dn_extendL (e_v 2) (a_cons (e_lst (a_cons e_str (a_cons (e_ix ix_tup dn_ixT (e_v 3) e_int (fun _ _ => rfl)) (a_cons e_str (a_cons (e_ix ix_tup dn_ixT (e_v 3) e_int (fun _ _ => rfl)) (a_cons e_str a_nil)))))) a_nil))))))))))
 (s_one (s_ret (e_bm PySem.F.plainAttrs_str PySem.F.slot_str_join PySem.F.type_str_join mt_str_join dn_join e_str (a_cons (e_v 1) a_nil))))))), ?_⟩
  decreasing_trivial
  intro wa hwa
  decreasing_trivial
  intro p hp
  have hpw : wa ≠ p := ne3 up_same hp
  decreasing_trivial
  have hcl := t.codes_len
  refine j_while (fun m σ S => ∃ (cs : List Nat) (ps : List Piece) (x3 : Option D), σ = [some t.d, some (.ref wa), some (.ref p), x3] ∧ S wa = some (.lst (cs.map fun c => .str (textOf [c]))) ∧ S p = some (.lst (ps.map Piece.d)) ∧ cs ++ toCome ps = t.codes ∧ m = weight ps ∧ m ≤ 5 * t.size + 1) (5 * t.size + 1)
    ⟨[], [.tree t], none, rfl, by rw [up_ne hpw]; exact up_same, up_same, by simp [toCome, Piece.codes], by simp [weight, Piece.wt], Nat.le_refl _⟩ ?_
  rintro m σ S ⟨cs, ps, x3, rfl, hw, hl, hcs, hm, hmb⟩
  have hcs' : cs.length ≤ t.codes.length := by rw [← hcs, List.length_append]; omega
  decreasing_trivial
  rcases snoc_cases ps with rfl | ⟨ps, pc, rfl⟩
  · have e : cs = t.codes := by simpa [toCome] using hcs
    subst e
    decreasing_trivial
    have ew : (t.codes.map fun c => D.str (textOf [c])) = (t.codes.map fun c => textOf [c]).map D.str := by
      rw [List.map_map]
      rfl
    rw [ew] at hw
    refine ⟨textOf [], _, t.codes.map fun c => textOf [c], congrArg D.str s_none, rfl, .inl ⟨wa, rfl, hw⟩, ?_, ?_⟩
    · rw [join_size, textOf_len, hcl]
      simp only [List.length_nil]
      omega
    · rw [join_signs]
      exact hq
  · rw [weight_snoc] at hm
    have hwl := weight_len ps
    have eb : (!((ps ++ [pc]).map Piece.d).isEmpty) = true := by simp
    rw [eb]
    refine iteT ?_
    rw [List.map_append] at hl
    decreasing_trivial
    refine j_pop hl ?_
    have hw1 : up S p (.lst (ps.map Piece.d)) wa = some (.lst (cs.map fun c => .str (textOf [c]))) := by rw [up_ne hpw]; exact hw
    have hp1 : up S p (.lst (ps.map Piece.d)) p = some (.lst (ps.map Piece.d)) := up_same
    generalize up S p (.lst (ps.map Piece.d)) = S1 at hw1 hp1 ⊢
    rw [toCome_snoc] at hcs
    have hcm : (cs.map fun c => D.str (textOf [c])).length < sizeLine := Nat.lt_of_le_of_lt (by rw [List.length_map]; exact hcs') (Nat.lt_of_le_of_lt (by omega : t.codes.length ≤ 4001) (by decide))
    decreasing_trivial
    cases pc with
    | sign c =>
      refine iteBf rfl ?_
      decreasing_trivial
      refine j_append hw1 hcm ?_
      decreasing_trivial
      refine ⟨_, by simp only [Piece.wt] at hm; omega, cs ++ [c], ps, _, rfl, ?_, ?_, ?_, rfl, by omega⟩
      · rw [up_same, List.map_append]
        rfl
      · rw [up_ne (Ne.symm hpw)]
        exact hp1
      · rw [List.append_assoc]
        exact hcs
    | tree t' =>
      cases t' with
      | bud =>
        refine iteBt rfl ?_
        decreasing_trivial
        refine j_append hw1 hcm ?_
        decreasing_trivial
        refine ⟨_, by simp only [Piece.wt] at hm; omega, cs ++ [45], ps, _, rfl, ?_, ?_, ?_, rfl, by omega⟩
        · rw [up_same, List.map_append, s_bud]
          rfl
        · rw [up_ne (Ne.symm hpw)]
          exact hp1
        · rw [List.append_assoc]
          exact hcs
      | pair l r =>
        refine iteBf rfl ?_
        have epc : (Piece.tree (.pair l r)).d = .tup [l.d, r.d] := rfl
        rw [epc]
        decreasing_trivial
        intro p5 hp5
        have hp2 := up_get (o := .lst [.str "]", r.d, .str " ", l.d, .str "["]) hp1 hp5
        have hw2 := up_get (o := .lst [.str "]", r.d, .str " ", l.d, .str "["]) hw1 hp5
        decreasing_trivial
        refine j_extendL hp2 up_same ?_ ?_
        · refine size_small ?_
          rw [List.length_map]
          simp only [List.length_cons, List.length_nil]
          omega
        have hwp : wa ≠ p5 := ne3 hw1 hp5
        decreasing_trivial
        refine ⟨_, ?_, cs, ps ++ [.sign 93, .tree r, .sign 32, .tree l, .sign 91], _, rfl, ?_, ?_, ?_, rfl, ?_⟩
        · simp only [weight, List.map_append, List.map_cons, List.map_nil, List.sum_append, List.sum_cons, List.sum_nil, Piece.wt, Tre.size] at hm ⊢
          omega
        · rw [up_ne hpw]
          exact hw2
        · rw [up_same, List.map_append, s_shut, s_blank, s_open]
          rfl
        · have e5 : toCome (ps ++ [.sign 93, .tree r, .sign 32, .tree l, .sign 91]) = (Piece.tree (.pair l r)).codes ++ toCome ps := by
            simp [toCome, Piece.codes, Tre.codes]
          rw [e5]
          exact hcs
        · simp only [weight, List.map_append, List.map_cons, List.map_nil, List.sum_append, List.sum_cons, List.sum_nil, Piece.wt, Tre.size] at hm ⊢
          omega

/-- the tree of a text, or a refusal -/
def sp_read_tree (adr : Rf → Addr) : Sp3 := vX fun ds q qx => ∃ cs : List Nat, ds = [.str (textOf cs)] ∧ cs.length ≤ 1000 ∧ (∀ t : Tre, t.codes = cs → t.size ≤ 60 → q t.d) ∧ ((∀ t : Tre, t.codes = cs → ¬ t.size ≤ 60) → qx (adr .text))
theorem text_inj {a b : List Nat} (h : textOf a = textOf b) : a = b := by
  have := congrArg (fun x : Str => x.cps.toList) h
  simpa [textOf] using this
theorem pile_size : ∀ (cs : List Nat) (ts : List Tre), (pile cs ts).foldr (fun t n => t.size + n) 0 ≤ cs.length + ts.foldr (fun t n => t.size + n) 0
  | [], ts => by simp [pile]
  | c :: cs, ts => by
    rw [pile]
    split
    · have := pile_size cs (.bud :: ts)
      simp only [List.foldr_cons, Tre.size, List.length_cons] at this ⊢
      omega
    · split
      · match ts with
        | [] => simp [pile2]
        | [_] => simp [pile2]
        | b :: a :: r =>
          have := pile_size cs (.pair a b :: r)
          simp only [pile2, List.foldr_cons, Tre.size, List.length_cons] at this ⊢
          omega
      · have := pile_size cs ts
        simp only [List.length_cons]
        omega
theorem ok_read_tree {k : Nat} (h : Has K mg "read_tree" s_read_tree ["text"]) (G : Gs K mg) (R : Rfs K mg ES adr) (C_guessed_tree : Cal3 P w K mg base k "guessed_tree" ["text"] (sp_guessed_tree adr)) (C_shown_tree : Cal3 P w K mg base k "shown_tree" ["tree"] sp_shown_tree) :
    Cal3 P w K mg base (k + 1) "read_tree" ["text"] (sp_read_tree adr) := by
  refine h.valX sc_read_tree (fun ds q qx ⟨cs, e, _⟩ => by rw [e]; rfl) fun f cdv A outer s0 H E ds q qx hr hA => ?_
  obtain ⟨cs, rfl, hl, hq, hx⟩ := hA
  refine ⟨_, (s_cons (s_if (t_cmp op_gt dn_intB (e_bm PySem.F.plainAttrs_str PySem.F.slot_str_count PySem.F.type_str_count mt_str_count dn_count (e_v 0) (a_cons e_str a_nil)) (e_globI G.MOST_PAIRS rfl) (nomark _)) (s_one (s_raise (C := adr .text) (R.bound .text (by decide)) (R.exc (by decide)) rfl rfl (a_cons e_str a_nil))) s_nil)
 (s_cons (s_set (i := 1) sc_read_tree.nd rfl (Or.inl rfl) (e_call C_guessed_tree hr rfl (a_cons (e_v 0) a_nil)))
 (s_cons (s_if (t_cmp op_ne dn_neS (e_call C_shown_tree hr rfl (a_cons (e_v 1) a_nil)) (e_v 0) (nomark _)) (s_one (s_raise (C := adr .text) (R.bound .text (by decide)) (R.exc (by decide)) rfl rfl (a_cons e_str a_nil))) s_nil)
 (s_one (s_ret (e_v 1)))))), ?_⟩
  decreasing_trivial
  refine ⟨textOf cs, textOf [93], rfl, by rw [s_shut], ?_⟩
  rw [count_text]
  decreasing_trivial
  by_cases c : (60 : Int) < ((cs.count 93 : Nat) : Int)
  · refine iteD c ?_
    decreasing_trivial
    refine fun a => hx fun t e => ?_
    rw [← e, t.count_shut] at c
    omega
  · refine iteDN c ?_
    decreasing_trivial
    refine ⟨cs, rfl, hl, fun t ht => ?_, fun hno a => ?_⟩
    · have hz : t.size ≤ 1000 := by
        have := pile_size cs []
        rw [ht] at this
        simp at this
        omega
      decreasing_trivial
      refine ⟨t, rfl, hz, ?_⟩
      decreasing_trivial
      by_cases e : t.text = textOf cs
      · refine iteNS e ?_
        have e := text_inj e
        decreasing_trivial
        refine hq t e ?_
        rw [← e, t.count_shut] at c
        omega
      · refine iteN e ?_
        decreasing_trivial
        refine fun a => hx fun u hu _ => e ?_
        have := pile_tree u [] []
        rw [List.append_nil, hu, ht] at this
        have this : [t] = [u] := this
        cases this
        exact congrArg textOf hu
    · refine hx fun t e _ => hno t ?_
      have := pile_tree t [] []
      rw [List.append_nil, e] at this
      exact this

def sp_refused : Sp3 := vS fun ds q => ∃ cs : List Nat, ds = [.str (textOf cs)] ∧ cs.length ≤ 1000 ∧ (∀ t : Tre, t.codes = cs → ¬ t.size ≤ 60) ∧ q (.bl true)
theorem ok_refused {k : Nat} (h : Has K mg "_law_refused" s_refused ["text"]) (G : Gs K mg) (R : Rfs K mg ES adr) (C_read_tree : Cal3 P w K mg base k "read_tree" ["text"] (sp_read_tree adr)) : Cal3 P w K mg base (k + 1) "_law_refused" ["text"] sp_refused := by
  refine h.val sc_refused (fun ds q ⟨cs, e, _⟩ => by rw [e]; rfl) fun f cdv A outer s0 H E ds q hr hA => ?_
  obtain ⟨cs, rfl, hl, hno, hq⟩ := hA
  refine ⟨_, (s_cons (s_set (i := 1) sc_refused.nd rfl (Or.inl rfl) e_bl)
 (s_cons (s_try rfl rfl (fun _ _ _ => (s_one (s_expr (e_call C_read_tree hr rfl (a_cons (e_v 0) a_nil))))) (h_as (i := 2) (R.bound .err (by decide)) (R.base (i := .err) (by decide)) rfl sc_refused.nd rfl rfl (fun _ => (s_cons (s_set (i := 1) sc_refused.nd rfl (Or.inl rfl) (e_and (e_callB call_isE (dn_isE R) rfl G.isinstance boot_isinstance (a_cons (e_v 2) (a_cons (e_globC (R.bound .text (by decide)) rfl) a_nil))) (e_one (e_callB call_isE (dn_isE R) rfl G.isinstance boot_isinstance (a_cons (e_v 2) (a_cons (e_bltn (n := "ValueError") rfl G.ValueError PyProof.Rows.Boot.«ValueError») a_nil))))))
 (s_one (s_set (i := 1) sc_refused.nd rfl (Or.inl rfl) (e_and (e_v 1) (e_one (e_not (e_callB call_isE (dn_isE R) rfl G.isinstance boot_isinstance (a_cons (e_v 2) (a_cons (e_tup (a_cons (e_globC (R.bound .apart (by decide)) rfl) (a_cons (e_globC (R.bound .such (by decide)) rfl) (a_cons (e_globC (R.bound .way (by decide)) rfl) (a_cons (e_globC (R.bound .many (by decide)) rfl) (a_cons (e_globC (R.bound .twice (by decide)) rfl) (a_cons (e_globC (R.bound .count (by decide)) rfl) a_nil))))))) a_nil)))))))))) h_nil))
 (s_one (s_ret (e_v 1))))), ?_⟩
  decreasing_trivial
  refine ⟨cs, rfl, hl, fun t e hz => absurd hz (hno t e), fun _ a => ?_⟩
  refine j_hit (R.two .text (by decide) .err (by decide)) fun ha => ?_
  decreasing_trivial
  refine j_isE (i := .text) (j := .text) up_same (by decide) (by decide) ?_
  decreasing_trivial
  refine j_isEV (i := .text) up_same (by decide) ?_
  decreasing_trivial
  refine j_isET [.apart, .such, .way, .many, .twice, .count] (i := .text) up_same (by decide) (by decide) ?_
  decreasing_trivial
  exact hq

def sp_count (n : Nat) : Sp3 := vS fun ds q => ∃ t : Tre, ds = [t.d] ∧ t.deep < n ∧ q (.int t.size)
theorem ok_count (h : Has K mg "_law_count" s_count ["tree"]) : ∀ n : Nat, Cal3 P w K mg base n "_law_count" ["tree"] (sp_count n)
  | 0 => h.none3 (fun ds S Q E ⟨t, _, z, _⟩ => by omega) 0
  | n + 1 => by
    have C_count := ok_count h n
    refine h.val sc_count (fun ds q ⟨t, e, _⟩ => by rw [e]; rfl) fun f cdv A outer s0 H E ds q hr hA => ?_
    obtain ⟨t, rfl, hd, hq⟩ := hA
    refine ⟨_, (s_cons (s_if (t_cmp op_isN dn_isN (e_v 0) e_non (nomark _)) (s_one (s_ret e_int)) s_nil)
 (s_one (s_ret (e_op op_add dn_int (e_op op_add dn_int e_int (e_call C_count hr rfl (a_cons (e_ix ix_tup dn_ixT (e_v 0) e_int (fun _ _ => rfl)) a_nil))) (e_call C_count hr rfl (a_cons (e_ix ix_tup dn_ixT (e_v 0) e_int (fun _ _ => rfl)) a_nil)))))), ?_⟩
    decreasing_trivial
    cases t with
    | bud =>
      refine iteBt rfl ?_
      decreasing_trivial
      exact hq
    | pair l r =>
      refine iteBf rfl ?_
      have e : (Tre.pair l r).d = .tup [l.d, r.d] := rfl
      rw [e]
      simp only [Tre.deep] at hd
      decreasing_trivial
      refine ⟨l, rfl, by omega, ?_⟩
      decreasing_trivial
      refine ⟨r, rfl, by omega, ?_⟩
      decreasing_trivial
      have e : (1 + (l.size : Int) + (r.size : Int)) = ((Tre.pair l r).size : Int) := by
        simp only [Tre.size]
        omega
      rw [e]
      exact hq

def sp_written (n : Nat) : Sp3 := vS fun ds q => ∃ t : Tre, ds = [t.d] ∧ t.deep < n ∧ t.size ≤ 1000 ∧ q (.str t.text)
theorem ok_written (h : Has K mg "_law_written" s_written ["tree"]) : ∀ n : Nat, Cal3 P w K mg base n "_law_written" ["tree"] (sp_written n)
  | 0 => h.none3 (fun ds S Q E ⟨t, _, z, _⟩ => by omega) 0
  | n + 1 => by
    have C_written := ok_written h n
    refine h.val sc_written (fun ds q ⟨t, e, _⟩ => by rw [e]; rfl) fun f cdv A outer s0 H E ds q hr hA => ?_
    obtain ⟨t, rfl, hd, hz, hq⟩ := hA
    refine ⟨_, (s_cons (s_if (t_cmp op_isN dn_isN (e_v 0) e_non (nomark _)) (s_one (s_ret e_str)) s_nil)
 (s_one (s_ret (e_op op_add_str dn_addS (e_op op_add_str dn_addS (e_op op_add_str dn_addS (e_op op_add_str dn_addS e_str (e_call C_written hr rfl (a_cons (e_ix ix_tup dn_ixT (e_v 0) e_int (fun _ _ => rfl)) a_nil))) e_str) (e_call C_written hr rfl (a_cons (e_ix ix_tup dn_ixT (e_v 0) e_int (fun _ _ => rfl)) a_nil))) e_str)))), ?_⟩
    decreasing_trivial
    cases t with
    | bud =>
      refine iteBt rfl ?_
      decreasing_trivial
      rw [s_bud]
      exact hq
    | pair l r =>
      refine iteBf rfl ?_
      have e : (Tre.pair l r).d = .tup [l.d, r.d] := rfl
      rw [e]
      simp only [Tre.deep] at hd
      simp only [Tre.size] at hz
      have c1 := l.codes_len
      have c2 := r.codes_len
      decreasing_trivial
      refine ⟨l, rfl, by omega, by omega, ?_⟩
      decreasing_trivial
      rw [s_open, s_blank, s_shut]
      refine j_addS ?_ ?_
      · refine size_small ?_
        rw [textOf_len, textOf_len, c1]
        simp only [List.length_cons, List.length_nil]
        omega
      rw [textOf_cat]
      decreasing_trivial
      refine j_addS ?_ ?_
      · refine size_small ?_
        rw [textOf_len, textOf_len]
        simp only [List.length_append, List.length_cons, List.length_nil, c1]
        omega
      rw [textOf_cat]
      decreasing_trivial
      refine ⟨r, rfl, by omega, by omega, ?_⟩
      decreasing_trivial
      refine j_addS ?_ ?_
      · refine size_small ?_
        rw [textOf_len, textOf_len]
        simp only [List.length_append, List.length_cons, List.length_nil, c1, c2]
        omega
      rw [textOf_cat]
      decreasing_trivial
      refine j_addS ?_ ?_
      · refine size_small ?_
        rw [textOf_len, textOf_len]
        simp only [List.length_append, List.length_cons, List.length_nil, c1, c2]
        omega
      rw [textOf_cat]
      have e : ((([91] ++ l.codes) ++ [32]) ++ r.codes) ++ [93] = (Tre.pair l r).codes := by simp [Tre.codes]
      rw [e]
      exact hq

def sp_row : Sp3 := vS fun ds q => ∃ (n : Int) (b : Bool), ds = [.int n, .bl b] ∧ 0 ≤ n ∧ n ≤ 100 ∧ ∀ t : Tre, (t.size : Int) = n → q t.d
theorem ok_row {k : Nat} (h : Has K mg "_law_row" s_row ["many", "left"]) (G : Gs K mg) : Cal3 P w K mg base (k + 1) "_law_row" ["many", "left"] sp_row := by
  refine h.val sc_row (fun ds q ⟨n, b, e, _⟩ => by rw [e]; rfl) fun f cdv A outer s0 H E ds q hr hA => ?_
  obtain ⟨n, b, rfl, h0, h1, hq⟩ := hA
  refine ⟨_, (s_cons (s_set (i := 2) sc_row.nd rfl (Or.inl rfl) e_non)
 (s_cons (s_for PassesOwn.never rfl (i_range1 rfl G.range (a_cons (e_v 0) a_nil)) (g_name (i := 3) sc_row.nd rfl (Or.inl rfl)) (s_one (s_if (t_val (e_v 1)) (s_one (s_set (i := 2) sc_row.nd rfl (Or.inl rfl) (e_tup (a_cons (e_v 2) (a_cons e_non a_nil))))) (s_one (s_set (i := 2) sc_row.nd rfl (Or.inl rfl) (e_tup (a_cons e_non (a_cons (e_v 2) a_nil))))))))
 (s_one (s_ret (e_v 2))))), ?_⟩
  decreasing_trivial
  refine ⟨fun i σ S => ∃ (t : Tre) (x3 : Option D), σ = [some (.int n), some (.bl b), some t.d, x3] ∧ t.size = i, ⟨.bud, none, rfl, rfl⟩, fun _ _ _ _ => trivial, ?_, ?_⟩
  · rintro i d σ S hd ⟨t, x3, rfl, hz⟩
    decreasing_trivial
    cases b
    · refine iteF ?_
      decreasing_trivial
      exact ⟨.pair .bud t, _, rfl, by simp only [Tre.size]; omega⟩
    · refine iteT ?_
      decreasing_trivial
      exact ⟨.pair t .bud, _, rfl, by simp only [Tre.size]; omega⟩
  · rintro σ S ⟨t, x3, rfl, hz⟩
    decreasing_trivial
    refine hq t ?_
    rw [hz, nums_len]
    omega

/-- some text, not longer by more than one -/
def sp_changed : Sp3 := vS fun ds q => ∃ (cs : List Nat) (way place sign : Int), ds = [.str (textOf cs), .int way, .int place, .int sign] ∧ cs.length ≤ 900 ∧ ∀ cs' : List Nat, cs'.length ≤ cs.length + 1 → q (.str (textOf cs'))
theorem ok_changed {k : Nat} (h : Has K mg "_law_changed" s_changed ["text", "way", "place", "sign"]) (G : Gs K mg) : Cal3 P w K mg base (k + 1) "_law_changed" ["text", "way", "place", "sign"] sp_changed := by
  refine h.val sc_changed (fun ds q ⟨cs, a, b, c, e, _⟩ => by rw [e]; rfl) fun f cdv A outer s0 H E ds q hr hA => ?_
  obtain ⟨cs, way, place, sign, rfl, hl, hq⟩ := hA
  have hlen : (textOf cs).length ≤ sizeLine := by rw [textOf_len]; exact Nat.le_trans hl (by decide)
  refine ⟨_, (s_cons (s_set (i := 2) sc_changed.nd rfl (Or.inl rfl) (e_op op_mod dn_intC (e_v 2) (e_op op_add dn_int (e_callB call_len_str dn_lenS rfl G.len PySem.boot_len (a_cons (e_v 0) a_nil)) e_int)))
 (s_cons (s_set (i := 4) sc_changed.nd rfl (Or.inl rfl) (e_ix ix_str dn_ixS e_str (e_op op_mod dn_intC (e_v 3) e_int) (fun _ _ => rfl)))
 (s_cons (s_if (t_cmp op_eq dn_eqI (e_v 1) e_int (nomark _)) (s_one (s_ret (e_op op_add_str dn_addS (e_slice sl_str dn_slS (e_v 0) p_none (p_some (e_v 2))) (e_slice sl_str dn_slS (e_v 0) (p_some (e_op op_add dn_int (e_v 2) e_int)) p_none)))) s_nil)
 (s_cons (s_if (t_cmp op_eq dn_eqI (e_v 1) e_int (nomark _)) (s_one (s_ret (e_op op_add_str dn_addS (e_op op_add_str dn_addS (e_slice sl_str dn_slS (e_v 0) p_none (p_some (e_v 2))) (e_v 4)) (e_slice sl_str dn_slS (e_v 0) (p_some (e_v 2)) p_none)))) s_nil)
 (s_one (s_ret (e_op op_add_str dn_addS (e_op op_add_str dn_addS (e_slice sl_str dn_slS (e_v 0) p_none (p_some (e_v 2))) (e_v 4)) (e_slice sl_str dn_slS (e_v 0) (p_some (e_op op_add dn_int (e_v 2) e_int)) p_none)))))))), ?_⟩
  decreasing_trivial
  have p0 : 0 ≤ place % (((textOf cs).length : Int) + 1) := Int.emod_nonneg _ (by omega)
  have p1 : place % (((textOf cs).length : Int) + 1) < ((textOf cs).length : Int) + 1 := Int.emod_lt_of_pos _ (by omega)
  generalize place % (((textOf cs).length : Int) + 1) = pl at p0 p1 ⊢
  rw [textOf_len] at p1
  have s0 : 0 ≤ sign % 7 := Int.emod_nonneg _ (by decide)
  have s1 : sign % 7 < 7 := Int.emod_lt_of_pos _ (by decide)
  obtain ⟨cp, hcp⟩ : ∃ cp, ("[]- a\n=" : Str).cps.toList[(sign % 7).toNat]? = some cp := by
    have e : ("[]- a\n=" : Str).cps.toList = [91, 93, 45, 32, 97, 10, 61] := by decide +kernel
    rw [e]
    exact ⟨_, List.getElem?_eq_getElem (by simp; omega)⟩
  refine j_ixS (by decide +kernel) (atI_of s0 hcp) ?_
  have ecp : (⟨#[cp]⟩ : Str) = textOf [cp] := rfl
  rw [ecp]
  have sz : ∀ {a b : List Nat}, a.length + b.length ≤ 2000 → (textOf a).length + (textOf b).length ≤ sizeLine := fun {a b} h => by
    rw [textOf_len, textOf_len]
    exact Nat.le_trans h (by decide)
  have e1 : cutT (textOf cs).cps.toList none (some pl) = cs.take pl.toNat := by rw [textOf_codes, cutT_to p0]
  have e2 : cutT (textOf cs).cps.toList (some pl) none = cs.drop pl.toNat := by rw [textOf_codes, cutT_from p0]
  have e3 : cutT (textOf cs).cps.toList (some (pl + 1)) none = cs.drop (pl + 1).toNat := by rw [textOf_codes, cutT_from (by omega)]
  have l1 : (cs.take pl.toNat).length = pl.toNat := by rw [List.length_take]; omega
  have l2 : (cs.drop pl.toNat).length = cs.length - pl.toNat := List.length_drop
  have l3 : (cs.drop (pl + 1).toNat).length = cs.length - (pl + 1).toNat := List.length_drop
  by_cases w1 : way = 1
  · decreasing_trivial
    refine j_slS hlen ?_
    rw [e1]
    decreasing_trivial
    refine j_slS hlen ?_
    rw [e3]
    decreasing_trivial
    refine j_addS (sz (by omega)) ?_
    rw [textOf_cat]
    exact hq _ (by rw [List.length_append]; omega)
  · by_cases w2 : way = 2
    · decreasing_trivial
      refine j_slS hlen ?_
      rw [e1]
      decreasing_trivial
      refine j_addS (sz (by simp only [List.length_cons, List.length_nil]; omega)) ?_
      rw [textOf_cat]
      decreasing_trivial
      refine j_slS hlen ?_
      rw [e2]
      decreasing_trivial
      refine j_addS (sz (by simp only [List.length_append, List.length_cons, List.length_nil]; omega)) ?_
      rw [textOf_cat]
      exact hq _ (by simp only [List.length_append, List.length_cons, List.length_nil]; omega)
    · decreasing_trivial
      refine j_slS hlen ?_
      rw [e1]
      decreasing_trivial
      refine j_addS (sz (by simp only [List.length_cons, List.length_nil]; omega)) ?_
      rw [textOf_cat]
      decreasing_trivial
      refine j_slS hlen ?_
      rw [e3]
      decreasing_trivial
      refine j_addS (sz (by simp only [List.length_append, List.length_cons, List.length_nil]; omega)) ?_
      rw [textOf_cat]
      exact hq _ (by simp only [List.length_append, List.length_cons, List.length_nil]; omega)

def sp_is_tree : Sp3 := vS fun ds q => ∃ (t : Tre) (n : Int), ds = [t.d, .int n] ∧ (t.size : Int) ≤ n ∧ t.size ≤ 1000 ∧ q (.bl true)
theorem ok_is_tree {k : Nat} (h : Has K mg "_law_is_tree" s_is_tree ["found", "room"]) (G : Gs K mg) : Cal3 P w K mg base (k + 1) "_law_is_tree" ["found", "room"] sp_is_tree := by
  refine h.val sc_is_tree (fun ds q ⟨t, n, e, _⟩ => by rw [e]; rfl) fun f cdv A outer s0 H E ds q hr hA => ?_
  obtain ⟨t, n, rfl, hn, hz, hq⟩ := hA
  refine ⟨_, (s_cons (s_set (i := 2) sc_is_tree.nd rfl (Or.inl rfl) (e_lst (a_cons (e_v 0) a_nil)))
 (s_cons (s_while PassesOwn.never (t_truth (e_v 2) (fun _ => rfl)) (s_cons (s_set (i := 3) sc_is_tree.nd rfl (Or.inl rfl) (e_bm0 PySem.F.plainAttrs_list PySem.F.slot_list_pop PySem.F.type_list_pop mt_popS dn_pop (e_v 2)))
 (s_one (s_if (t_cmp op_notN dn_notN (e_v 3) e_non (nomark _)) (s_cons (s_if (PW3.pt (w_or (t_not (t_val (e_callB call_isB dn_isB rfl G.isinstance boot_isinstance (a_cons (e_v 3) (a_cons (e_bltn (n := "tuple") rfl G.tuple boot_tuple) a_nil))))) (w_or (t_cmp op_ne dn_neI (e_callB call_len_seq dn_len rfl G.len PySem.boot_len (a_cons (e_v 3) a_nil)) e_int (nomark _)) (w_or1 (t_cmp op_eq dn_eqI (e_v 1) e_int (nomark _)))))) (s_one (s_ret e_bl)) s_nil)
 (s_cons (s_set (i := 1) sc_is_tree.nd rfl (Or.inl rfl) (e_op op_sub dn_int (e_v 1) e_int))
 (s_cons (s_expr (e_bm PySem.F.plainAttrs_list PySem.F.slot_list_append PySem.F.type_list_append mt_append dn_append (e_v 2) (a_cons (e_ix ix_tup dn_ixT (e_v 3) e_int (fun _ _ => rfl)) a_nil)))
 (s_one (s_expr (e_bm PySem.F.plainAttrs_list PySem.F.slot_list_append PySem.F.type_list_append mt_append dn_append (e_v 2) (a_cons (e_ix ix_tup dn_ixT (e_v 3) e_int (fun _ _ => rfl)) a_nil))))))) s_nil))))
 (s_one (s_ret e_bl)))), ?_⟩
  decreasing_trivial
  intro p hp
  decreasing_trivial
  refine j_while (fun m σ S => ∃ (n : Int) (ts : List Tre) (x3 : Option D), σ = [some t.d, some (.int n), some (.ref p), x3] ∧ S p = some (.lst (ts.map Tre.d)) ∧ (sizes ts : Int) ≤ n ∧ m = 2 * sizes ts + ts.length ∧ m ≤ 2 * t.size + 1) (2 * t.size + 1)
    ⟨n, [t], none, rfl, up_same, by simpa [sizes] using hn, by simp [sizes], Nat.le_refl _⟩ ?_
  rintro m σ S ⟨n, ts, x3, rfl, hl, hk, hm, hmb⟩
  decreasing_trivial
  rcases snoc_cases ts with rfl | ⟨ts, t', rfl⟩
  · decreasing_trivial
    exact hq
  · have eb : (!((ts ++ [t']).map Tre.d).isEmpty) = true := by simp
    rw [eb]
    refine iteT ?_
    rw [sizes_append] at hk hm
    simp only [sizes, List.length_append, List.length_cons, List.length_nil] at hk hm
    rw [List.map_append] at hl
    decreasing_trivial
    refine j_pop hl ?_
    have hp1 : up S p (.lst (ts.map Tre.d)) p = some (.lst (ts.map Tre.d)) := up_same
    generalize up S p (.lst (ts.map Tre.d)) = S1 at hp1 ⊢
    decreasing_trivial
    cases t' with
    | bud =>
      refine iteBf rfl ?_
      simp only [Tre.size] at hk hm
      decreasing_trivial
      exact ⟨_, by omega, n, ts, _, rfl, hp1, by omega, rfl, by omega⟩
    | pair l r =>
      refine iteBt rfl ?_
      simp only [Tre.size] at hk hm
      have e : (Tre.pair l r).d = .tup [l.d, r.d] := rfl
      rw [e]
      have hn0 : ¬ n = 0 := by omega
      decreasing_trivial
      have hlen : (ts.map Tre.d).length + 2 < sizeLine := by rw [List.length_map]; exact Nat.lt_of_le_of_lt (by omega : ts.length + 2 ≤ 3003) (by decide)
      refine j_append hp1 (by omega) ?_
      decreasing_trivial
      refine j_append up_same (by simp only [List.length_append, List.length_cons, List.length_nil]; omega) ?_
      rw [up_up]
      decreasing_trivial
      refine ⟨_, ?_, n - 1, ts ++ [l] ++ [r], _, rfl, ?_, ?_, rfl, ?_⟩
      · rw [sizes_append, sizes_append]
        simp only [sizes, List.length_append, List.length_cons, List.length_nil]
        omega
      · rw [up_same, List.map_append, List.map_append]
        rfl
      · rw [sizes_append, sizes_append]
        simp only [sizes]
        omega
      · rw [sizes_append, sizes_append]
        simp only [sizes, List.length_append, List.length_cons, List.length_nil]
        omega

def sp_tree_by : Sp3 := vS fun ds q => ∃ (c n : Int), ds = [.int c, .int n] ∧ 0 ≤ n ∧ n ≤ 100 ∧ ∀ t : Tre, (t.size : Int) ≤ n → q t.d
theorem sizes_take (ts : List Tre) (i : Nat) {t : Tre} (h : ts[i]? = some t) : sizes (ts.take (i + 1)) = sizes (ts.take i) + t.size := by
  rw [List.take_add_one, h, sizes_append]
  simp [sizes]
theorem cutD_tail (x : D) (xs : List D) : E3.cutD (x :: xs) (some 1) none = xs := by
  unfold E3.cutD
  have e1 : HT.sIx (x :: xs).length 0 (some (1 : Int)) = 1 := by
    have := HT.sIx_nat (x :: xs).length 0 1
    rw [Nat.min_eq_left (by simp)] at this
    exact this
  rw [e1, HT.sIx_none]
  exact List.take_of_length_le (by rw [List.length_drop]; omega)
theorem ok_tree_by {k : Nat} (h : Has K mg "_law_tree_by" s_tree_by ["cell", "room"]) (G : Gs K mg) : Cal3 P w K mg base (k + 1) "_law_tree_by" ["cell", "room"] sp_tree_by := by
  refine h.val sc_tree_by (fun ds q ⟨c, n, e, _⟩ => by rw [e]; rfl) fun f cdv A outer s0 H E ds q hr hA => ?_
  obtain ⟨c, n, rfl, h0, h1, hq⟩ := hA
  refine ⟨_, (s_cons (s_set (i := 2) sc_tree_by.nd rfl (Or.inl rfl) (e_lst (a_cons e_non a_nil)))
 (s_cons (s_set (i := 3) sc_tree_by.nd rfl (Or.inl rfl) (e_op op_mod dn_intC (e_v 0) (e_op op_pow dn_intC e_int e_int)))
 (s_cons (s_for PassesOwn.never rfl (i_range1 rfl G.range (a_cons (e_v 1) a_nil)) (g_name (i := 4) sc_tree_by.nd rfl (Or.inl rfl)) (s_cons (s_set (i := 5) sc_tree_by.nd rfl (Or.inl rfl) (e_op op_mod dn_intC (e_v 3) e_int))
 (s_cons (s_set (i := 3) sc_tree_by.nd rfl (Or.inl rfl) (e_op op_fdiv dn_intC (e_v 3) e_int))
 (s_one (s_if (t_cmp op_eq dn_eqI (e_v 5) e_int (nomark _)) (s_one (s_expr (e_bm PySem.F.plainAttrs_list PySem.F.slot_list_append PySem.F.type_list_append mt_append dn_append (e_v 2) (a_cons e_non a_nil)))) (s_one (s_if (PW3.pt (w_and (t_cmp op_eq dn_eqI (e_v 5) e_int (nomark _)) (w_and1 (t_cmp op_gt dn_intB (e_callB call_len_seq dn_len rfl G.len PySem.boot_len (a_cons (e_v 2) a_nil)) e_int (nomark _))))) (s_cons (s_set (i := 6) sc_tree_by.nd rfl (Or.inl rfl) (e_bm0 PySem.F.plainAttrs_list PySem.F.slot_list_pop PySem.F.type_list_pop mt_popS dn_pop (e_v 2)))
 (s_one (s_expr (e_bm PySem.F.plainAttrs_list PySem.F.slot_list_append PySem.F.type_list_append mt_append dn_append (e_v 2) (a_cons (e_tup (a_cons (e_bm0 PySem.F.plainAttrs_list PySem.F.slot_list_pop PySem.F.type_list_pop mt_popS dn_pop (e_v 2)) (a_cons (e_v 6) a_nil))) a_nil))))) (s_one (s_if (t_cmp op_eq dn_eqI (e_v 5) e_int (nomark _)) (s_one (s_expr (e_bm PySem.F.plainAttrs_list PySem.F.slot_list_append PySem.F.type_list_append mt_append dn_append (e_v 2) (a_cons (e_tup (a_cons (e_bm0 PySem.F.plainAttrs_list PySem.F.slot_list_pop PySem.F.type_list_pop mt_popS dn_pop (e_v 2)) (a_cons e_non a_nil))) a_nil)))) (s_one (s_expr (e_bm PySem.F.plainAttrs_list PySem.F.slot_list_append PySem.F.type_list_append mt_append dn_append (e_v 2) (a_cons (e_tup (a_cons e_non (a_cons (e_bm0 PySem.F.plainAttrs_list PySem.F.slot_list_pop PySem.F.type_list_pop mt_popS dn_pop (e_v 2)) a_nil))) a_nil)))))))))))))
 (s_cons (s_set (i := 7) sc_tree_by.nd rfl (Or.inl rfl) (e_ix ix_list dn_ixL (e_v 2) e_int (fun _ _ => rfl)))
 (s_cons (s_for PassesOwn.never rfl (i_list (e_slice sl_list dn_slL (e_v 2) (p_some e_int) p_none)) (g_name (i := 8) sc_tree_by.nd rfl (Or.inl rfl)) (s_one (s_set (i := 7) sc_tree_by.nd rfl (Or.inl rfl) (e_tup (a_cons (e_v 7) (a_cons (e_v 8) a_nil))))))
 (s_one (s_ret (e_v 7)))))))), ?_⟩
  decreasing_trivial
  intro p hp
  decreasing_trivial
  refine ⟨fun i σ S => ∃ (lf : Int) (ts : List Tre) (x4 x5 x6 x7 x8 : Option D), σ = [some (.int c), some (.int n), some (.ref p), some (.int lf), x4, x5, x6, x7, x8] ∧ S p = some (.lst (ts.map Tre.d)) ∧ 1 ≤ ts.length ∧ sizes ts + ts.length ≤ i + 1,
    ⟨_, [.bud], none, none, none, none, none, rfl, up_same, by simp, by simp [sizes, Tre.size]⟩, fun _ _ _ _ => trivial, ?_, ?_⟩
  · rintro i d σ S hd ⟨lf, ts, x4, x5, x6, x7, x8, rfl, hS, one, few⟩
    obtain ⟨hi, rfl⟩ := nums_at hd
    have hlen : (ts.map Tre.d).length + 5 < sizeLine := by rw [List.length_map]; exact Nat.lt_of_le_of_lt (by omega : ts.length + 5 ≤ 3003) (by decide)
    have put : ∀ (us : List Tre) (u : Tre), ((us.map Tre.d) ++ [u.d]) = (us ++ [u]).map Tre.d := fun us u => by simp
    by_cases c0 : lf % 4 = 0
    · decreasing_trivial
      refine j_append hS (by omega) ?_
      decreasing_trivial
      refine ⟨_, ts ++ [.bud], _, _, _, _, _, rfl, by rw [up_same, ← put]; rfl, by simp, ?_⟩
      rw [sizes_append]
      simp only [sizes, Tre.size, List.length_append, List.length_cons, List.length_nil]
      omega
    · rcases snoc_cases ts with rfl | ⟨ts, ty, rfl⟩
      · simp at one
      have hS1 := hS
      rw [← put] at hS1
      clear hS
      rw [sizes_append] at few
      simp only [sizes, List.length_append, List.length_cons, List.length_nil, List.length_map] at few hlen
      by_cases hc : lf % 4 = 1 ∧ 1 < ((ts.map Tre.d ++ [ty.d]).length : Int)
      · obtain ⟨c1, c2⟩ := hc
        rcases snoc_cases ts with rfl | ⟨ts, tz, rfl⟩
        · simp at c2
        rw [sizes_append] at few
        simp only [sizes, List.length_append, List.length_cons, List.length_nil] at few hlen
        decreasing_trivial
        refine j_pop hS1 ?_
        have hS2 : up S p (.lst ((ts ++ [tz]).map Tre.d)) p = some (.lst (ts.map Tre.d ++ [tz.d])) := by rw [up_same, put]
        decreasing_trivial
        refine j_pop hS2 ?_
        rw [up_up]
        decreasing_trivial
        refine j_append up_same (by rw [List.length_map]; omega) ?_
        rw [up_up]
        decreasing_trivial
        refine ⟨_, ts ++ [.pair tz ty], _, _, _, _, _, rfl, by rw [up_same, ← put]; rfl, by simp, ?_⟩
        rw [sizes_append]
        simp only [sizes, Tre.size, List.length_append, List.length_cons, List.length_nil]
        omega
      · have fin : ∀ (x4 x5 x6 x7 x8 : Option D) (lf : Int) (u : Tre), u.size = ty.size + 1 → ∃ (lf' : Int) (ts' : List Tre) (y4 y5 y6 y7 y8 : Option D), [some (.int c), some (.int n), some (.ref p), some (.int lf), x4, x5, x6, x7, x8] = [some (.int c), some (.int n), some (.ref p), some (.int lf'), y4, y5, y6, y7, y8] ∧
            up S p (.lst (ts.map Tre.d ++ [u.d])) p = some (.lst (ts'.map Tre.d)) ∧ 1 ≤ ts'.length ∧ sizes ts' + ts'.length ≤ i + 1 + 1 := by
          intro x4 x5 x6 x7 x8 lf u hu
          refine ⟨_, ts ++ [u], _, _, _, _, _, rfl, by rw [up_same, put], by simp, ?_⟩
          rw [sizes_append]
          simp only [sizes, List.length_append, List.length_cons, List.length_nil]
          omega
        by_cases c1 : lf % 4 = 1
        case' pos =>
          have c2 : ¬ 1 < ((ts.map Tre.d ++ [ty.d]).length : Int) := fun z => hc ⟨c1, z⟩
          have c3 : ¬ lf % 4 = 2 := by omega
        case' neg => by_cases c3 : lf % 4 = 2
        all_goals
          decreasing_trivial
          refine j_pop hS1 ?_
          decreasing_trivial
          refine j_append up_same (by rw [List.length_map]; omega) ?_
          rw [up_up]
          decreasing_trivial
        all_goals first | exact fin _ _ _ _ _ _ (.pair .bud ty) (by simp [Tre.size]) | exact fin _ _ _ _ _ _ (.pair ty .bud) (by simp [Tre.size])
  · rintro σ S ⟨lf, ts, x4, x5, x6, x7, x8, rfl, hS, one, few⟩
    rw [nums_len] at few
    match ts, one with
    | t0 :: tr, _ =>
      simp only [sizes, List.length_cons] at few
      rw [List.map_cons] at hS
      decreasing_trivial
      intro p2 hp2
      have hS2 := up_get (o := .lst (E3.cutD (t0.d :: tr.map Tre.d) (some 1) none)) hS hp2
      have ecut : E3.cutD (t0.d :: tr.map Tre.d) (some 1) none = tr.map Tre.d := cutD_tail _ _
      rw [ecut] at hS2 ⊢
      have hS3 : up S p2 (.lst (tr.map Tre.d)) p2 = some (.lst (tr.map Tre.d)) := up_same
      generalize up S p2 (.lst (tr.map Tre.d)) = S2 at hS2 hS3 ⊢
      decreasing_trivial
      refine ⟨fun i σ S => S = S2 ∧ ∃ (t : Tre) (x8 : Option D), σ = [some (.int c), some (.int n), some (.ref p), some (.int lf), x4, x5, x6, some t.d, x8] ∧ t.size ≤ t0.size + sizes (tr.take i) + i, ⟨rfl, t0, x8, rfl, by simp [sizes]⟩, fun i σ S ⟨e, _⟩ => by rw [e]; exact hS3, ?_, ?_⟩
      · rintro i d σ S hd ⟨rfl, t, x8, rfl, hz⟩
        obtain ⟨ti, hti, rfl⟩ : ∃ ti, tr[i]? = some ti ∧ d = ti.d := by
          rw [List.getElem?_map] at hd
          cases c : tr[i]? with
          | none => rw [c] at hd; cases hd
          | some e => rw [c] at hd; cases hd; exact ⟨e, rfl, rfl⟩
        decreasing_trivial
        refine ⟨rfl, .pair t ti, _, rfl, ?_⟩
        rw [sizes_take _ _ hti]
        simp only [Tre.size]
        omega
      · rintro σ S ⟨rfl, t, x8, rfl, hz⟩
        rw [List.length_map, List.take_length] at hz
        decreasing_trivial
        exact hq t (by omega)

def sp_sized : Sp3 := vS fun ds q => ∃ (c n : Int), ds = [.int c, .int n] ∧ 0 ≤ n ∧ n ≤ 60 ∧ ∀ t : Tre, (t.size : Int) ≤ n → q t.d
theorem ok_sized {k : Nat} (h : Has K mg "_law_sized" s_sized ["cell", "many"]) (G : Gs K mg) (C_tree_by : Cal3 P w K mg base k "_law_tree_by" ["cell", "room"] sp_tree_by) (C_count : Cal3 P w K mg base k "_law_count" ["tree"] (sp_count 62)) : Cal3 P w K mg base (k + 1) "_law_sized" ["cell", "many"] sp_sized := by
  refine h.val sc_sized (fun ds q ⟨c, n, e, _⟩ => by rw [e]; rfl) fun f cdv A outer s0 H E ds q hr hA => ?_
  obtain ⟨c, n, rfl, h0, h1, hq⟩ := hA
  refine ⟨_, (s_cons (s_set (i := 2) sc_sized.nd rfl (Or.inl rfl) (e_call C_tree_by hr rfl (a_cons (e_op op_fdiv dn_intC (e_v 0) e_int) (a_cons (e_v 1) a_nil))))
 (s_cons (s_for PassesOwn.never rfl (i_range1 rfl G.range (a_cons (e_op op_sub dn_int (e_v 1) (e_call C_count hr rfl (a_cons (e_v 2) a_nil))) a_nil)) (g_name (i := 3) sc_sized.nd rfl (Or.inl rfl)) (s_one (s_if (t_cmp op_eq dn_eqI (e_op op_mod dn_intC (e_v 0) e_int) e_int (nomark _)) (s_one (s_set (i := 2) sc_sized.nd rfl (Or.inl rfl) (e_tup (a_cons (e_v 2) (a_cons e_non a_nil))))) (s_one (s_set (i := 2) sc_sized.nd rfl (Or.inl rfl) (e_tup (a_cons e_non (a_cons (e_v 2) a_nil))))))))
 (s_one (s_ret (e_v 2))))), ?_⟩
  decreasing_trivial
  refine ⟨_, n, rfl, h0, by omega, fun t hz => ?_⟩
  decreasing_trivial
  refine ⟨t, rfl, by have := t.deep_le; omega, ?_⟩
  decreasing_trivial
  refine ⟨fun i σ S => ∃ (t' : Tre) (x3 : Option D), σ = [some (.int c), some (.int n), some t'.d, x3] ∧ t'.size = t.size + i, ⟨t, none, rfl, rfl⟩, fun _ _ _ _ => trivial, ?_, ?_⟩
  · rintro i d σ S hd ⟨t', x3, rfl, hz'⟩
    decreasing_trivial
    by_cases e : c % 2 = 0
    · decreasing_trivial
      exact ⟨.pair t' .bud, _, rfl, by simp only [Tre.size]; omega⟩
    · decreasing_trivial
      exact ⟨.pair .bud t', _, rfl, by simp only [Tre.size]; omega⟩
  · rintro σ S ⟨t', x3, rfl, hz'⟩
    decreasing_trivial
    refine hq t' ?_
    rw [hz', nums_len]
    omega

/-! the law's own reader: rows within one another, the innermost in front; whether a tree is wanted -/
abbrev Rows := List (List Tre)
def shut : List Tre → Rows → Option (Rows × Bool)
  | [a, b], t2 :: r2 => some ((t2 ++ [.pair a b]) :: r2, false)
  | _, _ => none
def pstep (c : Nat) : Rows → Bool → Option (Rows × Bool)
  | [], _ => none
  | top :: rest, w => if w = true ∧ c = 91 then some ([] :: top :: rest, true) else if w = true ∧ c = 45 then some ((top ++ [.bud]) :: rest, false)
    else if w = false ∧ c = 32 ∧ rest ≠ [] ∧ top.length = 1 then some (top :: rest, true) else if w = false ∧ c = 93 ∧ rest ≠ [] ∧ top.length = 2 then
      shut top rest else none
def prun : List Nat → Rows → Bool → Option (Rows × Bool)
  | [], st, w => some (st, w)
  | c :: cs, st, w => match pstep c st w with
    | some (st', w') => prun cs st' w'
    | none => none
/-- what was read by then -/
def outT : Rows → List Nat
  | [] => []
  | [_] => []
  | r :: rs => outT rs ++ 91 :: (match r with | [] => [] | t :: _ => t.codes ++ [32])
def topT : List Tre → Bool → List Nat
  | [], _ => []
  | [a], false => a.codes
  | [a], true => a.codes ++ [32]
  | a :: b :: _, _ => a.codes ++ 32 :: b.codes
def readT : Rows → Bool → List Nat
  | [], _ => []
  | [top], w => topT top w
  | top :: rest, w => outT rest ++ 91 :: topT top w
def okOut : Rows → Prop
  | [] => True
  | [b] => b = []
  | r :: rs => (r = [] ∨ ∃ t, r = [t]) ∧ okOut rs
def okAll : Rows → Bool → Prop
  | [], _ => False
  | [top], w => (w = true ∧ top = []) ∨ (w = false ∧ ∃ t, top = [t])
  | top :: rest, w => okOut rest ∧ ((w = true ∧ (top = [] ∨ ∃ t, top = [t])) ∨ (w = false ∧ ((∃ t, top = [t]) ∨ ∃ a b, top = [a, b])))
theorem pstep_ok {c : Nat} {st st' : Rows} {w w' : Bool} (h : pstep c st w = some (st', w')) (ok : okAll st w) : okAll st' w' ∧ readT st' w' = readT st w ++ [c] := by
  match st, ok with
  | top :: rest, ok =>
    rw [pstep] at h
    split at h
    · rename_i hc
      obtain ⟨rfl, rfl⟩ := hc
      cases h
      cases rest with
      | nil =>
        simp only [okAll] at ok
        rcases ok with ⟨_, rfl⟩ | ⟨z, _⟩
        · exact ⟨⟨rfl, .inl ⟨rfl, .inl rfl⟩⟩, by simp [readT, outT, topT]⟩
        · cases z
      | cons r rs =>
        simp only [okAll] at ok
        obtain ⟨ho, ⟨_, ht⟩ | ⟨z, _⟩⟩ := ok
        · refine ⟨⟨⟨ht, ho⟩, .inl ⟨rfl, .inl rfl⟩⟩, ?_⟩
          rcases ht with rfl | ⟨t, rfl⟩ <;> simp [readT, outT, topT]
        · cases z
    split at h
    · rename_i hc
      obtain ⟨rfl, rfl⟩ := hc
      cases h
      cases rest with
      | nil =>
        simp only [okAll] at ok
        rcases ok with ⟨_, rfl⟩ | ⟨z, _⟩
        · exact ⟨.inr ⟨rfl, .bud, rfl⟩, by simp [readT, topT, Tre.codes]⟩
        · cases z
      | cons r rs =>
        simp only [okAll] at ok
        obtain ⟨ho, ⟨_, ht⟩ | ⟨z, _⟩⟩ := ok
        · rcases ht with rfl | ⟨t, rfl⟩
          · exact ⟨⟨ho, .inr ⟨rfl, .inl ⟨_, rfl⟩⟩⟩, by simp [readT, topT, Tre.codes]⟩
          · exact ⟨⟨ho, .inr ⟨rfl, .inr ⟨_, _, rfl⟩⟩⟩, by simp [readT, topT, Tre.codes]⟩
        · cases z
    split at h
    · rename_i hc
      obtain ⟨rfl, rfl, hr, hl⟩ := hc
      cases h
      cases rest with
      | nil => exact absurd rfl hr
      | cons r rs =>
        simp only [okAll] at ok
        obtain ⟨ho, ⟨z, _⟩ | ⟨_, ht⟩⟩ := ok
        · cases z
        · rcases ht with ⟨t, rfl⟩ | ⟨a, b, rfl⟩
          · exact ⟨⟨ho, .inl ⟨rfl, .inr ⟨_, rfl⟩⟩⟩, by simp [readT, topT]⟩
          · simp at hl
    split at h
    · rename_i hc
      obtain ⟨rfl, rfl, hr, hl⟩ := hc
      cases rest with
      | nil => exact absurd rfl hr
      | cons t2 r2 =>
        simp only [okAll] at ok
        obtain ⟨ho, ⟨z, _⟩ | ⟨_, ht⟩⟩ := ok
        · cases z
        · rcases ht with ⟨t, rfl⟩ | ⟨a, b, rfl⟩
          · simp at hl
          · cases h
            cases r2 with
            | nil =>
              simp only [okOut] at ho
              subst ho
              exact ⟨.inr ⟨rfl, _, rfl⟩, by simp [readT, outT, topT, Tre.codes]⟩
            | cons r3 r4 =>
              simp only [okOut] at ho
              obtain ⟨h2, ho⟩ := ho
              rcases h2 with rfl | ⟨t, rfl⟩
              · exact ⟨⟨ho, .inr ⟨rfl, .inl ⟨_, rfl⟩⟩⟩, by simp [readT, outT, topT, Tre.codes]⟩
              · exact ⟨⟨ho, .inr ⟨rfl, .inr ⟨_, _, rfl⟩⟩⟩, by simp [readT, outT, topT, Tre.codes]⟩
    · cases h
theorem prun_ok : ∀ {cs : List Nat} {st st' : Rows} {w w' : Bool}, prun cs st w = some (st', w') → okAll st w → okAll st' w' ∧ readT st' w' = readT st w ++ cs
  | [], _, _, _, _, h, ok => by cases h; exact ⟨ok, by simp⟩
  | c :: cs, st, st', w, w', h, ok => by
    rw [prun] at h
    split at h
    · rename_i s1 w1 e
      obtain ⟨ok1, e1⟩ := pstep_ok e ok
      obtain ⟨ok2, e2⟩ := prun_ok h ok1
      exact ⟨ok2, by rw [e2, e1]; simp⟩
    · cases h
theorem prun_tree : ∀ (t : Tre) (cs : List Nat) (top : List Tre) (rest : Rows), prun (t.codes ++ cs) (top :: rest) true = prun cs ((top ++ [t]) :: rest) false
  | .bud, cs, top, rest => by simp [Tre.codes, prun, pstep]
  | .pair l r, cs, top, rest => by
    simp only [Tre.codes, List.cons_append, List.append_assoc, List.nil_append]
    rw [prun, show pstep 91 (top :: rest) true = some ([] :: top :: rest, true) by simp [pstep]]
    simp only
    rw [prun_tree l, prun, show pstep 32 (([] ++ [l]) :: top :: rest) false = some ([l] :: top :: rest, true) by simp [pstep]]
    simp only
    rw [prun_tree r, prun, show pstep 93 (([l] ++ [r]) :: top :: rest) false = some ((top ++ [.pair l r]) :: rest, false) by simp [pstep, shut]]
/-- what it answers -/
def parseT (cs : List Nat) : List Tre := match prun cs [[]] true with
  | some ([[t]], false) => if t.size ≤ 60 then [t] else []
  | _ => []
theorem parseT_tree {t : Tre} (h : t.size ≤ 60) : parseT t.codes = [t] := by
  have := prun_tree t [] [] []
  rw [List.append_nil] at this
  unfold parseT
  rw [this]
  simp [prun, h]
theorem parseT_some {cs : List Nat} {t : Tre} {r : List Tre} (h : parseT cs = t :: r) : r = [] ∧ t.codes = cs ∧ t.size ≤ 60 := by
  unfold parseT at h
  split at h
  · rename_i u e
    split at h
    · rename_i hz
      cases h
      obtain ⟨_, e2⟩ := prun_ok e (.inl ⟨rfl, rfl⟩)
      exact ⟨rfl, by simpa [readT, topT] using e2, hz⟩
    · cases h
  · cases h
/-- the rows as lists, the innermost in front -/
structure Pk (sp : Addr) (S : Hp3) (L : List (Addr × List Tre)) : Prop where
  st : S sp = some (.lst (L.reverse.map fun x => .ref x.1))
  rows : ∀ x ∈ L, S x.1 = some (.lst (x.2.map Tre.d))
  nd : (L.map (·.1)).Nodup
  ne : ∀ x ∈ L, x.1 ≠ sp
theorem Pk.push {sp p : Addr} {S : Hp3} {L : List (Addr × List Tre)} (h : Pk sp S L) (hp : S p = none) : Pk sp (up (up S p (.lst [])) sp (.lst ((L.reverse.map fun x => .ref x.1) ++ [.ref p]))) ((p, []) :: L) := by
  have hps : p ≠ sp := fun e => by rw [e, h.st] at hp; cases hp
  refine ⟨by rw [up_same]; simp, fun x hx => ?_, ?_, fun x hx => ?_⟩
  · rcases List.mem_cons.mp hx with rfl | hx
    · rw [up_ne hps, up_same]
      rfl
    · rw [up_ne (h.ne x hx)]
      exact up_get (h.rows x hx) hp
  · rw [List.map_cons, List.nodup_cons]
    refine ⟨fun z => ?_, h.nd⟩
    obtain ⟨x, hx, e⟩ := List.mem_map.mp z
    have := h.rows x hx
    rw [show x.1 = p from e, hp] at this
    cases this
  · rcases List.mem_cons.mp hx with rfl | hx
    · exact hps
    · exact h.ne x hx
theorem Pk.app {sp a : Addr} {S : Hp3} {r : List Tre} {L : List (Addr × List Tre)} (h : Pk sp S ((a, r) :: L)) (t : Tre) : Pk sp (up S a (.lst (r.map Tre.d ++ [t.d]))) ((a, r ++ [t]) :: L) := by
  have ha := h.ne _ (.head _)
  have nd := h.nd
  rw [List.map_cons, List.nodup_cons] at nd
  refine ⟨by rw [up_ne (Ne.symm ha), h.st]; simp, fun x hx => ?_, by rw [List.map_cons, List.nodup_cons]; exact nd, fun x hx => ?_⟩
  · rcases List.mem_cons.mp hx with rfl | hx
    · rw [up_same]; simp
    · rw [up_ne fun e => nd.1 (List.mem_map.mpr ⟨x, hx, e⟩)]
      exact h.rows x (.tail _ hx)
  · rcases List.mem_cons.mp hx with rfl | hx
    · exact ha
    · exact h.ne x (.tail _ hx)
theorem Pk.pop {sp : Addr} {S : Hp3} {x : Addr × List Tre} {L : List (Addr × List Tre)} (h : Pk sp S (x :: L)) : Pk sp (up S sp (.lst (L.reverse.map fun x => .ref x.1))) L := by
  have nd := h.nd
  rw [List.map_cons, List.nodup_cons] at nd
  exact ⟨up_same, fun y hy => by rw [up_ne (h.ne y (.tail _ hy))]; exact h.rows y (.tail _ hy), nd.2, fun y hy => h.ne y (.tail _ hy)⟩
def sp_parsed : Sp3 := lSt fun ds q => ∃ cs : List Nat, ds = [.str (textOf cs)] ∧ cs.length ≤ 300 ∧ q ((parseT cs).map Tre.d)
theorem ps_blank {top : List Tre} {rest : Rows} (hr : rest ≠ []) (hl : top.length = 1) : pstep 32 (top :: rest) false = some (top :: rest, true) := by simp [pstep, hr, hl]
theorem ps_shut {a b : Tre} {t2 : List Tre} {r2 : Rows} : pstep 93 ([a, b] :: t2 :: r2) false = some ((t2 ++ [.pair a b]) :: r2, false) := by simp [pstep, shut]
theorem top_len {top : List Tre} {rest : Rows} {b : Bool} (h : okAll (top :: rest) b) : top.length ≤ 2 := by
  cases rest with
  | nil => rcases h with ⟨_, rfl⟩ | ⟨_, t, rfl⟩ <;> simp
  | cons r rs => rcases h with ⟨_, ⟨_, rfl | ⟨t, rfl⟩⟩ | ⟨_, ⟨t, rfl⟩ | ⟨x, y, rfl⟩⟩⟩ <;> simp
theorem parseT_none {cs : List Nat} (h : prun cs [[]] true = none) : parseT cs = [] := by
  unfold parseT
  rw [h]
theorem ok_parsed {k : Nat} (h : Has K mg "_law_parsed" s_parsed ["text"]) (G : Gs K mg) (C_count : Cal3 P w K mg base k "_law_count" ["tree"] (sp_count 80)) : Cal3 P w K mg base (k + 1) "_law_parsed" ["text"] sp_parsed := by
  refine h.lst sc_parsed (fun ds q ⟨cs, e, _⟩ => by rw [e]; rfl) fun f cdv A outer s0 H E ds q hr hA => ?_
  obtain ⟨cs, rfl, hl, hq⟩ := hA
  refine ⟨_, (s_cons (s_set (i := 1) sc_parsed.nd rfl (Or.inl rfl) (e_lst (a_cons (e_lst a_nil) a_nil)))
 (s_cons (s_set (i := 2) sc_parsed.nd rfl (Or.inl rfl) e_bl)
 (s_cons (s_for PassesOwn.never rfl (i_str (e_v 0)) (g_name (i := 3) sc_parsed.nd rfl (Or.inl rfl)) (s_one (s_if (PW3.pt (w_and (t_val (e_v 2)) (w_and1 (t_cmp op_eq dn_eqS (e_v 3) e_str (nomark _))))) (s_one (s_expr (e_bm PySem.F.plainAttrs_list PySem.F.slot_list_append PySem.F.type_list_append mt_append dn_append (e_v 1) (a_cons (e_lst a_nil) a_nil)))) (s_one (s_if (PW3.pt (w_and (t_val (e_v 2)) (w_and1 (t_cmp op_eq dn_eqS (e_v 3) e_str (nomark _))))) (s_cons (s_expr (e_bm PySem.F.plainAttrs_list PySem.F.slot_list_append PySem.F.type_list_append mt_append dn_append (e_ix ix_list dn_ixL (e_v 1) (e_neg e_int) (fun _ _ => rfl)) (a_cons e_non a_nil)))
 (s_one (s_set (i := 2) sc_parsed.nd rfl (Or.inl rfl) e_bl))) (s_one (s_if (PW3.pt (w_and (t_not (t_val (e_v 2))) (w_and (t_cmp op_eq dn_eqS (e_v 3) e_str (nomark _)) (w_and (t_cmp op_gt dn_intB (e_callB call_len_seq dn_len rfl G.len PySem.boot_len (a_cons (e_v 1) a_nil)) e_int (nomark _)) (w_and1 (t_cmp op_eq dn_eqI (e_callB call_len_seq dn_len rfl G.len PySem.boot_len (a_cons (e_ix ix_list dn_ixL (e_v 1) (e_neg e_int) (fun _ _ => rfl)) a_nil)) e_int (nomark _))))))) (s_one (s_set (i := 2) sc_parsed.nd rfl (Or.inl rfl) e_bl)) (s_one (s_if (PW3.pt (w_and (t_not (t_val (e_v 2))) (w_and (t_cmp op_eq dn_eqS (e_v 3) e_str (nomark _)) (w_and (t_cmp op_gt dn_intB (e_callB call_len_seq dn_len rfl G.len PySem.boot_len (a_cons (e_v 1) a_nil)) e_int (nomark _)) (w_and1 (t_cmp op_eq dn_eqI (e_callB call_len_seq dn_len rfl G.len PySem.boot_len (a_cons (e_ix ix_list dn_ixL (e_v 1) (e_neg e_int) (fun _ _ => rfl)) a_nil)) e_int (nomark _))))))) (s_cons (s_set (i := 4) sc_parsed.nd rfl (Or.inl rfl) (e_bm0 PySem.F.plainAttrs_list PySem.F.slot_list_pop PySem.F.type_list_pop mt_popS dn_pop (e_v 1)))
 (s_one (s_expr (e_bm PySem.F.plainAttrs_list PySem.F.slot_list_append PySem.F.type_list_append mt_append dn_append (e_ix ix_list dn_ixL (e_v 1) (e_neg e_int) (fun _ _ => rfl)) (a_cons (e_tup (a_cons (e_ix ix_list dn_ixL (e_v 4) e_int (fun _ _ => rfl)) (a_cons (e_ix ix_list dn_ixL (e_v 4) e_int (fun _ _ => rfl)) a_nil))) a_nil))))) (s_one (s_ret (e_lst a_nil))))))))))))
 (s_cons (s_if (PW3.pt (w_or (t_cmp op_gt dn_intB (e_callB call_len_seq dn_len rfl G.len PySem.boot_len (a_cons (e_v 1) a_nil)) e_int (nomark _)) (w_or (t_val (e_v 2)) (w_or1 (t_cmp op_gt dn_intB (e_call C_count hr rfl (a_cons (e_ix ix_list dn_ixL (e_ix ix_list dn_ixL (e_v 1) e_int (fun _ _ => rfl)) e_int (fun _ _ => rfl)) a_nil)) e_int (nomark _)))))) (s_one (s_ret (e_lst a_nil))) s_nil)
 (s_one (s_ret (e_ix ix_list dn_ixL (e_v 1) e_int (fun _ _ => rfl)))))))), ?_⟩
  decreasing_trivial
  intro p0 hp0
  decreasing_trivial
  intro sp hsp
  have h0 : p0 ≠ sp := ne3 up_same hsp
  decreasing_trivial
  refine ⟨fun i σ S => ∃ (L : List (Addr × List Tre)) (b : Bool) (x3 x4 : Option D), σ = [some (.str (textOf cs)), some (.ref sp), some (.bl b), x3, x4] ∧ Pk sp S L ∧ prun (cs.drop i) (L.map (·.2)) b = prun cs [[]] true ∧ okAll (L.map (·.2)) b ∧ L.length ≤ i + 1 ∧ i ≤ cs.length,
    ⟨[(p0, [])], true, none, none, rfl, ⟨up_same, fun x hx => ?_, by simp, fun x hx => ?_⟩, rfl, .inl ⟨rfl, rfl⟩, Nat.le_refl _, Nat.zero_le _⟩, fun _ _ _ _ => trivial, ?_, ?_⟩
  · obtain rfl : x = (p0, []) := by simpa using hx
    rw [up_ne h0, up_same]
    rfl
  · obtain rfl : x = (p0, []) := by simpa using hx
    exact h0
  · rintro i d σ S hd ⟨L, b, x3, x4, rfl, pk, hpl, hok, hL, hic⟩
    obtain ⟨c, hc, rfl⟩ := sign_at hd
    have hil : i < cs.length := (List.getElem?_eq_some_iff.mp hc).1
    rw [drop_at hc] at hpl
    match L, hok with
    | (a, top) :: L', hok =>
      rw [List.map_cons, prun] at hpl
      have hst : S sp = some (.lst ((L'.reverse.map fun x => D.ref x.1) ++ [.ref a])) := by
        have := pk.st
        rw [List.reverse_cons, List.map_append] at this
        exact this
      have hrow : S a = some (.lst (top.map Tre.d)) := pk.rows _ (.head _)
      have e91 : ((⟨#[c]⟩ : Str) = "[") ↔ c = 91 := by rw [s_open]; exact sign_eq c 91
      have e45 : ((⟨#[c]⟩ : Str) = "-") ↔ c = 45 := by rw [s_bud]; exact sign_eq c 45
      have e32 : ((⟨#[c]⟩ : Str) = " ") ↔ c = 32 := by rw [s_blank]; exact sign_eq c 32
      have e93 : ((⟨#[c]⟩ : Str) = "]") ↔ c = 93 := by rw [s_shut]; exact sign_eq c 93
      have hb : (L'.reverse.map fun x => D.ref x.1).length = L'.length := by rw [List.length_map, List.length_reverse]
      simp only [List.length_cons] at hL
      have hsz : ((L'.reverse.map fun x => D.ref x.1) ++ [D.ref a]).length < sizeLine := by
        rw [List.length_append, hb]
        exact Nat.lt_of_le_of_lt (by simp; omega : _ ≤ 5000) (by decide)
      have htop : top.length ≤ 2 := top_len hok
      have fail : pstep c (top :: L'.map (·.2)) b = none → ∀ p5 (S5 : Hp3), ∃ p ys, D.ref p5 = .ref p ∧ up S5 p5 (.lst []) p = some (.lst ys) ∧ q ys := fun e p5 S5 => by
        rw [e] at hpl
        refine ⟨p5, [], rfl, up_same, ?_⟩
        rw [parseT_none hpl.symm] at hq
        exact hq
      cases b with
      | true =>
        by_cases c1 : (⟨#[c]⟩ : Str) = "["
        · decreasing_trivial
          intro p5 hp5
          have hst5 := up_get (o := .lst []) hst hp5
          decreasing_trivial
          refine j_append hst5 hsz ?_
          decreasing_trivial
          have ec := e91.mp c1
          subst ec
          rw [show pstep 91 (top :: L'.map (·.2)) true = some ([] :: top :: L'.map (·.2), true) by simp [pstep]] at hpl
          have pk5 := pk.push hp5
          rw [List.reverse_cons, List.map_append] at pk5
          refine ⟨(p5, []) :: (a, top) :: L', true, _, _, rfl, pk5, hpl, ?_, by simp only [List.length_cons]; omega, hil⟩
          exact (pstep_ok (c := 91) (by simp [pstep]) hok).1
        · have n1 : c ≠ 91 := fun z => c1 (e91.mpr z)
          by_cases c2 : (⟨#[c]⟩ : Str) = "-"
          · decreasing_trivial
            refine j_ixL hst (atI_last _ _) ?_
            decreasing_trivial
            refine j_append hrow (Nat.lt_of_le_of_lt (by rw [List.length_map]; exact htop : _ ≤ 2) (by decide)) ?_
            decreasing_trivial
            have ec := e45.mp c2
            subst ec
            rw [show pstep 45 (top :: L'.map (·.2)) true = some ((top ++ [.bud]) :: L'.map (·.2), false) by simp [pstep]] at hpl
            exact ⟨(a, top ++ [Tre.bud]) :: L', false, _, _, rfl, pk.app .bud, hpl, (pstep_ok (c := 45) (by simp [pstep]) hok).1, by simp only [List.length_cons]; omega, hil⟩
          · have n2 : c ≠ 45 := fun z => c2 (e45.mpr z)
            decreasing_trivial
            exact fun p5 hp5 => fail (by simp [pstep, n1, n2]) p5 S
      | false =>
        have hlen : (((L'.reverse.map fun x => D.ref x.1) ++ [D.ref a]).length : Int) = L'.length + 1 := by rw [List.length_append, hb]; simp
        have hln : ((top.map Tre.d).length : Int) = top.length := by rw [List.length_map]
        by_cases c3 : (⟨#[c]⟩ : Str) = " "
        · have ec := e32.mp c3
          subst ec
          have c4 : ¬ (⟨#[32]⟩ : Str) = "]" := fun z => absurd (e93.mp z) (by decide)
          by_cases l1 : 1 < (((L'.reverse.map fun x => D.ref x.1) ++ [D.ref a]).length : Int)
          · have hne : L'.map (·.2) ≠ [] := fun z => by
              have : L'.length = 0 := by simpa using congrArg List.length z
              omega
            by_cases l2 : ((top.map Tre.d).length : Int) = 1
            · have lt : top.length = 1 := by omega
              decreasing_trivial
              refine j_ixL hst (atI_last _ _) ?_
              decreasing_trivial
              rw [ps_blank hne lt] at hpl
              exact ⟨(a, top) :: L', true, _, _, rfl, pk, hpl, (pstep_ok (ps_blank hne lt) hok).1, by simp only [List.length_cons]; omega, hil⟩
            · have lt : ¬ top.length = 1 := by omega
              decreasing_trivial
              refine j_ixL hst (atI_last _ _) ?_
              decreasing_trivial
              exact fun p5 hp5 => fail (by simp [pstep, lt]) p5 S
          · have hne : L' = [] := List.eq_nil_of_length_eq_zero (by omega)
            decreasing_trivial
            exact fun p5 hp5 => fail (by subst hne; simp [pstep]) p5 S
        · have n3 : c ≠ 32 := fun z => c3 (e32.mpr z)
          by_cases c4 : (⟨#[c]⟩ : Str) = "]"
          · have ec := e93.mp c4
            subst ec
            by_cases l1 : 1 < (((L'.reverse.map fun x => D.ref x.1) ++ [D.ref a]).length : Int)
            · by_cases l2 : ((top.map Tre.d).length : Int) = 2
              · have lt : top.length = 2 := by omega
                obtain ⟨t1, t2, rfl⟩ : ∃ t1 t2, top = [t1, t2] := by
                  match top, lt with
                  | [x, y], _ => exact ⟨x, y, rfl⟩
                obtain ⟨⟨a2, r2⟩, L2, rfl⟩ : ∃ x L2, L' = x :: L2 := List.exists_cons_of_length_pos (by omega)
                decreasing_trivial
                refine j_ixL hst (atI_last _ _) ?_
                decreasing_trivial
                refine j_pop hst ?_
                have pk1 := pk.pop
                have hr1 : up S sp (.lst ((((a2, r2) :: L2).reverse.map fun x => D.ref x.1))) a = some (.lst ([t1, t2].map Tre.d)) := by rw [up_ne (pk.ne _ (.head _))]; exact hrow
                generalize up S sp (.lst ((((a2, r2) :: L2).reverse.map fun x => D.ref x.1))) = S1 at pk1 hr1 ⊢
                have hst1 : S1 sp = some (.lst ((L2.reverse.map fun x => D.ref x.1) ++ [.ref a2])) := by
                  have := pk1.st
                  rw [List.reverse_cons, List.map_append] at this
                  exact this
                have hrow2 : S1 a2 = some (.lst (r2.map Tre.d)) := pk1.rows _ (.head _)
                have hr1 : S1 a = some (.lst [t1.d, t2.d]) := hr1
                decreasing_trivial
                refine j_ixL hst1 (atI_last _ _) ?_
                decreasing_trivial
                have ok2 := (pstep_ok (ps_shut (a := t1) (b := t2) (t2 := r2) (r2 := L2.map fun x : Addr × List Tre => x.2)) hok).1
                have l3 := top_len ok2
                rw [List.length_append] at l3
                refine j_append hrow2 (Nat.lt_of_le_of_lt (by rw [List.length_map]; omega : _ ≤ 2) (by decide)) ?_
                decreasing_trivial
                rw [List.map_cons, ps_shut] at hpl
                exact ⟨(a2, r2 ++ [Tre.pair t1 t2]) :: L2, false, _, _, rfl, pk1.app (.pair t1 t2), hpl, ok2, by simp only [List.length_cons] at hL ⊢; omega, hil⟩
              · have lt : ¬ top.length = 2 := by omega
                decreasing_trivial
                refine j_ixL hst (atI_last _ _) ?_
                decreasing_trivial
                exact fun p5 hp5 => fail (by simp [pstep, lt]) p5 S
            · have hne : L' = [] := List.eq_nil_of_length_eq_zero (by omega)
              decreasing_trivial
              exact fun p5 hp5 => fail (by subst hne; simp [pstep]) p5 S
          · have n4 : c ≠ 93 := fun z => c4 (e93.mpr z)
            decreasing_trivial
            exact fun p5 hp5 => fail (by simp [pstep, n3, n4]) p5 S
  · rintro σ S ⟨L, b, x3, x4, rfl, pk, hpl, hok, hL, hic⟩
    have e : cs.drop (E3.signs (textOf cs)).length = [] := List.drop_eq_nil_of_le (by rw [signs_len]; exact Nat.le_refl _)
    rw [e, prun] at hpl
    match L, hok with
    | (a, top) :: L', hok =>
      have hst : S sp = some (.lst ((L'.reverse.map fun x => D.ref x.1) ++ [.ref a])) := by
        have := pk.st
        rw [List.reverse_cons, List.map_append] at this
        exact this
      have hrow : S a = some (.lst (top.map Tre.d)) := pk.rows _ (.head _)
      have hlen : (((L'.reverse.map fun x => D.ref x.1) ++ [D.ref a]).length : Int) = L'.length + 1 := by rw [List.length_append, List.length_map, List.length_reverse]; simp
      have fail : (∀ t, (((a, top) :: L').map (·.2), b) = ([[t]], false) → ¬ t.size ≤ 60) → ∀ p5 (S5 : Hp3), ∃ p ys, D.ref p5 = .ref p ∧ up S5 p5 (.lst []) p = some (.lst ys) ∧ q ys := fun e p5 S5 => by
        refine ⟨p5, [], rfl, up_same, ?_⟩
        have : parseT cs = [] := by
          unfold parseT
          rw [← hpl]
          split
          · rename_i t z
            rw [if_neg (e t (Option.some.inj z))]
          · rfl
        rw [this] at hq
        exact hq
      by_cases l1 : 1 < (((L'.reverse.map fun x => D.ref x.1) ++ [D.ref a]).length : Int)
      · decreasing_trivial
        refine fun p5 hp5 => fail (fun t z => ?_) p5 S
        have := congrArg List.length (Prod.mk.inj z).1
        simp at this
        subst this
        simp at l1
      · have hne : L' = [] := List.eq_nil_of_length_eq_zero (by omega)
        subst hne
        have hst : S sp = some (.lst [.ref a]) := hst
        cases b with
        | true =>
          decreasing_trivial
          exact fun p5 hp5 => fail (fun t z => by cases (Prod.mk.inj z).2) p5 S
        | false =>
          obtain ⟨t, rfl⟩ : ∃ t, top = [t] := by
            rcases hok with ⟨z, _⟩ | ⟨_, z⟩
            · cases z
            · exact z
          have ecs := (prun_ok hpl.symm (.inl ⟨rfl, rfl⟩)).2
          have ecs : t.codes = cs := by simpa [readT, topT] using ecs
          have hz := t.codes_len
          rw [ecs] at hz
          have hd := t.deep_le
          have hrow : S a = some (.lst [t.d]) := hrow
          decreasing_trivial
          refine ⟨t, rfl, by omega, ?_⟩
          decreasing_trivial
          by_cases c60 : (60 : Int) < (t.size : Int)
          · refine iteD c60 ?_
            decreasing_trivial
            refine fun p5 hp5 => fail (fun u z => ?_) p5 S
            have : [[t]] = [[u]] := (Prod.mk.inj z).1
            cases this
            omega
          · refine iteDN c60 ?_
            decreasing_trivial
            refine ⟨a, [t.d], rfl, hrow, ?_⟩
            rw [← ecs, parseT_tree (by omega)] at hq
            exact hq

theorem dn_tre {S : Hp3} : ∀ t : Tre, Dn S t.d t.dt
  | .bud => .non
  | .pair l r => .tup (.cons (dn_tre l) (.cons (dn_tre r) .nil))
theorem ok_law {f : Addr} {fd : FuncData} (F : Fun K "law" "law" s_law f fd) (G : Gs K mg) (R : Rfs K mg ES adr) (C_cell_at : Cal3 P w K mg base 89 "_law_cell_at" ["script", "k"] sp_cell_at) (C_tree_by : Cal3 P w K mg base 89 "_law_tree_by" ["cell", "room"] sp_tree_by) (C_row : Cal3 P w K mg base 89 "_law_row" ["many", "left"] sp_row)
    (C_sized : Cal3 P w K mg base 89 "_law_sized" ["cell", "many"] sp_sized) (C_written : Cal3 P w K mg base 89 "_law_written" ["tree"] (sp_written 80)) (C_changed : Cal3 P w K mg base 89 "_law_changed" ["text", "way", "place", "sign"] sp_changed) (C_parsed : Cal3 P w K mg base 89 "_law_parsed" ["text"] sp_parsed)
    (C_refused : Cal3 P w K mg base 89 "_law_refused" ["text"] sp_refused) (C_read_tree : Cal3 P w K mg base 89 "read_tree" ["text"] (sp_read_tree adr)) (C_is_tree : Cal3 P w K mg base 89 "_law_is_tree" ["found", "room"] sp_is_tree) : FnOk P w K mg base (CX1 P w) 90 f fd ["script"] (lSp K lawS) := by
  refine law_fn F sc_law fun cdv A outer s0 H E ns hr h63 => ?_
  refine ⟨_, (s_cons (s_set (i := 1) sc_law.nd rfl (Or.inl rfl) (e_call C_tree_by hr rfl (a_cons (e_call C_cell_at hr rfl (a_cons (e_v 0) (a_cons e_int a_nil))) (a_cons (e_op op_mod dn_intC (e_call C_cell_at hr rfl (a_cons (e_v 0) (a_cons e_int a_nil))) e_int) a_nil))))
 (s_cons (s_if (t_cmp op_eq dn_eqI (e_op op_mod dn_intC (e_call C_cell_at hr rfl (a_cons (e_v 0) (a_cons e_int a_nil))) e_int) e_int (nomark _)) (s_one (s_set (i := 1) sc_law.nd rfl (Or.inl rfl) (e_call C_row hr rfl (a_cons (e_op op_add dn_int e_int (e_op op_mod dn_intC (e_call C_cell_at hr rfl (a_cons (e_v 0) (a_cons e_int a_nil))) e_int)) (a_cons (e_cmp op_eq dn_eqI (e_op op_mod dn_intC (e_call C_cell_at hr rfl (a_cons (e_v 0) (a_cons e_int a_nil))) e_int) e_int (nomark _)) a_nil))))) s_nil)
 (s_cons (s_if (t_cmp op_eq dn_eqI (e_op op_mod dn_intC (e_call C_cell_at hr rfl (a_cons (e_v 0) (a_cons e_int a_nil))) e_int) e_int (nomark _)) (s_cons (s_set (i := 2) sc_law.nd rfl (Or.inl rfl) (e_call C_cell_at hr rfl (a_cons (e_v 0) (a_cons e_int a_nil))))
 (s_cons (s_set (i := 3) sc_law.nd rfl (Or.inl rfl) (e_call C_sized hr rfl (a_cons (e_call C_cell_at hr rfl (a_cons (e_v 0) (a_cons e_int a_nil))) (a_cons (e_op op_add dn_int e_int (e_op op_mod dn_intC (e_v 2) e_int)) a_nil))))
 (s_one (s_set (i := 1) sc_law.nd rfl (Or.inl rfl) (e_tup (a_cons (e_v 3) (a_cons (e_call C_sized hr rfl (a_cons (e_op op_fdiv dn_intC (e_call C_cell_at hr rfl (a_cons (e_v 0) (a_cons e_int a_nil))) e_int) (a_cons (e_op op_add dn_int e_int (e_op op_mod dn_intC (e_op op_fdiv dn_intC (e_v 2) e_int) e_int)) a_nil))) a_nil))))))) s_nil)
 (s_cons (s_set (i := 4) sc_law.nd rfl (Or.inl rfl) (e_call C_written hr rfl (a_cons (e_v 1) a_nil)))
 (s_cons (s_if (t_cmp op_gt dn_intB (e_op op_mod dn_intC (e_call C_cell_at hr rfl (a_cons (e_v 0) (a_cons e_int a_nil))) e_int) e_int (nomark _)) (s_one (s_set (i := 4) sc_law.nd rfl (Or.inl rfl) (e_call C_changed hr rfl (a_cons (e_v 4) (a_cons (e_op op_mod dn_intC (e_call C_cell_at hr rfl (a_cons (e_v 0) (a_cons e_int a_nil))) e_int) (a_cons (e_call C_cell_at hr rfl (a_cons (e_v 0) (a_cons e_int a_nil))) (a_cons (e_call C_cell_at hr rfl (a_cons (e_v 0) (a_cons e_int a_nil))) a_nil))))))) s_nil)
 (s_cons (s_set (i := 5) sc_law.nd rfl (Or.inl rfl) (e_call C_parsed hr rfl (a_cons (e_v 4) a_nil)))
 (s_cons (s_if (t_cmp (op_eq_deep (hu_deep hr)) dn_eqD (e_v 5) (e_lst a_nil) (nomark _)) (s_one (s_ret (e_and (e_call C_refused hr rfl (a_cons (e_v 4) a_nil)) (e_one (e_call C_refused hr rfl (a_cons (e_v 4) a_nil)))))) s_nil)
 (s_cons (s_set (i := 6) sc_law.nd rfl (Or.inl rfl) (e_call C_read_tree hr rfl (a_cons (e_v 4) a_nil)))
 (s_one (s_ret (e_and (e_call C_is_tree hr rfl (a_cons (e_v 6) (a_cons e_int a_nil))) (e_one (e_cmp (op_eq_deep (hu_deep hr)) dn_eqD (e_v 6) (e_ix ix_list dn_ixL (e_v 5) e_int (fun _ _ => rfl)) (nomark _)))))))))))))), ?_⟩
  decreasing_trivial
  refine ⟨ns, 0, rfl, by decide, ?_⟩
  decreasing_trivial
  refine ⟨ns, 1, rfl, by decide, ?_⟩
  decreasing_trivial
  refine ⟨_, _, rfl, Int.emod_nonneg _ (by decide), Int.le_trans (Int.le_of_lt (Int.emod_lt_of_pos _ (by decide))) (by decide), fun t0 hz0 => ?_⟩
  have hz1 := Int.emod_lt_of_pos (cellAt ns 1) (show (0 : Int) < 41 by decide)
  have cell : ∀ {k : Int} {S : Hp3} {Q : K3} {W : X3}, 0 ≤ k → Q (.int (cellAt ns k)) S → sp_cell_at [.rol (ns.map D.int), .int k] S Q W := fun h0 q => ⟨ns, _, rfl, h0, q⟩
  -- the text that is drawn, and then?
  have fin : ∀ (cs : List Nat) (x1 x2 x3 x5 x6 : Option D) (S : Hp3), cs.length ≤ 300 →
      seq3 (set3 5 (call3 sp_parsed NoX (cons3 (v3 4) nil3))) (seq3 (ifs3 (test3 (o3 (eqD3 200) (v3 5) (lst3 nil3))) (ret3 (andv3 (call3 sp_refused NoX (cons3 (v3 4) nil3)) (call3 sp_refused NoX (cons3 (v3 4) nil3)))) next3)
        (seq3 (set3 6 (call3 (sp_read_tree adr) NoX (cons3 (v3 4) nil3))) (ret3 (andv3 (call3 sp_is_tree NoX (cons3 (v3 6) (cons3 (c3 (D.int 60)) nil3))) (o3 (eqD3 200) (v3 6) (o3 ixL3 (v3 5) (c3 (D.int 0))))))))
        { nx := fun _ _ => False, rt := fun d _ => d = D.bl true } [some (.rol (ns.map D.int)), x1, x2, x3, some (.str (textOf cs)), x5, x6] S := by
    intro cs x1 x2 x3 x5 x6 S hl
    decreasing_trivial
    refine ⟨cs, rfl, hl, fun p hp => ?_⟩
    decreasing_trivial
    intro p2 hp2
    have hp1 := up_get (o := .lst []) (up_same (S := S) (a := p) (o := .lst ((parseT cs).map Tre.d))) hp2
    have hp3 : up (up S p (.lst ((parseT cs).map Tre.d))) p2 (.lst []) p2 = some (.lst []) := up_same
    generalize up (up S p (.lst ((parseT cs).map Tre.d))) p2 (.lst []) = S2 at hp1 hp3 ⊢
    cases e : parseT cs with
    | nil =>
      rw [e] at hp1
      refine ⟨.lst [], .lst [], .ref hp1 .nil, .ref hp3 .nil, by decide, ?_⟩
      have hno : ∀ t : Tre, t.codes = cs → ¬ t.size ≤ 60 := fun t ht hz => by
        rw [← ht, parseT_tree hz] at e
        cases e
      decreasing_trivial
      refine ⟨cs, rfl, by omega, hno, ?_⟩
      decreasing_trivial
      exact ⟨cs, rfl, by omega, hno, rfl⟩
    | cons t r =>
      obtain ⟨rfl, ht, hz⟩ := parseT_some e
      rw [e] at hp1
      have hp1 : S2 p = some (.lst [t.d]) := hp1
      refine ⟨.lst [t.dt], .lst [], .ref hp1 (.cons (dn_tre t) .nil), .ref hp3 .nil, ?_, ?_⟩
      · simp only [deepD, deepDs, t.dt_deep]
        have := t.deep_le
        omega
      decreasing_trivial
      refine ⟨cs, rfl, by omega, fun u hu hzu => ?_, fun hno => absurd hz (hno t ht)⟩
      obtain rfl : u = t := by
        have := parseT_tree hzu
        rw [hu, e] at this
        cases this
        rfl
      decreasing_trivial
      refine ⟨u, 60, rfl, by omega, by omega, ?_⟩
      decreasing_trivial
      refine ⟨u.dt, u.dt, dn_tre u, dn_tre u, by rw [u.dt_deep]; have := u.deep_le; omega, ?_⟩
      rw [eqD_refl]
  by_cases d1 : cellAt ns 2 % 4 = 1
  · have d2 : ¬ cellAt ns 2 % 4 = 2 := by omega
    decreasing_trivial
    refine cell (by decide) ?_
    decreasing_trivial
    refine cell (by decide) ?_
    decreasing_trivial
    refine cell (by decide) ?_
    decreasing_trivial
    have h6 := Int.emod_lt_of_pos (cellAt ns 0) (show (0 : Int) < 6 by decide)
    have h60 := Int.emod_nonneg (cellAt ns 0) (show (6 : Int) ≠ 0 by decide)
    refine ⟨_, _, rfl, by omega, by omega, fun t hz => ?_⟩
    decreasing_trivial
    refine cell (by decide) ?_
    decreasing_trivial
    refine ⟨t, rfl, by have := t.deep_le; omega, by omega, ?_⟩
    have hcl := t.codes_len
    decreasing_trivial
    refine cell (by decide) ?_
    decreasing_trivial
    refine iteD2 (fun d3 => ?_) (fun d3 => ?_)
    · decreasing_trivial
      refine cell (by decide) ?_
      decreasing_trivial
      refine cell (by decide) ?_
      decreasing_trivial
      refine cell (by decide) ?_
      decreasing_trivial
      refine ⟨t.codes, _, _, _, rfl, by omega, fun cs' hcs => ?_⟩
      exact fin cs' _ _ _ _ _ _ (by omega)
    · exact fin t.codes _ _ _ _ _ _ (by omega)
  · by_cases d2 : cellAt ns 2 % 4 = 2
    · decreasing_trivial
      refine cell (by decide) ?_
      decreasing_trivial
      refine cell (by decide) ?_
      decreasing_trivial
      refine cell (by decide) ?_
      decreasing_trivial
      refine cell (by decide) ?_
      decreasing_trivial
      have h8 := Int.emod_lt_of_pos (cellAt ns 1) (show (0 : Int) < 8 by decide)
      have h80 := Int.emod_nonneg (cellAt ns 1) (show (8 : Int) ≠ 0 by decide)
      have h9 := Int.emod_lt_of_pos (cellAt ns 1 / 8) (show (0 : Int) < 8 by decide)
      have h90 := Int.emod_nonneg (cellAt ns 1 / 8) (show (8 : Int) ≠ 0 by decide)
      refine ⟨_, _, rfl, by omega, by omega, fun t1 hz1 => ?_⟩
      decreasing_trivial
      refine cell (by decide) ?_
      decreasing_trivial
      refine ⟨_, _, rfl, by omega, by omega, fun t2 hz2 => ?_⟩
      decreasing_trivial
      obtain ⟨t, ht, hz⟩ : ∃ t : Tre, D.tup [t1.d, t2.d] = t.d ∧ t.size ≤ 67 := ⟨.pair t1 t2, rfl, by simp only [Tre.size]; omega⟩
      rw [ht]
      refine ⟨t, rfl, by have := t.deep_le; omega, by omega, ?_⟩
      have hcl := t.codes_len
      decreasing_trivial
      refine cell (by decide) ?_
      decreasing_trivial
      refine iteD2 (fun d3 => ?_) (fun d3 => ?_)
      · decreasing_trivial
        refine cell (by decide) ?_
        decreasing_trivial
        refine cell (by decide) ?_
        decreasing_trivial
        refine cell (by decide) ?_
        decreasing_trivial
        refine ⟨t.codes, _, _, _, rfl, by omega, fun cs' hcs => ?_⟩
        exact fin cs' _ _ _ _ _ _ (by omega)
      · exact fin t.codes _ _ _ _ _ _ (by omega)
    · decreasing_trivial
      refine cell (by decide) ?_
      decreasing_trivial
      refine cell (by decide) ?_
      decreasing_trivial
      have hz : t0.size ≤ 67 := by omega
      generalize t0 = t at hz ⊢
      refine ⟨t, rfl, by have := t.deep_le; omega, by omega, ?_⟩
      have hcl := t.codes_len
      decreasing_trivial
      refine cell (by decide) ?_
      decreasing_trivial
      refine iteD2 (fun d3 => ?_) (fun d3 => ?_)
      · decreasing_trivial
        refine cell (by decide) ?_
        decreasing_trivial
        refine cell (by decide) ?_
        decreasing_trivial
        refine cell (by decide) ?_
        decreasing_trivial
        refine ⟨t.codes, _, _, _, rfl, by omega, fun cs' hcs => ?_⟩
        exact fin cs' _ _ _ _ _ _ (by omega)
      · exact fin t.codes _ _ _ _ _ _ (by omega)

end
theorem all_mk {l : PySem.W.OpenLaw} {w : World} {K : PySem.W.Frag} {h : Heap} {mg : Str → Option Value} {fa f_shown_tree f_read_tree f_guessed_tree f_taken_pair f_cell_at f_tree_by f_count f_written f_is_tree f_parsed f_row f_sized f_changed f_refused f_law : Addr}
    (X : K.In h) (G : h.Ns mainGlobals mg) (hfa : mg "law" = some (.ref fa))
    {od_shown_tree an_shown_tree od_read_tree an_read_tree od_guessed_tree an_guessed_tree od_taken_pair an_taken_pair od_cell_at an_cell_at od_tree_by an_tree_by od_count an_count od_written an_written od_is_tree an_is_tree od_parsed an_parsed od_row an_row od_sized an_sized od_changed an_changed od_refused an_refused od_law an_law : Option Addr}
    {sl_shown_tree sl_read_tree sl_guessed_tree sl_taken_pair sl_cell_at sl_tree_by sl_count sl_written sl_is_tree sl_parsed sl_row sl_sized sl_changed sl_refused sl_law : Array (Option Value)}
    {oc_shown_tree kV_shown_tree dc_shown_tree pm_shown_tree cd_shown_tree ct_shown_tree oc_read_tree kV_read_tree dc_read_tree pm_read_tree cd_read_tree ct_read_tree oc_guessed_tree kV_guessed_tree dc_guessed_tree pm_guessed_tree cd_guessed_tree ct_guessed_tree oc_taken_pair kV_taken_pair dc_taken_pair pm_taken_pair cd_taken_pair ct_taken_pair oc_cell_at kV_cell_at dc_cell_at pm_cell_at cd_cell_at ct_cell_at oc_tree_by kV_tree_by dc_tree_by pm_tree_by cd_tree_by ct_tree_by oc_count kV_count dc_count pm_count cd_count ct_count oc_written kV_written dc_written pm_written cd_written ct_written oc_is_tree kV_is_tree dc_is_tree pm_is_tree cd_is_tree ct_is_tree oc_parsed kV_parsed dc_parsed pm_parsed cd_parsed ct_parsed oc_row kV_row dc_row pm_row cd_row ct_row oc_sized kV_sized dc_sized pm_sized cd_sized ct_sized oc_changed kV_changed dc_changed pm_changed cd_changed ct_changed oc_refused kV_refused dc_refused pm_refused cd_refused ct_refused oc_law kV_law dc_law pm_law cd_law ct_law : Value}
    {tk_MOST_PAIRS : Tok}
    (a_shown_tree : PySem.W.nsIn K mainGlobals "shown_tree" = some (some (.ref f_shown_tree)))
    (l_shown_tree : K.lookup f_shown_tree = some ⟨oc_shown_tree, od_shown_tree, .func (PySem.W.fnOf "shown_tree" "shown_tree" (defArgs s_shown_tree) (defBody s_shown_tree) (defScope s_shown_tree) .none kV_shown_tree dc_shown_tree pm_shown_tree an_shown_tree cd_shown_tree ct_shown_tree), sl_shown_tree⟩)
    (c_shown_tree : PySem.W.codeIn K cd_shown_tree "shown_tree" = true) (k_shown_tree : PySem.W.keepIn K (.ref f_shown_tree) = true)
    (a_read_tree : PySem.W.nsIn K mainGlobals "read_tree" = some (some (.ref f_read_tree)))
    (l_read_tree : K.lookup f_read_tree = some ⟨oc_read_tree, od_read_tree, .func (PySem.W.fnOf "read_tree" "read_tree" (defArgs s_read_tree) (defBody s_read_tree) (defScope s_read_tree) .none kV_read_tree dc_read_tree pm_read_tree an_read_tree cd_read_tree ct_read_tree), sl_read_tree⟩)
    (c_read_tree : PySem.W.codeIn K cd_read_tree "read_tree" = true) (k_read_tree : PySem.W.keepIn K (.ref f_read_tree) = true)
    (a_guessed_tree : PySem.W.nsIn K mainGlobals "guessed_tree" = some (some (.ref f_guessed_tree)))
    (l_guessed_tree : K.lookup f_guessed_tree = some ⟨oc_guessed_tree, od_guessed_tree, .func (PySem.W.fnOf "guessed_tree" "guessed_tree" (defArgs s_guessed_tree) (defBody s_guessed_tree) (defScope s_guessed_tree) .none kV_guessed_tree dc_guessed_tree pm_guessed_tree an_guessed_tree cd_guessed_tree ct_guessed_tree), sl_guessed_tree⟩)
    (c_guessed_tree : PySem.W.codeIn K cd_guessed_tree "guessed_tree" = true) (k_guessed_tree : PySem.W.keepIn K (.ref f_guessed_tree) = true)
    (a_taken_pair : PySem.W.nsIn K mainGlobals "taken_pair" = some (some (.ref f_taken_pair)))
    (l_taken_pair : K.lookup f_taken_pair = some ⟨oc_taken_pair, od_taken_pair, .func (PySem.W.fnOf "taken_pair" "taken_pair" (defArgs s_taken_pair) (defBody s_taken_pair) (defScope s_taken_pair) .none kV_taken_pair dc_taken_pair pm_taken_pair an_taken_pair cd_taken_pair ct_taken_pair), sl_taken_pair⟩)
    (c_taken_pair : PySem.W.codeIn K cd_taken_pair "taken_pair" = true) (k_taken_pair : PySem.W.keepIn K (.ref f_taken_pair) = true)
    (a_cell_at : PySem.W.nsIn K mainGlobals "_law_cell_at" = some (some (.ref f_cell_at)))
    (l_cell_at : K.lookup f_cell_at = some ⟨oc_cell_at, od_cell_at, .func (PySem.W.fnOf "_law_cell_at" "_law_cell_at" (defArgs s_cell_at) (defBody s_cell_at) (defScope s_cell_at) .none kV_cell_at dc_cell_at pm_cell_at an_cell_at cd_cell_at ct_cell_at), sl_cell_at⟩)
    (c_cell_at : PySem.W.codeIn K cd_cell_at "_law_cell_at" = true) (k_cell_at : PySem.W.keepIn K (.ref f_cell_at) = true)
    (a_tree_by : PySem.W.nsIn K mainGlobals "_law_tree_by" = some (some (.ref f_tree_by)))
    (l_tree_by : K.lookup f_tree_by = some ⟨oc_tree_by, od_tree_by, .func (PySem.W.fnOf "_law_tree_by" "_law_tree_by" (defArgs s_tree_by) (defBody s_tree_by) (defScope s_tree_by) .none kV_tree_by dc_tree_by pm_tree_by an_tree_by cd_tree_by ct_tree_by), sl_tree_by⟩)
    (c_tree_by : PySem.W.codeIn K cd_tree_by "_law_tree_by" = true) (k_tree_by : PySem.W.keepIn K (.ref f_tree_by) = true)
    (a_count : PySem.W.nsIn K mainGlobals "_law_count" = some (some (.ref f_count)))
    (l_count : K.lookup f_count = some ⟨oc_count, od_count, .func (PySem.W.fnOf "_law_count" "_law_count" (defArgs s_count) (defBody s_count) (defScope s_count) .none kV_count dc_count pm_count an_count cd_count ct_count), sl_count⟩)
    (c_count : PySem.W.codeIn K cd_count "_law_count" = true) (k_count : PySem.W.keepIn K (.ref f_count) = true)
    (a_written : PySem.W.nsIn K mainGlobals "_law_written" = some (some (.ref f_written)))
    (l_written : K.lookup f_written = some ⟨oc_written, od_written, .func (PySem.W.fnOf "_law_written" "_law_written" (defArgs s_written) (defBody s_written) (defScope s_written) .none kV_written dc_written pm_written an_written cd_written ct_written), sl_written⟩)
    (c_written : PySem.W.codeIn K cd_written "_law_written" = true) (k_written : PySem.W.keepIn K (.ref f_written) = true)
    (a_is_tree : PySem.W.nsIn K mainGlobals "_law_is_tree" = some (some (.ref f_is_tree)))
    (l_is_tree : K.lookup f_is_tree = some ⟨oc_is_tree, od_is_tree, .func (PySem.W.fnOf "_law_is_tree" "_law_is_tree" (defArgs s_is_tree) (defBody s_is_tree) (defScope s_is_tree) .none kV_is_tree dc_is_tree pm_is_tree an_is_tree cd_is_tree ct_is_tree), sl_is_tree⟩)
    (c_is_tree : PySem.W.codeIn K cd_is_tree "_law_is_tree" = true) (k_is_tree : PySem.W.keepIn K (.ref f_is_tree) = true)
    (a_parsed : PySem.W.nsIn K mainGlobals "_law_parsed" = some (some (.ref f_parsed)))
    (l_parsed : K.lookup f_parsed = some ⟨oc_parsed, od_parsed, .func (PySem.W.fnOf "_law_parsed" "_law_parsed" (defArgs s_parsed) (defBody s_parsed) (defScope s_parsed) .none kV_parsed dc_parsed pm_parsed an_parsed cd_parsed ct_parsed), sl_parsed⟩)
    (c_parsed : PySem.W.codeIn K cd_parsed "_law_parsed" = true) (k_parsed : PySem.W.keepIn K (.ref f_parsed) = true)
    (a_row : PySem.W.nsIn K mainGlobals "_law_row" = some (some (.ref f_row)))
    (l_row : K.lookup f_row = some ⟨oc_row, od_row, .func (PySem.W.fnOf "_law_row" "_law_row" (defArgs s_row) (defBody s_row) (defScope s_row) .none kV_row dc_row pm_row an_row cd_row ct_row), sl_row⟩)
    (c_row : PySem.W.codeIn K cd_row "_law_row" = true) (k_row : PySem.W.keepIn K (.ref f_row) = true)
    (a_sized : PySem.W.nsIn K mainGlobals "_law_sized" = some (some (.ref f_sized)))
    (l_sized : K.lookup f_sized = some ⟨oc_sized, od_sized, .func (PySem.W.fnOf "_law_sized" "_law_sized" (defArgs s_sized) (defBody s_sized) (defScope s_sized) .none kV_sized dc_sized pm_sized an_sized cd_sized ct_sized), sl_sized⟩)
    (c_sized : PySem.W.codeIn K cd_sized "_law_sized" = true) (k_sized : PySem.W.keepIn K (.ref f_sized) = true)
    (a_changed : PySem.W.nsIn K mainGlobals "_law_changed" = some (some (.ref f_changed)))
    (l_changed : K.lookup f_changed = some ⟨oc_changed, od_changed, .func (PySem.W.fnOf "_law_changed" "_law_changed" (defArgs s_changed) (defBody s_changed) (defScope s_changed) .none kV_changed dc_changed pm_changed an_changed cd_changed ct_changed), sl_changed⟩)
    (c_changed : PySem.W.codeIn K cd_changed "_law_changed" = true) (k_changed : PySem.W.keepIn K (.ref f_changed) = true)
    (a_refused : PySem.W.nsIn K mainGlobals "_law_refused" = some (some (.ref f_refused)))
    (l_refused : K.lookup f_refused = some ⟨oc_refused, od_refused, .func (PySem.W.fnOf "_law_refused" "_law_refused" (defArgs s_refused) (defBody s_refused) (defScope s_refused) .none kV_refused dc_refused pm_refused an_refused cd_refused ct_refused), sl_refused⟩)
    (c_refused : PySem.W.codeIn K cd_refused "_law_refused" = true) (k_refused : PySem.W.keepIn K (.ref f_refused) = true)
    (a_law : PySem.W.nsIn K mainGlobals "law" = some (some (.ref f_law)))
    (l_law : K.lookup f_law = some ⟨oc_law, od_law, .func (PySem.W.fnOf "law" "law" (defArgs s_law) (defBody s_law) (defScope s_law) .none kV_law dc_law pm_law an_law cd_law ct_law), sl_law⟩)
    (c_law : PySem.W.codeIn K cd_law "law" = true) (k_law : PySem.W.keepIn K (.ref f_law) = true)
    (z_len : PySem.W.nsIn K mainGlobals "len" = some none)
    (z_range : PySem.W.nsIn K mainGlobals "range" = some none)
    (z_isinstance : PySem.W.nsIn K mainGlobals "isinstance" = some none)
    (z_str : PySem.W.nsIn K mainGlobals "str" = some none)
    (z_tuple : PySem.W.nsIn K mainGlobals "tuple" = some none)
    (z_ValueError : PySem.W.nsIn K mainGlobals "ValueError" = some none)
    (z_MOST_PAIRS : PySem.W.nsIn K mainGlobals "MOST_PAIRS" = some (some (.int 60 tk_MOST_PAIRS)))
    {ad_err ad_text ad_twice ad_such ad_count ad_apart ad_many ad_way : Addr}
    (x_err : PySem.W.nsIn K mainGlobals "ErrandError" = some (some (.ref ad_err)))
    (x_text : PySem.W.nsIn K mainGlobals "BadText" = some (some (.ref ad_text)))
    (x_twice : PySem.W.nsIn K mainGlobals "Twice" = some (some (.ref ad_twice)))
    (x_such : PySem.W.nsIn K mainGlobals "NoSuch" = some (some (.ref ad_such)))
    (x_count : PySem.W.nsIn K mainGlobals "WrongCount" = some (some (.ref ad_count)))
    (x_apart : PySem.W.nsIn K mainGlobals "Apart" = some (some (.ref ad_apart)))
    (x_many : PySem.W.nsIn K mainGlobals "TooMany" = some (some (.ref ad_many)))
    (x_way : PySem.W.nsIn K mainGlobals "NoWay" = some (some (.ref ad_way)))
    (x_all : rfAll K [(.err, ad_err), (.text, ad_text), (.twice, ad_twice), (.such, ad_such), (.count, ad_count), (.apart, ad_apart), (.many, ad_many), (.way, ad_way)] = true) :
    ∃ fd : FuncData, (∀ (s : Shared) (v : Value), BindsTo s fd ⟨[v], []⟩ [("script", v)]) ∧ ∀ base : Heap, K.In base → base.Ns mainGlobals mg → FnOk l.prog w K mg base (CX1 l.prog w) 90 fa fd ["script"] (lSp K lawS) := by
  have e := hfa.symm.trans (PySem.W.mg_of X G a_law)
  cases e
  have H_shown_tree : Has K mg "shown_tree" s_shown_tree ["tree"] := has_mk X G a_shown_tree l_shown_tree c_shown_tree k_shown_tree fun _ _ _ _ _ _ us hl => match us, hl with | [_], _ => rfl
  have H_read_tree : Has K mg "read_tree" s_read_tree ["text"] := has_mk X G a_read_tree l_read_tree c_read_tree k_read_tree fun _ _ _ _ _ _ us hl => match us, hl with | [_], _ => rfl
  have H_guessed_tree : Has K mg "guessed_tree" s_guessed_tree ["text"] := has_mk X G a_guessed_tree l_guessed_tree c_guessed_tree k_guessed_tree fun _ _ _ _ _ _ us hl => match us, hl with | [_], _ => rfl
  have H_taken_pair : Has K mg "taken_pair" s_taken_pair ["found"] := has_mk X G a_taken_pair l_taken_pair c_taken_pair k_taken_pair fun _ _ _ _ _ _ us hl => match us, hl with | [_], _ => rfl
  have H_cell_at : Has K mg "_law_cell_at" s_cell_at ["script", "k"] := has_mk X G a_cell_at l_cell_at c_cell_at k_cell_at fun _ _ _ _ _ _ us hl => match us, hl with | [_, _], _ => rfl
  have H_tree_by : Has K mg "_law_tree_by" s_tree_by ["cell", "room"] := has_mk X G a_tree_by l_tree_by c_tree_by k_tree_by fun _ _ _ _ _ _ us hl => match us, hl with | [_, _], _ => rfl
  have H_count : Has K mg "_law_count" s_count ["tree"] := has_mk X G a_count l_count c_count k_count fun _ _ _ _ _ _ us hl => match us, hl with | [_], _ => rfl
  have H_written : Has K mg "_law_written" s_written ["tree"] := has_mk X G a_written l_written c_written k_written fun _ _ _ _ _ _ us hl => match us, hl with | [_], _ => rfl
  have H_is_tree : Has K mg "_law_is_tree" s_is_tree ["found", "room"] := has_mk X G a_is_tree l_is_tree c_is_tree k_is_tree fun _ _ _ _ _ _ us hl => match us, hl with | [_, _], _ => rfl
  have H_parsed : Has K mg "_law_parsed" s_parsed ["text"] := has_mk X G a_parsed l_parsed c_parsed k_parsed fun _ _ _ _ _ _ us hl => match us, hl with | [_], _ => rfl
  have H_row : Has K mg "_law_row" s_row ["many", "left"] := has_mk X G a_row l_row c_row k_row fun _ _ _ _ _ _ us hl => match us, hl with | [_, _], _ => rfl
  have H_sized : Has K mg "_law_sized" s_sized ["cell", "many"] := has_mk X G a_sized l_sized c_sized k_sized fun _ _ _ _ _ _ us hl => match us, hl with | [_, _], _ => rfl
  have H_changed : Has K mg "_law_changed" s_changed ["text", "way", "place", "sign"] := has_mk X G a_changed l_changed c_changed k_changed fun _ _ _ _ _ _ us hl => match us, hl with | [_, _, _, _], _ => rfl
  have H_refused : Has K mg "_law_refused" s_refused ["text"] := has_mk X G a_refused l_refused c_refused k_refused fun _ _ _ _ _ _ us hl => match us, hl with | [_], _ => rfl
  have Gx : Gs K mg := ⟨PySem.W.mg_none_of X G z_len, PySem.W.mg_none_of X G z_range, PySem.W.mg_none_of X G z_isinstance, PySem.W.mg_none_of X G z_str, PySem.W.mg_none_of X G z_tuple, PySem.W.mg_none_of X G z_ValueError, ⟨_, PySem.W.mg_of X G z_MOST_PAIRS⟩⟩
  have Rx : Rfs K mg ES (adrOf [(Rf.err, ad_err), (Rf.text, ad_text), (Rf.twice, ad_twice), (Rf.such, ad_such), (Rf.count, ad_count), (Rf.apart, ad_apart), (Rf.many, ad_many), (Rf.way, ad_way)]) := rfs_mk x_all fun i hi => by
    rcases (by simpa using hi : i = Rf.err ∨ i = Rf.text ∨ i = Rf.twice ∨ i = Rf.such ∨ i = Rf.count ∨ i = Rf.apart ∨ i = Rf.many ∨ i = Rf.way) with rfl | rfl | rfl | rfl | rfl | rfl | rfl | rfl
    · exact PySem.W.mg_of X G x_err
    · exact PySem.W.mg_of X G x_text
    · exact PySem.W.mg_of X G x_twice
    · exact PySem.W.mg_of X G x_such
    · exact PySem.W.mg_of X G x_count
    · exact PySem.W.mg_of X G x_apart
    · exact PySem.W.mg_of X G x_many
    · exact PySem.W.mg_of X G x_way
  have F_law := fun_mk (st := s_law) l_law c_law k_law
  refine ⟨PySem.W.fnOf "law" "law" (defArgs s_law) (defBody s_law) (defScope s_law) .none kV_law dc_law pm_law an_law cd_law ct_law, fun s v => .of_eq rfl, fun base _ _ => ?_⟩
  have C_cell_at := ok_cell_at (P := l.prog) (w := w) (base := base) (k := 0) H_cell_at Gx
  have C_tree_by := ok_tree_by (P := l.prog) (w := w) (base := base) (k := 0) H_tree_by Gx
  have C_count := ok_count (P := l.prog) (w := w) (base := base) H_count
  have C_read_tree := ok_read_tree (P := l.prog) (w := w) (base := base) (k := 2) H_read_tree Gx Rx (ok_guessed_tree (k := 1) H_guessed_tree Gx Rx (ok_taken_pair (k := 0) H_taken_pair Gx Rx)) (ok_shown_tree (k := 1) H_shown_tree Gx)
  exact ok_law F_law Gx Rx (C_cell_at.mono (by decide)) (C_tree_by.mono (by decide)) ((ok_row (k := 0) H_row Gx).mono (by decide)) ((ok_sized (k := 70) H_sized Gx (C_tree_by.mono (by decide)) ((C_count 62).mono (by decide))).mono (by decide)) ((ok_written H_written 80).mono (by decide)) ((ok_changed (k := 0) H_changed Gx).mono (by decide)) (ok_parsed (k := 88) H_parsed Gx ((C_count 80).mono (by decide))) ((ok_refused (k := 3) H_refused Gx Rx C_read_tree).mono (by decide)) (C_read_tree.mono (by decide)) ((ok_is_tree (k := 0) H_is_tree Gx).mono (by decide))
theorem walk {l : PySem.W.OpenLaw} {q : Program} {loose : List Str} {XP : (Str → Option Value) → Heap → Prop} {YP : World → Heap → Prop} {d : DefRec} {K : Params → PySem.W.Frag} (hn : l.most = some 63) (hdf : d.params.defaults = [])
    (hY : ∀ (w : World) (h : Heap), YP w h → (K w.params).In h)
    (F : ∀ (w : World) (mg : Str → Option Value) (fa : Addr) (h : Heap), (K w.params).In h → h.Ns mainGlobals mg → mg d.name = some (.ref fa) →
      ∃ fd : FuncData, (∀ (s : Shared) (u : Value), BindsTo s fd ⟨[u], []⟩ [("script", u)]) ∧ ∀ base : Heap, (K w.params).In base → base.Ns mainGlobals mg → FnOk l.prog w (K w.params) mg base (CX1 l.prog w) 90 fa fd ["script"] (lSp (K w.params) lawS)) :
    PySem.W.WalkO q loose XP YP l.row.toRowW d [] (fun f vs => PySem.call f vs) :=
  L2.walk_of (n := 63) (k := 90) (x := "script") (CX := fun w => CX1 l.prog w) (sp := fun w => lSp (K w.params) lawS) hn (by decide) hdf ⟨rfl, by decide, by decide⟩ hY F (fun _ _ a ns hl hO hS => law_sp hl hO hS) fun _ _ _ _ _ z => by
    obtain ⟨a, C, T, H', _, _, _, _, _, _, _, _, _, _, z⟩ := z
    exact z
end LW
open PySem PySem.W PyProof.Rows
set_option maxRecDepth 100000 in
set_option maxHeartbeats 0 in
theorem PySem.Challenge.cw_errandend_k03_tree_texts_refused_holds : PySem.Challenge.rw_errandend_k03_tree_texts_refused.Holds := by
  w_on; o_law; k_head; (case hw => w_witness2)
  k_fill
  refine LW.walk (l := PySem.Challenge.rw_errandend_k03_tree_texts_refused) rfl rfl (fun w h Y => PySem.W.kIn_of Y) ?F
  case F =>
    intro w mg fa h KX G hmg
    refine' LW.all_mk KX G hmg ?a_shown_tree ?l_shown_tree ?c_shown_tree ?k_shown_tree ?a_read_tree ?l_read_tree ?c_read_tree ?k_read_tree ?a_guessed_tree ?l_guessed_tree ?c_guessed_tree ?k_guessed_tree ?a_taken_pair ?l_taken_pair ?c_taken_pair ?k_taken_pair ?a_cell_at ?l_cell_at ?c_cell_at ?k_cell_at ?a_tree_by ?l_tree_by ?c_tree_by ?k_tree_by ?a_count ?l_count ?c_count ?k_count ?a_written ?l_written ?c_written ?k_written ?a_is_tree ?l_is_tree ?c_is_tree ?k_is_tree ?a_parsed ?l_parsed ?c_parsed ?k_parsed ?a_row ?l_row ?c_row ?k_row ?a_sized ?l_sized ?c_sized ?k_sized ?a_changed ?l_changed ?c_changed ?k_changed ?a_refused ?l_refused ?c_refused ?k_refused ?a_law ?l_law ?c_law ?k_law ?z_len ?z_range ?z_isinstance ?z_str ?z_tuple ?z_ValueError ?z_MOST_PAIRS ?x_err ?x_text ?x_twice ?x_such ?x_count ?x_apart ?x_many ?x_way ?x_all
    (case a_shown_tree => k_is)
    (case l_shown_tree => k_is)
    (case c_shown_tree => k_is)
    (case k_shown_tree => k_is)
    (case a_read_tree => k_is)
    (case l_read_tree => k_is)
    (case c_read_tree => k_is)
    (case k_read_tree => k_is)
    (case a_guessed_tree => k_is)
    (case l_guessed_tree => k_is)
    (case c_guessed_tree => k_is)
    (case k_guessed_tree => k_is)
    (case a_taken_pair => k_is)
    (case l_taken_pair => k_is)
    (case c_taken_pair => k_is)
    (case k_taken_pair => k_is)
    (case a_cell_at => k_is)
    (case l_cell_at => k_is)
    (case c_cell_at => k_is)
    (case k_cell_at => k_is)
    (case a_tree_by => k_is)
    (case l_tree_by => k_is)
    (case c_tree_by => k_is)
    (case k_tree_by => k_is)
    (case a_count => k_is)
    (case l_count => k_is)
    (case c_count => k_is)
    (case k_count => k_is)
    (case a_written => k_is)
    (case l_written => k_is)
    (case c_written => k_is)
    (case k_written => k_is)
    (case a_is_tree => k_is)
    (case l_is_tree => k_is)
    (case c_is_tree => k_is)
    (case k_is_tree => k_is)
    (case a_parsed => k_is)
    (case l_parsed => k_is)
    (case c_parsed => k_is)
    (case k_parsed => k_is)
    (case a_row => k_is)
    (case l_row => k_is)
    (case c_row => k_is)
    (case k_row => k_is)
    (case a_sized => k_is)
    (case l_sized => k_is)
    (case c_sized => k_is)
    (case k_sized => k_is)
    (case a_changed => k_is)
    (case l_changed => k_is)
    (case c_changed => k_is)
    (case k_changed => k_is)
    (case a_refused => k_is)
    (case l_refused => k_is)
    (case c_refused => k_is)
    (case k_refused => k_is)
    (case a_law => k_is)
    (case l_law => k_is)
    (case c_law => k_is)
    (case k_law => k_is)
    (case z_len => k_is)
    (case z_range => k_is)
    (case z_isinstance => k_is)
    (case z_str => k_is)
    (case z_tuple => k_is)
    (case z_ValueError => k_is)
    (case z_MOST_PAIRS => k_is)
    (case x_err => k_is)
    (case x_text => k_is)
    (case x_twice => k_is)
    (case x_such => k_is)
    (case x_count => k_is)
    (case x_apart => k_is)
    (case x_many => k_is)
    (case x_way => k_is)
    (case x_all => kernel_rfl)
#print axioms PySem.Challenge.cw_errandend_k03_tree_texts_refused_holds
