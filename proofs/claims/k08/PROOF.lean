import PyProof.Rows.All
import Wide.All
import OpenK.AllK
import Wide.FinOn
import Lean
import PyProof.EqAt
import PyProof.EqKinds
import PyProof.TupleCall
import PySem.Challenge.RW_errandend_k08_graphs
set_option Elab.async false
set_option linter.all false
set_option maxRecDepth 100000
/-! THE HAND LAYER, for ints, bools, texts, own classes, LISTS and tuples (index, slices, in, append, pop ..), calls, loops. Paste it whole ahead of your own text; what your proof does not reach may be deleted. -/
namespace L2
open PySem PySem.Spec PyProof.Rows

/-- a key: an int or a str -/
abbrev Key := Sum Int Str
def keyIs : Key → Value → Bool
  | .inl k, v => Value.isInt k v
  | .inr x, v => Value.isStrOf x v
def keyH (w : World) : Key → Int
  | .inl k => hashInt k
  | .inr x => hashStr w x
theorem keyIs_shape : ∀ {k : Key} {v : Value}, keyIs k v = true → (∃ i t, k = Sum.inl i ∧ v = Value.int i t) ∨ (∃ x t, k = Sum.inr x ∧ v = Value.str x t)
  | .inl i, v, h => by
    obtain ⟨t, e⟩ := Value.isInt_shape (k := i) (v := v) h
    exact .inl ⟨i, t, rfl, e⟩
  | .inr x, v, h => by
    obtain ⟨t, e⟩ := Value.isStrOf_shape (x := x) (v := v) h
    exact .inr ⟨x, t, rfl, e⟩
theorem key_ll (a b : Int) : decide ((Sum.inl a : Key) = Sum.inl b) = (a == b) := by
  by_cases e : a = b
  · subst e; simp
  · have h : ¬ (Sum.inl a : Key) = Sum.inl b := fun q => e (Sum.inl.inj q)
    rw [decide_eq_false h]
    exact (beq_eq_false_iff_ne.mpr e).symm
theorem key_rr (a b : Str) : decide ((Sum.inr a : Key) = Sum.inr b) = decide (a = b) := by
  by_cases e : a = b
  · subst e; simp
  · have h : ¬ (Sum.inr a : Key) = Sum.inr b := fun q => e (Sum.inr.inj q)
    rw [decide_eq_false h, decide_eq_false e]
theorem key_lr (a : Int) (b : Str) : decide ((Sum.inl a : Key) = Sum.inr b) = false := decide_eq_false (fun q => nomatch q)
theorem key_rl (a : Str) (b : Int) : decide ((Sum.inr a : Key) = Sum.inl b) = false := decide_eq_false (fun q => nomatch q)

def mixKind (prog : Program) (w : World) : PySem.KeyKind prog w Key where
  is := keyIs
  hash := keyH w
  inj := fun v a b ha hb => by
    rcases keyIs_shape ha with ⟨i, t, rfl, rfl⟩ | ⟨x, t, rfl, rfl⟩
    · rcases keyIs_shape hb with ⟨j, u, rfl, e⟩ | ⟨y, u, rfl, e⟩
      · injection e with e1 _; rw [e1]
      · exact nomatch e
    · rcases keyIs_shape hb with ⟨j, u, rfl, e⟩ | ⟨y, u, rfl, e⟩
      · exact nomatch e
      · injection e with e1 _; rw [e1]
  byValue := fun k v h => by
    rcases keyIs_shape h with ⟨i, t, rfl, rfl⟩ | ⟨x, t, rfl, rfl⟩ <;> rfl
  pyHash := fun hv h => by
    rcases keyIs_shape hv with ⟨i, t, rfl, rfl⟩ | ⟨x, t, rfl, rfl⟩
    · exact wpAny_pyHash_int h
    · exact wpAny_pyHash_str h
  eqBool := fun hu hv h => by
    rcases keyIs_shape hu with ⟨i, t, rfl, rfl⟩ | ⟨x, t, rfl, rfl⟩
    · rcases keyIs_shape hv with ⟨j, u, rfl, rfl⟩ | ⟨y, u, rfl, rfl⟩
      · rw [key_ll] at h; exact wpAny_eqBool_int h
      · rw [key_lr] at h; exact SeqAt.EqAt.int_str i t y u _ _ _ _ h
    · rcases keyIs_shape hv with ⟨j, u, rfl, rfl⟩ | ⟨y, u, rfl, rfl⟩
      · rw [key_rl] at h; exact SeqAt.EqAt.str_int x t j u _ _ _ _ h
      · rw [key_rr] at h; exact wpAny_eqBool_str h
  «strs» := fun k x t v h => by
    rcases keyIs_shape h with ⟨i, u, rfl, e⟩ | ⟨y, u, rfl, e⟩
    · exact nomatch e
    · injection e with e1 _
      subst e1
      cases v <;> rfl

end L2

namespace L2
open PySem PySem.Spec PyProof.Rows

/-- a value, without the heap -/
inductive V where
  | non | bl (b : Bool) | int (i : Int) | str (x : Str) | byt (b : Array UInt8) | flt (b : UInt64) | ref (a : Addr) | ty (n : String)
  deriving DecidableEq

def RelV : V → Value → Prop
  | .non, u => u = Value.none
  | .bl b, u => u = Value.bool b
  | .int i, u => ∃ t, u = Value.int i t
  | .str x, u => ∃ t, u = Value.str x t
  | .byt b, u => ∃ t, u = Value.bytes b t
  | .flt b, u => ∃ t, u = Value.float b t
  | .ref a, u => u = Value.ref a
  | .ty n, u => u = Value.type n

abbrev Vals : List V → List Value → Prop := Paired RelV
theorem Vals.length {xs : List V} {us : List Value} (r : Vals xs us) : xs.length = us.length := Paired.length r
theorem Vals.get : ∀ {xs : List V} {us : List Value} {i : Nat} {x : V}, Vals xs us → xs[i]? = some x → ∃ u, us[i]? = some u ∧ RelV x u
  | _, _, _, _, .nil, e => by simp at e
  | _, _, 0, _, .cons r _, e => by simp at e; subst e; exact ⟨_, rfl, r⟩
  | _, _, i + 1, x, .cons _ t, e => by
    obtain ⟨u, h1, h2⟩ := Vals.get (i := i) (x := x) t (by simpa using e)
    exact ⟨u, by simpa using h1, h2⟩
theorem Vals.set {x : V} {u : Value} (r : RelV x u) : ∀ {xs : List V} {us : List Value} (i : Nat), Vals xs us → Vals (xs.set i x) (us.set i u)
  | _, _, _, .nil => .nil
  | _, _, 0, .cons _ t => .cons r t
  | _, _, i + 1, .cons q t => .cons q (Vals.set r i t)
theorem Vals.append : ∀ {xs ys : List V} {us ws : List Value}, Vals xs us → Vals ys ws → Vals (xs ++ ys) (us ++ ws)
  | _, _, _, _, .nil, s => s
  | _, _, _, _, .cons r t, s => .cons r (Vals.append t s)
theorem Vals.take : ∀ {xs : List V} {us : List Value} (n : Nat), Vals xs us → Vals (xs.take n) (us.take n)
  | _, _, 0, _ => .nil
  | _, _, _ + 1, .nil => .nil
  | _, _, n + 1, .cons r t => .cons r (Vals.take n t)
theorem Vals.drop : ∀ {xs : List V} {us : List Value} (n : Nat), Vals xs us → Vals (xs.drop n) (us.drop n)
  | _, _, 0, r => r
  | _, _, _ + 1, .nil => .nil
  | _, _, n + 1, .cons _ t => Vals.drop n t
def RelO : Option V → Option Value → Prop
  | some v, some u => RelV v u
  | none, none => True
  | _, _ => False
def KV {κ : Type} : List (κ × V) → List (κ × Value) → Prop := Paired fun (p : κ × V) (q : κ × Value) => p.1 = q.1 ∧ RelV p.2 q.2

/-- a key of a dict (00_mix): an int or a text -/
def kV : Key → V
  | .inl i => .int i
  | .inr x => .str x

/-- what stands at a tracked address -/
inductive HO where
  /-- a list -/
  | lst (xs : List V)
  /-- a tuple (never changes) -/
  | tup (xs : List V)
  /-- a dict whose keys are ints and texts; one whose keys are tuples of ints and texts (the empty one is both) -/
  | dK (kvs : List (Key × V)) | dT (kvs : List (List Key × V))
  /-- a set of ints: its members, its size -/
  | set (S : Int → Bool) (n : Nat)
  /-- an instance of the class at C, its dict at dx, its attributes -/
  | ins (C dx : Addr) (fs : List (Str × V))
  /-- the dict of the instance at x -/
  | own (x : Addr)
  /-- the dict of an exception -/
  | xd (fs : List (Str × V))
  /-- a bound method, f of x -/
  | met (f x : Addr)
  /-- a range object lo, lo + 1, .. below hi -/
  | rng (lo hi : Int)
  /-- a thing that is known to the object (the script; a dict while a loop walks it): read, never written while it is so -/
  | frz (o : Obj) (u : HO)
  /-- a code object's table -/
  | tbl (ps : Array Value)
  /-- any other thing, by what is true of its one object (a def of one's own: SetO a S n := HO.ext fun h => ..) -/
  | ext (φ : Heap → Prop)

abbrev Hp := Addr → Option HO
def upd (H : Hp) (a : Addr) (o : HO) : Hp := fun b => if b = a then some o else H b
theorem upd_same {H : Hp} {a : Addr} {o : HO} : upd H a o a = some o := by unfold upd; rw [if_pos rfl]
theorem upd_ne {H : Hp} {a b : Addr} {o : HO} (h : b ≠ a) : upd H a o b = H b := by unfold upd; rw [if_neg h]
/-- two objects of different content stand apart -/
theorem ne_of {H : Hp} {a b : Addr} {o u : HO} (h : H a = some o) (h' : H b = some u) (d : o ≠ u) : a ≠ b := by
  intro e; subst e; rw [h] at h'; exact d (Option.some.inj h')
theorem ne_of_none {H : Hp} {a b : Addr} {o : HO} (h : H a = some o) (h' : H b = none) : a ≠ b := by
  intro e; subst e; rw [h] at h'; cases h'

section
variable (P : Program) (w : World)
def ObjOk (H : Hp) (h : Heap) (a : Addr) : HO → Prop
  | .lst xs => xs.length ≤ sizeLine ∧ ∃ (its : List Value) (n : Nat), Vals xs its ∧ h.get? a = some { cls := .type "list", data := .seq its.toArray n }
  | .tup xs => xs.length ≤ sizeLine ∧ ∃ its : List Value, Vals xs its ∧ IsTup h a its.toArray
  | .dK kvs => kvs.length ≤ sizeLine ∧ (a == sysModules) = false ∧ ∃ vs, KV kvs vs ∧ h.DictOf (mixKind P w) a vs
  | .dT kvs => kvs.length ≤ sizeLine ∧ (a == sysModules) = false ∧ ∃ xs : List (List Key × Addr × Value),
      Paired (fun (p : List Key × V) (q : List Key × Addr × Value) => p.1 = q.1 ∧ H q.2.1 = some (.tup (p.1.map kV)) ∧ RelV p.2 q.2.2) kvs xs ∧
      ∃ o es ep, h.get? a = some o ∧ o.ExactDict ∧ o.data = .dict es ep ∧ es.toList = xs.map (entryOfKey (tupleKind (mixKind P w))) ∧ (xs.map (·.1)).Nodup
  | .set S n => h.SetOf (intKind P w) a S n
  | .ins C dx fs => H dx = some (.own a) ∧ fs.length ≤ 1000 ∧ dx ≠ a ∧ h.get? a = some (PySem.W.instObj C dx) ∧
      ∃ mA, h.Ns1 dx mA ∧ (∀ f, RelO (fs.lookup f) (mA f)) ∧ PySem.Within mA (fs.map (·.1))
  | .own _ => ∃ o, h.get? a = some o
  | .xd fs => ∃ mA, h.Ns1 a mA ∧ ∀ f, RelO (fs.lookup f) (mA f)
  | .rng lo hi => ∃ t u v, h.get? a = some { cls := .type "range", data := .fields #[.int lo t, .int hi u, .int 1 v] }
  | .frz o u => h.get? a = some o ∧ ObjOk H h a u
  | .tbl ps => h.get? a = some { cls := .none, data := .fields ps }
  | .met f x => h.get? a = some (PySem.W.methodObj (.ref f) (.ref x))
  | .ext φ => φ h ∧ (∃ o, h.get? a = some o) ∧ ∀ h1 h2 : Heap, φ h1 → (∀ o, h1.get? a = some o → h2.get? a = some o) → φ h2
/-- the abstract heap is held -/
def HOk (H : Hp) (h : Heap) : Prop := ∀ a o, H a = some o → ObjOk P w H h a o
end

section
variable {P : Program} {w : World} {H H' : Hp} {h h' : Heap} {a : Addr} {o : HO}
theorem ObjOk.lt (x : ObjOk P w H h a o) : a < h.objs.size := by
  cases o with
  | lst xs => obtain ⟨_, _, _, _, e⟩ := x; exact Heap.lt_size e
  | tup xs => obtain ⟨_, _, _, p⟩ := x; exact p.lt
  | dK kvs => obtain ⟨_, _, _, _, o, _, _, e, _⟩ := x; exact Heap.lt_size e
  | dT kvs => obtain ⟨_, _, _, _, o, _, _, e, _⟩ := x; exact Heap.lt_size e
  | set S n => obtain ⟨o, _, _, _, e, _⟩ := x; exact Heap.lt_size e
  | ins C dx fs => obtain ⟨_, _, _, e, _⟩ := x; exact Heap.lt_size e
  | own y => obtain ⟨_, e⟩ := x; exact Heap.lt_size e
  | xd fs => obtain ⟨_, ⟨_, _, _, e, _⟩, _⟩ := x; exact Heap.lt_size e
  | rng lo hi => obtain ⟨_, _, _, e⟩ := x; exact Heap.lt_size e
  | frz ob u => obtain ⟨e, _⟩ := x; exact Heap.lt_size e
  | tbl ps => exact Heap.lt_size (show h.get? a = some _ from x)
  | met f y => exact Heap.lt_size (show h.get? a = some _ from x)
  | ext φ => obtain ⟨_, ⟨_, e⟩, _⟩ := x; exact Heap.lt_size e
theorem Paired.mapP {α β : Type} {F G : α → β → Prop} : ∀ {l₁ : List α} {l₂ : List β}, Paired F l₁ l₂ → (∀ a b, F a b → G a b) → Paired G l₁ l₂
  | _, _, .nil, _ => .nil
  | _, _, .cons r t, f => .cons (f _ _ r) (Paired.mapP t f)
/-- what an object's description leans on: its own object, its own dict, the tuples -/
theorem ObjOk.stay (x : ObjOk P w H h a o) (k : ∀ b u, (b = a ∨ H b = some (.own a)) → h.get? b = some u → h'.get? b = some u)
    (ho : ∀ b, H b = some (.own a) → H' b = some (.own a)) (ht : ∀ b xs, H b = some (.tup xs) → H' b = some (.tup xs)) : ObjOk P w H' h' a o := by
  induction o with
  | lst xs => obtain ⟨z, its, n, r, e⟩ := x; exact ⟨z, its, n, r, k _ _ (.inl rfl) e⟩
  | tup xs => obtain ⟨z, its, r, ob, e, c⟩ := x; exact ⟨z, its, r, ob, k _ _ (.inl rfl) e, c⟩
  | dK kvs => obtain ⟨z, y, vs, r, ob, es, ep, e, c⟩ := x; exact ⟨z, y, vs, r, ob, es, ep, k _ _ (.inl rfl) e, c⟩
  | dT kvs =>
    obtain ⟨z, y, xs, r, ob, es, ep, e, c⟩ := x
    exact ⟨z, y, xs, Paired.mapP r fun p q z => ⟨z.1, ht _ _ z.2.1, z.2.2⟩, ob, es, ep, k _ _ (.inl rfl) e, c⟩
  | set S n => obtain ⟨ob, es, ep, t, e, c⟩ := x; exact ⟨ob, es, ep, t, k _ _ (.inl rfl) e, c⟩
  | ins C dx fs =>
    obtain ⟨d, z, ne, e, mA, ⟨od, es, ep, e2, c⟩, r⟩ := x
    exact ⟨ho _ d, z, ne, k _ _ (.inl rfl) e, mA, ⟨od, es, ep, k _ _ (.inr d) e2, c⟩, r⟩
  | own y => obtain ⟨ob, e⟩ := x; exact ⟨ob, k _ _ (.inl rfl) e⟩
  | xd fs => obtain ⟨mA, ⟨od, es, ep, e, c⟩, r⟩ := x; exact ⟨mA, ⟨od, es, ep, k _ _ (.inl rfl) e, c⟩, r⟩
  | rng lo hi => obtain ⟨t, u, v, e⟩ := x; exact ⟨t, u, v, k _ _ (.inl rfl) e⟩
  | frz ob u ih => obtain ⟨e, q⟩ := x; exact ⟨k _ _ (.inl rfl) e, ih q⟩
  | tbl ps =>
    have e : h.get? a = some { cls := .none, data := .fields ps } := x
    show h'.get? a = some { cls := .none, data := .fields ps }
    exact k a _ (.inl rfl) e
  | met f y =>
    have e : h.get? a = some (PySem.W.methodObj (.ref f) (.ref y)) := x
    show h'.get? a = some (PySem.W.methodObj (.ref f) (.ref y))
    exact k a _ (.inl rfl) e
  | ext φ => obtain ⟨p, ⟨o, e⟩, st⟩ := x; exact ⟨st _ _ p fun o q => k _ _ (.inl rfl) q, ⟨o, k _ _ (.inl rfl) e⟩, st⟩
theorem HOk.lt (x : HOk P w H h) (e : H a = some o) : a < h.objs.size := (x a o e).lt
theorem HOk.fresh (x : HOk P w H h) (e : h.objs.size ≤ a) : H a = none := by
  cases q : H a with
  | none => rfl
  | some u => exact absurd (Nat.lt_of_lt_of_le (x.lt q) e) (Nat.lt_irrefl _)
/-- every object of the heap is kept -/
theorem HOk.kept (x : HOk P w H h) (k : ∀ b u, h.get? b = some u → h'.get? b = some u) : HOk P w H h' := fun a o e =>
  (x a o e).stay (fun b u _ q => k b u q) (fun _ q => q) fun _ _ q => q
/-- a new object is laid and tracked -/
theorem HOk.laid (x : HOk P w H h) (k : ∀ b u, h.get? b = some u → h'.get? b = some u) (hp : h.objs.size ≤ a) (new : ObjOk P w (upd H a o) h' a o) : HOk P w (upd H a o) h' := fun b u e => by
  have hn := x.fresh hp
  by_cases hb : b = a
  · subst hb; rw [upd_same] at e; cases e; exact new
  · rw [upd_ne hb] at e
    exact (x b u e).stay (fun c v _ q => k c v q) (fun c q => by rw [upd_ne (ne_of_none q hn)]; exact q) fun c xs q => by rw [upd_ne (ne_of_none q hn)]; exact q
end

/-- what may be read as u: it is u, or a known u -/
def Rd (H : Hp) (a : Addr) (u : HO) : Prop := H a = some u ∨ ∃ o, H a = some (.frz o u)
theorem Rd.ok {P : Program} {w : World} {H : Hp} {h : Heap} {a : Addr} {u : HO} (r : Rd H a u) (x : HOk P w H h) : ObjOk P w H h a u := by
  rcases r with r | ⟨o, r⟩
  · exact x a u r
  · obtain ⟨_, q⟩ := x a _ r
    exact q
/-- what may be written -/
def Mut : Option HO → Prop
  | some (.lst _) => True
  | some (.dK _) => True
  | some (.dT _) => True
  | some (.set _ _) => True
  | some (.ins _ _ _) => True
  | some (.ext _) => True
  | _ => False
section
variable {P : Program} {w : World} {H : Hp} {h h' : Heap} {x e : Addr} {o' : HO}
/-- the object at e is changed: x itself, or the dict of the instance x -/
theorem HOk.write (ok : HOk P w H h) (mu : Mut (H x)) (he : e = x ∨ H e = some (.own x)) (k : ∀ b u, b ≠ e → h.get? b = some u → h'.get? b = some u) (heo : ∃ u, h'.get? e = some u)
    (new : ObjOk P w (upd H x o') h' x o') : HOk P w (upd H x o') h' := fun b u q => by
  have nown : ∀ c y, H c = some (.own y) → c ≠ x := fun c y r z => by subst z; rw [r] at mu; exact mu
  have ntup : ∀ c xs, H c = some (.tup xs) → c ≠ x := fun c xs r z => by subst z; rw [r] at mu; exact mu
  by_cases hb : b = x
  · subst hb; rw [upd_same] at q; cases q; exact new
  · rw [upd_ne hb] at q
    by_cases hbe : b = e
    · have q' : H b = some (.own x) := by
        rcases he with z | z
        · exact absurd (hbe.trans z) hb
        · rw [hbe]; exact z
      rw [q] at q'; cases q'
      obtain ⟨v, hv⟩ := heo
      exact ⟨v, by rw [hbe]; exact hv⟩
    · refine (ok b u q).stay (fun c v hc r => k c v ?_ r) (fun c r => by rw [upd_ne (nown c b r)]; exact r) fun c xs r => by rw [upd_ne (ntup c xs r)]; exact r
      rcases hc with rfl | hc
      · exact hbe
      · rintro rfl
        rcases he with z | z
        · exact nown c b hc z
        · rw [hc] at z; cases z; exact hb rfl
end

/-! ### kept unless tracked; of the frames at fs (the callers') the slots may change (an exception that passes writes there); of the records at ex (iterators) nothing is said -/
structure Un (fs ex : List Addr) (H H' : Hp) (h h' : Heap) : Prop where
  keep : ∀ b o, h.get? b = some o → H b = none → b ∉ fs → b ∉ ex → h'.get? b = some o
  slot : ∀ b o, h.get? b = some o → H b = none → b ∈ fs → b ∉ ex → ∃ sl, h'.get? b = some { o with slots := sl }
  free : ∀ b o, h.get? b = some o → H b = none → b ∉ ex → H' b = none
  there : ∀ b o, h.get? b = some o → b ∉ ex → ∃ o', h'.get? b = some o'
  tups : ∀ b xs, H b = some (.tup xs) → H' b = some (.tup xs)
  frzs : ∀ b o u, H b = some (.frz o u) → H' b = some (.frz o u)
  tbls : ∀ b ps, H b = some (.tbl ps) → ∃ more, H' b = some (.tbl (ps ++ more))
section
variable {fs fs' ex ex' : List Addr} {H H1 H2 : Hp} {h h1 h2 h' : Heap} {a x e : Addr} {o : HO}
theorem Un.any (u : Un fs ex H H1 h h1) {b : Addr} {ob : Obj} (q : h.get? b = some ob) (n : H b = none) (hx : b ∉ ex) : ∃ sl, h1.get? b = some { ob with slots := sl } := by
  by_cases hb : b ∈ fs
  · exact u.slot b ob q n hb hx
  · exact ⟨ob.slots, u.keep b ob q n hb hx⟩
theorem Un.kept (k : ∀ b u, h.get? b = some u → h'.get? b = some u) : Un fs ex H H h h' :=
  ⟨fun b ob q _ _ _ => k b ob q, fun b ob q _ _ _ => ⟨ob.slots, k b ob q⟩, fun _ _ _ n _ => n, fun b ob q _ => ⟨ob, k b ob q⟩, fun _ _ q => q, fun _ _ _ q => q, fun _ ps q => ⟨#[], by rw [q]; simp⟩⟩
theorem Un.refl : Un fs ex H H h h := Un.kept fun _ _ q => q
theorem Un.laid (k : ∀ b u, h.get? b = some u → h'.get? b = some u) (hp : h.objs.size ≤ a) (hn : H a = none) : Un fs ex H (upd H a o) h h' where
  keep := fun b u q _ _ _ => k b u q
  slot := fun b u q _ _ _ => ⟨u.slots, k b u q⟩
  free := fun b u q n _ => by rw [upd_ne (Nat.ne_of_lt (Nat.lt_of_lt_of_le (Heap.lt_size q) hp))]; exact n
  there := fun b u q _ => ⟨u, k b u q⟩
  tups := fun b xs q => by rw [upd_ne (ne_of_none q hn)]; exact q
  frzs := fun b u xs q => by rw [upd_ne (ne_of_none q hn)]; exact q
  tbls := fun b ps q => ⟨#[], by rw [upd_ne (ne_of_none q hn), q]; simp⟩
theorem Un.write (mu : Mut (H x)) (he : e = x ∨ H e = some (.own x)) (k : ∀ b u, b ≠ e → h.get? b = some u → h'.get? b = some u) (heo : ∃ u, h'.get? e = some u) : Un fs ex H (upd H x o) h h' := by
  have hx : ∀ b, H b = none → b ≠ x := fun b n z => by subst z; rw [n] at mu; exact mu
  have hb : ∀ b, H b = none → b ≠ e := fun b n z => by
    subst z
    rcases he with r | r
    · exact hx b n r
    · rw [n] at r; cases r
  have hm : ∀ b u, H b = some u → ¬ Mut (some u) → b ≠ x := fun b u q nm z => by subst z; rw [q] at mu; exact nm mu
  refine ⟨fun b u q n _ _ => k b u (hb b n) q, fun b u q n _ _ => ⟨u.slots, k b u (hb b n) q⟩, fun b u q n _ => by rw [upd_ne (hx b n)]; exact n, fun b u q _ => ?_,
    fun b xs q => by rw [upd_ne (hm b _ q fun z => z)]; exact q, fun b u xs q => by rw [upd_ne (hm b _ q fun z => z)]; exact q, fun b ps q => ⟨#[], by rw [upd_ne (hm b _ q fun z => z), q]; simp⟩⟩
  by_cases hbe : b = e
  · subst hbe; exact heo
  · exact ⟨u, k b u hbe q⟩
end

/-! ### the heap without what is tracked -/
def trk (h : Heap) (H : Hp) : List Addr := (List.range h.objs.size).filter fun a => (H a).isSome
def hidT (h : Heap) (H : Hp) : Heap := PySem.W.hideAll h (trk h H)
theorem hidT_size (h : Heap) (H : Hp) : (hidT h H).objs.size = h.objs.size := PySem.W.hideAll_size _ _
theorem hidT_get {h : Heap} {H : Hp} {b : Addr} {o : Obj} (e : h.get? b = some o) (n : H b = none) : (hidT h H).get? b = some o :=
  PySem.W.hideAll_get _ e fun hm => by
    have q : (H b).isSome = true := (List.mem_filter.mp hm).2
    rw [n] at q; simp at q
theorem of_hidT {h : Heap} {H : Hp} {b : Addr} {o : Obj} (e : (hidT h H).get? b = some o) : h.get? b = some o ∧ H b = none := by
  have e' : h.get? b = some o := PySem.W.of_hideAll (trk h H) e
  refine ⟨e', ?_⟩
  cases q : H b with
  | none => rfl
  | some x =>
    have hm : b ∈ trk h H := List.mem_filter.mpr ⟨List.mem_range.mpr (Heap.lt_size e'), by simp [q]⟩
    have z : (hidT h H).get? b = none := PySem.W.hideAll_none (trk h H) hm
    rw [z] at e; cases e

/-! ### OpenK's ledger, filled with every new object but one -/
def allNews (g h : Heap) (L : Addr) : List (Addr × Obj) := (List.range h.objs.size).filterMap fun a => if a = L ∨ (g.get? a).isSome = true then none else (h.get? a).map fun o => (a, o)
def rest (g h : Heap) (L d : Addr) : List (Addr × Obj) := (allNews g h L).filter fun p => decide (p.1 ≠ d)
end L2

namespace L2
open PySem PySem.Spec PyProof.Rows

/-- the module's facts, over the base: the heap at the law's entry without what is tracked there -/
structure Mod (K : PySem.W.Frag) (mg : Str → Option Value) (base : Heap) : Prop where
  kin : K.In base
  glob : base.Ns mainGlobals mg
  blt : ∃ mb, base.Ns builtinsNs mb ∧ ∀ x : Str, x ≠ "__name__" → mb x = bootBuiltins x
  nolimit : base.NoLimit

/-- the context: a def's body (or a comprehension's block) running. base: fixed through the whole law; s₀, H₀: the entry; outer: the frames whose slots others may change (a def's callers); stack: all frames that run;
   ex: iterators that were made ahead of the entry and are walked here (a comprehension's); fn: the names whose cells were made at the entry (a def: all; a comprehension's block: its own); calm: not within an except suite; pn: pins that every state bears; xe: what is wanted of an exception that leaves the code -/
structure Cx where
  prog : Program
  w : World
  K : PySem.W.Frag
  mg : Str → Option Value
  base : Heap
  A : Around
  N : List Str
  s₀ : Shared
  H₀ : Hp
  env : Env
  outer : List Env
  stack : List Env
  ex : List Addr
  fn : Str → Bool
  calm : Bool
  pn : List (Addr × Obj)
  xe : Value → Shared → Prop
/-- the callers' frames -/
def frs (l : List Env) : List Addr := l.filterMap (·.frame)
abbrev Cx.fs (X : Cx) : List Addr := frs X.outer

def Vis (sc : Scope) (x : Str) : Prop := sc.names.lookup x = some .local ∨ sc.names.lookup x = some .cell ∨ sc.names.lookup x = some .free
def Loc (sc : Scope) (x : Str) : Prop := sc.names.lookup x = some .local ∨ sc.names.lookup x = some .cell
def Look (env : Env) (h : Heap) (m : Str → Option Value) (x : Str) (u : Value) : Prop :=
  (env.kindOf x = some .local ∧ m x = some u) ∨ ((env.kindOf x = some .cell ∨ env.kindOf x = some .free) ∧ ∃ c, env.cells.lookup x = some c ∧ h.IsCell c (some u))

structure Cx.Ok (X : Cx) : Prop where
  mod : Mod X.K X.mg X.base
  kind : X.env.scope.kind = .function
  glob : X.env.globals = mainGlobals
  blt : X.env.builtins = builtinsNs
  above : X.s₀.heap.objs.size ≤ X.env.locals
  inj : ∀ x y c, X.env.cells.lookup x = some c → X.env.cells.lookup y = some c → x = y
  has : ∀ x, (X.env.kindOf x = some .cell ∨ X.env.kindOf x = some .free) → ∃ c, X.env.cells.lookup x = some c
  cab : ∀ x c, X.fn x = true → X.env.cells.lookup x = some c → X.s₀.heap.objs.size ≤ c
  hd : X.calm = true → X.A.handled = none
  frames : X.A.frames = some X.stack
  stk : X.stack = X.outer ∨ (X.stack = X.env :: X.outer ∧ X.env.frame = some X.env.locals)
  exf : ∀ b ∈ X.ex, b ≠ X.env.locals ∧ ∀ x c, X.env.cells.lookup x = some c → c ≠ b
  bs : ∀ b o, X.base.get? b = some o → X.s₀.heap.get? b = some o ∧ X.H₀ b = none
  bsz : X.base.objs.size ≤ X.s₀.heap.objs.size
  noex : ∀ b o, X.base.get? b = some o → b ∉ X.ex
  exfs : ∀ b ∈ X.ex, b ∉ X.fs
  funs : X.s₀.heap.FunFrames X.base X.outer
  frf : ∀ b ∈ X.fs, X.H₀ b = none

structure Inv (X : Cx) (pins : List (Addr × Obj)) (σ : List (Option V)) (H : Hp) (s : Shared) : Prop where
  ok : X.Ok
  os : s.os = X.s₀.os
  bare : AllBare s.gens
  base : Un X.fs X.ex X.H₀ H X.s₀.heap s.heap
  loc : ∃ m, s.heap.Ns X.env.locals m ∧ ∀ (i : Nat) (x : Str) (v : V), X.N[i]? = some x → σ[i]? = some (some v) → Vis X.env.scope x → ∃ u, RelV v u ∧ Look X.env s.heap m x u
  cell : ∀ x c, X.env.cells.lookup x = some c → ∃ v, s.heap.IsCell c v
  free : H X.env.locals = none
  freeC : ∀ x c, X.env.cells.lookup x = some c → H c = none
  pin : ∀ p ∈ X.pn ++ pins, s.heap.get? p.1 = some p.2 ∧ H p.1 = none ∧ p.1 ≠ X.env.locals ∧ p.1 ∉ X.fs ∧ ∀ v, p.2.data ≠ .cell v
  hok : HOk X.prog X.w H s.heap
  len : σ.length = X.N.length

section
variable {X : Cx} {pins : List (Addr × Obj)} {σ : List (Option V)} {H H' : Hp} {s : Shared} {h' : Heap}

theorem Cx.Ok.nofr (ok : X.Ok) {b : Addr} {o : Obj} (e : X.base.get? b = some o) : b ∉ X.fs := fun hb => by
  have := (ok.funs.mem hb).1
  rw [e] at this; cases this
theorem Inv.bs (I : Inv X pins σ H s) : ∀ b o, X.base.get? b = some o → s.heap.get? b = some o ∧ H b = none := fun b o e =>
  ⟨I.base.keep b o (I.ok.bs b o e).1 (I.ok.bs b o e).2 (I.ok.nofr e) (I.ok.noex b o e), I.base.free b o (I.ok.bs b o e).1 (I.ok.bs b o e).2 (I.ok.noex b o e)⟩
theorem Inv.bk (I : Inv X pins σ H s) : ∀ b o, X.base.get? b = some o → s.heap.get? b = some o := fun b o e => (I.bs b o e).1
theorem Inv.mod (I : Inv X pins σ H s) : Mod X.K X.mg X.base := I.ok.mod
theorem Inv.kIn (I : Inv X pins σ H s) : X.K.In s.heap := I.ok.mod.kin.keeps I.bk
theorem Inv.lt (I : Inv X pins σ H s) : X.env.locals < s.heap.objs.size := let ⟨_, hn, _⟩ := I.loc; hn.lt
theorem Inv.sz (I : Inv X pins σ H s) : X.s₀.heap.objs.size ≤ s.heap.objs.size := Nat.le_trans I.ok.above (Nat.le_of_lt I.lt)
theorem Inv.nofs (I : Inv X pins σ H s) {a : Addr} (h : s.heap.objs.size ≤ a) : a ∉ X.fs := fun hb => by
  obtain ⟨_, o, ho, _⟩ := I.ok.funs.mem hb
  exact absurd (Nat.lt_of_lt_of_le (Heap.lt_size ho) (Nat.le_trans I.sz h)) (Nat.lt_irrefl _)
theorem Inv.cne (I : Inv X pins σ H s) : ∀ x c, X.env.cells.lookup x = some c → c ≠ X.env.locals := fun x c e z => by
  obtain ⟨v, o, ho, hd⟩ := I.cell x c e
  obtain ⟨m, ⟨o', es, ep, ho', hd', _⟩, _⟩ := I.loc
  rw [z, ho'] at ho; cases ho; rw [hd'] at hd; cases hd
theorem Inv.funs (I : Inv X pins σ H s) : s.heap.FunFrames X.base X.outer := by
  have all : ∀ (l : List Env), (∀ b ∈ frs l, b ∈ X.fs) → X.s₀.heap.FunFrames X.base l → s.heap.FunFrames X.base l := by
    intro l
    induction l with
    | nil => intro _ _; trivial
    | cons env r ih =>
      intro hs hl
      obtain ⟨hk, ⟨L, o, hf, hn, ho, hd⟩, hr⟩ := hl
      have hL : L ∈ X.fs := hs L (by unfold frs; rw [List.filterMap_cons, hf]; exact List.mem_cons_self)
      obtain ⟨sl, e⟩ := I.base.slot L o ho (I.ok.frf L hL) hL fun z => I.ok.exfs L z hL
      exact ⟨hk, ⟨L, _, hf, hn, e, hd⟩, ih (fun b hb => hs b (by unfold frs; rw [List.filterMap_cons, hf]; exact List.mem_cons_of_mem _ hb)) hr⟩
  exact all X.outer (fun _ hb => hb) I.ok.funs

/-- the frames that run, for a call -/
theorem Inv.stack (I : Inv X pins σ H s) : s.heap.FunFrames X.base X.stack := by
  rcases I.ok.stk with e | ⟨e, hf⟩
  · rw [e]; exact I.funs
  · rw [e]
    obtain ⟨m, hn, _⟩ := I.loc
    refine .cons (by rw [I.ok.kind]; decide) hf hn ?_ I.funs
    exact Heap.get?_none_of_le (Nat.le_trans I.ok.bsz I.ok.above)
theorem Inv.stkSub (I : Inv X pins σ H s) : ∀ b ∈ frs X.stack, b ∈ X.env.locals :: X.fs := fun b hb => by
  rcases I.ok.stk with e | ⟨e, hf⟩
  · rw [e] at hb; exact List.mem_cons_of_mem _ hb
  · rw [e] at hb
    unfold frs at hb
    rw [List.filterMap_cons, hf] at hb
    exact hb
theorem Inv.stkFree (I : Inv X pins σ H s) : ∀ b ∈ frs X.stack, H b = none := fun b hb => by
  rcases List.mem_cons.mp (I.stkSub b hb) with e | hb
  · rw [e]; exact I.free
  · obtain ⟨_, o, ho, _⟩ := I.ok.funs.mem hb
    exact I.base.free b o ho (I.ok.frf b hb) fun z => I.ok.exfs b z hb

/-- THE STEP: the untracked objects but the frame and the records at ch are kept (the callers' frames up to slots), the frame's map is kept, the new abstract heap is held -/
theorem Inv.step {g' : Array GenState} {t' : Nat} {d' : Drawn} {ch : List Addr} (I : Inv X pins σ H s)
    (hch : ∀ b ∈ ch, (b ∈ X.ex ∨ X.s₀.heap.objs.size ≤ b) ∧ b ≠ X.env.locals ∧ (∀ x c, X.env.cells.lookup x = some c → c ≠ b) ∧ ∀ p ∈ X.pn ++ pins, p.1 ≠ b)
    (keep : ∀ b o, b ≠ X.env.locals → b ∉ X.fs → b ∉ ch → s.heap.get? b = some o → H b = none → h'.get? b = some o)
    (slot : ∀ b o, b ≠ X.env.locals → b ∈ X.fs → b ∉ ch → s.heap.get? b = some o → H b = none → ∃ sl, h'.get? b = some { o with slots := sl }) (free : ∀ b o, b ∉ ch → s.heap.get? b = some o → H b = none → H' b = none)
    (there : ∀ b o, b ∉ ch → s.heap.get? b = some o → ∃ o', h'.get? b = some o')
    (tups : ∀ b xs, H b = some (.tup xs) → H' b = some (.tup xs)) (frzs : ∀ b o u, H b = some (.frz o u) → H' b = some (.frz o u)) (tbls : ∀ b ps, H b = some (.tbl ps) → ∃ more, H' b = some (.tbl (ps ++ more)))
    (ns : ∀ m, s.heap.Ns X.env.locals m → h'.Ns X.env.locals m) (hok : HOk X.prog X.w H' h') (hg : AllBare g') :
    Inv X pins σ H' { s with heap := h', gens := g', drawn := d', toks := t' } := by
  have neL : ∀ b o, X.s₀.heap.get? b = some o → b ≠ X.env.locals := fun b o e => Nat.ne_of_lt (Nat.lt_of_lt_of_le (Heap.lt_size e) I.ok.above)
  have neC : ∀ b o, X.s₀.heap.get? b = some o → b ∉ X.ex → b ∉ ch := fun b o e hx hb => by
    rcases (hch b hb).1 with z | z
    · exact hx z
    · exact absurd (Nat.lt_of_lt_of_le (Heap.lt_size e) z) (Nat.lt_irrefl _)
  have cellK : ∀ x c, X.env.cells.lookup x = some c → ∀ v, s.heap.IsCell c v → h'.IsCell c v := fun x c e v ⟨o, ho, hd⟩ => by
    have nch : c ∉ ch := fun z => (hch c z).2.2.1 x c e rfl
    by_cases hc : c ∈ X.fs
    · obtain ⟨sl, q⟩ := slot c o (I.cne x c e) hc nch ho (I.freeC x c e)
      exact ⟨_, q, hd⟩
    · exact ⟨o, keep c o (I.cne x c e) hc nch ho (I.freeC x c e), hd⟩
  refine ⟨I.ok, I.os, hg, ⟨fun b o e n hb hx => ?_, fun b o e n hb hx => ?_, fun b o e n hx => ?_, fun b o e hx => ?_, fun b xs e => tups b xs (I.base.tups b xs e), fun b o xs e => frzs b o xs (I.base.frzs b o xs e), fun b ps e => ?_⟩, ?_, fun x c e => ?_, ?_, fun x c e => ?_, fun p hp => ?_, hok, I.len⟩
  · exact keep b o (neL b o e) hb (neC b o e hx) (I.base.keep b o e n hb hx) (I.base.free b o e n hx)
  · obtain ⟨sl, e1⟩ := I.base.slot b o e n hb hx
    obtain ⟨sl', e2⟩ := slot b _ (neL b o e) hb (neC b o e hx) e1 (I.base.free b o e n hx)
    exact ⟨sl', e2⟩
  · obtain ⟨o', e1⟩ := I.base.there b o e hx
    exact free b o' (neC b o e hx) e1 (I.base.free b o e n hx)
  · obtain ⟨o', e1⟩ := I.base.there b o e hx
    exact there b o' (neC b o e hx) e1
  · obtain ⟨m1, e1⟩ := I.base.tbls b ps e
    obtain ⟨m2, e2⟩ := tbls b _ e1
    exact ⟨m1 ++ m2, by rw [e2, Array.append_assoc]⟩
  · obtain ⟨m, hn, hl⟩ := I.loc
    refine ⟨m, ns m hn, fun i x v e1 e2 e3 => ?_⟩
    obtain ⟨u, r, l⟩ := hl i x v e1 e2 e3
    refine ⟨u, r, ?_⟩
    rcases l with l | ⟨k, c, e, z⟩
    · exact .inl l
    · exact .inr ⟨k, c, e, cellK x c e _ z⟩
  · obtain ⟨v, z⟩ := I.cell x c e
    exact ⟨v, cellK x c e v z⟩
  · obtain ⟨m, ⟨o, _, _, ho, _⟩, _⟩ := I.loc
    exact free _ o (fun z => (hch _ z).2.1 rfl) ho I.free
  · obtain ⟨v, o, ho, hd⟩ := I.cell x c e
    exact free c o (fun z => (hch c z).2.2.1 x c e rfl) ho (I.freeC x c e)
  · obtain ⟨e, n, ne, nf, d⟩ := I.pin p hp
    have nch : p.1 ∉ ch := fun z => (hch p.1 z).2.2.2 p hp rfl
    exact ⟨keep p.1 p.2 ne nf nch e n, free p.1 p.2 nch e n, ne, nf, d⟩
/-- .. where the frame's own object is kept too -/
theorem Inv.un {t' : Nat} (I : Inv X pins σ H s) (u : Un X.fs [] H H' s.heap h') (hok : HOk X.prog X.w H' h') : Inv X pins σ H' { s with heap := h', toks := t' } := by
  obtain ⟨m, ⟨o, es, ep, ho, r⟩, _⟩ := id I.loc
  obtain ⟨sl, hL⟩ := u.any ho I.free (by simp)
  exact I.step (g' := s.gens) (d' := s.drawn) (ch := []) (fun _ z => nomatch z) (fun b o _ hb _ e n => u.keep b o e n hb (by simp)) (fun b o _ hb _ e n => u.slot b o e n hb (by simp)) (fun b o _ e n => u.free b o e n (by simp)) (fun b o _ e => u.there b o e (by simp)) u.tups u.frzs u.tbls (fun m' hm => by
    obtain ⟨o', es', ep', ho', r'⟩ := hm
    rw [ho] at ho'; cases ho'
    exact ⟨_, es', ep', hL, r'⟩) hok I.bare
/-- behind a call (or a comprehension's block): the slots of this frame may have changed too, the records at ch may have turned -/
theorem Inv.call {g' : Array GenState} {t' : Nat} {d' : Drawn} {ch : List Addr} (I : Inv X pins σ H s) (u : Un (frs X.stack) ch H H' s.heap h') (hok : HOk X.prog X.w H' h') (hg : AllBare g')
    (hch : ∀ b ∈ ch, (b ∈ X.ex ∨ X.s₀.heap.objs.size ≤ b) ∧ b ≠ X.env.locals ∧ (∀ x c, X.env.cells.lookup x = some c → c ≠ b) ∧ ∀ p ∈ X.pn ++ pins, p.1 ≠ b) :
    Inv X pins σ H' { s with heap := h', gens := g', drawn := d', toks := t' } := by
  obtain ⟨m, ⟨o, es, ep, ho, r⟩, _⟩ := id I.loc
  obtain ⟨sl, hL⟩ := u.any ho I.free fun z => (hch _ z).2.1 rfl
  exact I.step (ch := ch) hch (fun b o hL hb hc e n => u.keep b o e n (fun z => (List.mem_cons.mp (I.stkSub b z)).elim hL hb) hc) (fun b o _ _ hc e n => u.any e n hc) (fun b o hc e n => u.free b o e n hc) (fun b o hc e => u.there b o e hc) u.tups u.frzs u.tbls (fun m' hm => by
    obtain ⟨o', es', ep', ho', r'⟩ := hm
    rw [ho] at ho'; cases ho'
    exact ⟨_, es', ep', hL, r'⟩) hok hg
/-- an untracked record of ours (an iterator) has turned -/
theorem Inv.turned {t' : Nat} {it : Addr} (I : Inv X pins σ H s) (k : ∀ b o, b ≠ it → s.heap.get? b = some o → h'.get? b = some o) (hn : H it = none) (hL : it ≠ X.env.locals)
    (h1 : it ∈ X.ex ∨ X.s₀.heap.objs.size ≤ it) (h2 : ∀ x c, X.env.cells.lookup x = some c → c ≠ it) (h3 : ∀ p ∈ X.pn ++ pins, p.1 ≠ it) : Inv X pins σ H { s with heap := h', toks := t' } := by
  have nit : ∀ b u, H b = some u → b ≠ it := fun b u e z => by rw [z, hn] at e; cases e
  refine I.step (g' := s.gens) (d' := s.drawn) (ch := [it]) (fun b hb => ?_) (fun b o _ _ hc e _ => k b o (fun z => hc (by simp [z])) e) (fun b o _ _ hc e _ => ⟨o.slots, k b o (fun z => hc (by simp [z])) e⟩) (fun _ _ _ _ n => n)
    (fun b o hc e => ⟨o, k b o (fun z => hc (by simp [z])) e⟩) (fun _ _ e => e) (fun _ _ _ e => e) (fun b ps e => ⟨#[], by rw [e]; simp⟩) (fun m hm => ?_) (fun b u e => ?_) I.bare
  · have e : b = it := by simpa using hb
    subst e
    exact ⟨h1, hL, h2, h3⟩
  · obtain ⟨o, es, ep, ho, r⟩ := hm
    exact ⟨o, es, ep, k _ o (Ne.symm hL) ho, r⟩
  · refine (I.hok b u e).stay (fun c v hc q => k c v ?_ q) (fun _ q => q) fun _ _ q => q
    rcases hc with z | z
    · rw [z]; exact nit b u e
    · exact nit c _ z
theorem Inv.tok (I : Inv X pins σ H s) (t : Nat) : Inv X pins σ H { s with toks := t } := I.un (h' := s.heap) (t' := t) Un.refl I.hok
/-- all objects kept -/
theorem Inv.kept {t' : Nat} (I : Inv X pins σ H s) (k : ∀ b u, s.heap.get? b = some u → h'.get? b = some u) : Inv X pins σ H { s with heap := h', toks := t' } := I.un (Un.kept k) (I.hok.kept k)
/-- a new object laid and tracked -/
theorem Inv.laid {a : Addr} {o : HO} {t' : Nat} (I : Inv X pins σ H s) (k : ∀ b u, s.heap.get? b = some u → h'.get? b = some u) (hp : s.heap.objs.size ≤ a) (new : ObjOk X.prog X.w (upd H a o) h' a o) :
    Inv X pins σ (upd H a o) { s with heap := h', toks := t' } := I.un (Un.laid k hp (I.hok.fresh hp)) (I.hok.laid k hp new)
/-- an object written -/
theorem Inv.write {x e : Addr} {o : HO} {t' : Nat} (I : Inv X pins σ H s) (mu : Mut (H x)) (he : e = x ∨ H e = some (.own x)) (k : ∀ b u, b ≠ e → s.heap.get? b = some u → h'.get? b = some u) (heo : ∃ u, h'.get? e = some u)
    (new : ObjOk X.prog X.w (upd H x o) h' x o) : Inv X pins σ (upd H x o) { s with heap := h', toks := t' } := I.un (Un.write mu he k heo) (I.hok.write mu he k heo new)
theorem Inv.pins_of {pins' : List (Addr × Obj)} (I : Inv X pins σ H s) (h : ∀ p ∈ pins', s.heap.get? p.1 = some p.2 ∧ H p.1 = none ∧ p.1 ≠ X.env.locals ∧ p.1 ∉ X.fs ∧ ∀ v, p.2.data ≠ .cell v) : Inv X pins' σ H s :=
  ⟨I.ok, I.os, I.bare, I.base, I.loc, I.cell, I.free, I.freeC, fun p hp => (List.mem_append.mp hp).elim (fun z => I.pin p (List.mem_append_left _ z)) (h p), I.hok, I.len⟩

theorem nodup_ix {N : List Str} (hN : N.Nodup) {i j : Nat} {x : Str} (a : N[i]? = some x) (b : N[j]? = some x) : i = j := by
  obtain ⟨h1, e1⟩ := List.getElem?_eq_some_iff.mp a
  obtain ⟨h2, e2⟩ := List.getElem?_eq_some_iff.mp b
  exact (List.getElem_inj hN).mp (e1.trans e2.symm)

/-- a name is stored; what changed -/
theorem store_ok2 {M : Model} {A : Around} {E : Value → Shared → Prop} {i : Nat} {x : Str} {v : V} {u : Value} {Q : Unit → Shared → Prop} (I : Inv X pins σ H s) (hN : X.N.Nodup) (hi : X.N[i]? = some x) (hx : Loc X.env.scope x) (r : RelV v u)
    (h : ∀ s', Inv X pins (σ.set i (some v)) H s' → (∃ a, Heap.SameBut a s.heap s'.heap ∧ (a = X.env.locals ∨ X.env.cells.lookup x = some a)) → Q () s') (hf : X.fn x = true ∨ X.env.scope.names.lookup x = some .local := by first | exact .inl rfl | exact .inr rfl | assumption) : wpAny M A (storeName X.env x u) Q E s := by
  obtain ⟨m, hn, hl⟩ := id I.loc
  have hcls : (X.env.scope.kind == .class || (X.env.scope.kind == .module && X.env.locals != X.env.globals)) = false := by rw [I.ok.kind]; rfl
  have hiσ : i < σ.length := by rw [I.len]; exact (List.getElem?_eq_some_iff.mp hi).1
  have cne := I.cne
  have tracked : ∀ {a : Addr} {h' : Heap}, (∃ o, s.heap.get? a = some o ∧ H a = none) → Heap.SameBut a s.heap h' → HOk X.prog X.w H h' := fun {a h'} ha hs b ob e => by
    obtain ⟨_, _, hfree⟩ := ha
    refine (I.hok b ob e).stay (fun c w' hc q => (hs.2 c ?_).trans q) (fun _ q => q) fun _ _ q => q
    rintro rfl
    rcases hc with rfl | hc
    · rw [hfree] at e; cases e
    · rw [hfree] at hc; cases hc
  rcases hx with hk | hk
  · refine wpAny_storeName_local hk hn (fun h' hn' hs => ?_) hcls
    obtain ⟨oL, _, _, hoL, _⟩ := id hn
    refine h _ ⟨I.ok, I.os, I.bare, ⟨fun b o e n hb hx => ?_, fun b o e n hb hx => ?_, I.base.free, fun b o e hx => ?_, I.base.tups, I.base.frzs, I.base.tbls⟩, ⟨_, hn', fun j y v' e1 e2 e3 => ?_⟩, fun y c e => ?_, I.free, I.freeC, fun p hp => ?_, tracked ⟨oL, hoL, I.free⟩ hs, by simpa using I.len⟩ ⟨_, hs, .inl rfl⟩
    · exact (hs.2 b (Nat.ne_of_lt (Nat.lt_of_lt_of_le (Heap.lt_size e) I.ok.above))).trans (I.base.keep b o e n hb hx)
    · obtain ⟨sl, e1⟩ := I.base.slot b o e n hb hx
      exact ⟨sl, (hs.2 b (Nat.ne_of_lt (Nat.lt_of_lt_of_le (Heap.lt_size e) I.ok.above))).trans e1⟩
    · obtain ⟨o', e1⟩ := I.base.there b o e hx
      exact ⟨o', (hs.2 b (Nat.ne_of_lt (Nat.lt_of_lt_of_le (Heap.lt_size e) I.ok.above))).trans e1⟩
    · by_cases hj : j = i
      · subst hj
        rw [hi] at e1; cases e1
        rw [List.getElem?_set_self hiσ] at e2
        cases e2
        exact ⟨u, r, .inl ⟨hk, by simp⟩⟩
      · rw [List.getElem?_set_ne (Ne.symm hj)] at e2
        obtain ⟨u', r', q⟩ := hl j y v' e1 e2 e3
        refine ⟨u', r', ?_⟩
        rcases q with ⟨k, e⟩ | ⟨k, c, e, z⟩
        · refine .inl ⟨k, ?_⟩
          have : y ≠ x := fun e => hj (nodup_ix hN e1 (e ▸ hi))
          simp [this, e]
        · exact .inr ⟨k, c, e, z.sameBut hs (cne y c e)⟩
    · obtain ⟨w', z⟩ := I.cell y c e
      exact ⟨w', z.sameBut hs (cne y c e)⟩
    · obtain ⟨e, n, ne, nf, d⟩ := I.pin p hp
      exact ⟨(hs.2 p.1 ne).trans e, n, ne, nf, d⟩
  · have hfn : X.fn x = true := by
      rcases hf with z | z
      · exact z
      · rw [z] at hk; cases hk
    obtain ⟨c, hc⟩ := I.ok.has x (.inl hk)
    obtain ⟨w', z⟩ := I.cell x c hc
    refine wpAny_storeName_cell I.ok.kind hk hc z (fun h' hc' hs => ?_)
    obtain ⟨oc, hoc, hocd⟩ := id z
    refine h { s with heap := h' } ⟨I.ok, I.os, I.bare, ⟨fun b o e n hb hx => ?_, fun b o e n hb hx => ?_, I.base.free, fun b o e hx => ?_, I.base.tups, I.base.frzs, I.base.tbls⟩, ⟨m, hn.sameBut hs (Ne.symm (cne x c hc)), fun j y v' e1 e2 e3 => ?_⟩, fun y c' e => ?_, I.free, I.freeC, fun p hp => ?_, tracked ⟨oc, hoc, I.freeC x c hc⟩ hs, by simpa using I.len⟩ ⟨c, hs, .inr hc⟩
    · exact (hs.2 b (Nat.ne_of_lt (Nat.lt_of_lt_of_le (Heap.lt_size e) (I.ok.cab x c hfn hc)))).trans (I.base.keep b o e n hb hx)
    · obtain ⟨sl, e1⟩ := I.base.slot b o e n hb hx
      exact ⟨sl, (hs.2 b (Nat.ne_of_lt (Nat.lt_of_lt_of_le (Heap.lt_size e) (I.ok.cab x c hfn hc)))).trans e1⟩
    · obtain ⟨o', e1⟩ := I.base.there b o e hx
      exact ⟨o', (hs.2 b (Nat.ne_of_lt (Nat.lt_of_lt_of_le (Heap.lt_size e) (I.ok.cab x c hfn hc)))).trans e1⟩
    · by_cases hj : j = i
      · subst hj
        rw [hi] at e1; cases e1
        rw [List.getElem?_set_self hiσ] at e2
        cases e2
        exact ⟨u, r, .inr ⟨.inl hk, c, hc, hc'⟩⟩
      · rw [List.getElem?_set_ne (Ne.symm hj)] at e2
        obtain ⟨u', r', q⟩ := hl j y v' e1 e2 e3
        refine ⟨u', r', ?_⟩
        rcases q with q | ⟨k, c', e, z'⟩
        · exact .inl q
        · refine .inr ⟨k, c', e, z'.sameBut hs ?_⟩
          rintro rfl
          exact hj (nodup_ix hN e1 (I.ok.inj _ _ _ e hc ▸ hi))
    · by_cases hcc : c' = c
      · subst hcc; exact ⟨_, hc'⟩
      · obtain ⟨w2, z2⟩ := I.cell y c' e
        exact ⟨w2, z2.sameBut hs hcc⟩
    · obtain ⟨e, n, ne, nf, d⟩ := I.pin p hp
      refine ⟨(hs.2 p.1 ?_).trans e, n, ne, nf, d⟩
      intro q
      rw [q, hoc] at e
      have q' : oc = p.2 := Option.some.inj e
      exact d w' (by rw [← q']; exact hocd)
theorem store_ok {M : Model} {A : Around} {E : Value → Shared → Prop} {i : Nat} {x : Str} {v : V} {u : Value} {Q : Unit → Shared → Prop} (I : Inv X pins σ H s) (hN : X.N.Nodup) (hi : X.N[i]? = some x) (hx : Loc X.env.scope x) (r : RelV v u)
    (h : ∀ s', Inv X pins (σ.set i (some v)) H s' → Q () s') (hf : X.fn x = true ∨ X.env.scope.names.lookup x = some .local := by first | exact .inl rfl | exact .inr rfl | assumption) : wpAny M A (storeName X.env x u) Q E s :=
  store_ok2 I hN hi hx r (fun s' I' _ => h s' I') hf
/-- behind a call or a block, the state as it is -/
theorem Inv.call' {s' : Shared} {ch : List Addr} (I : Inv X pins σ H s) (ho : s'.os = s.os) (u : Un (frs X.stack) ch H H' s.heap s'.heap) (hok : HOk X.prog X.w H' s'.heap) (hg : AllBare s'.gens)
    (hch : ∀ b ∈ ch, (b ∈ X.ex ∨ X.s₀.heap.objs.size ≤ b) ∧ b ≠ X.env.locals ∧ (∀ x c, X.env.cells.lookup x = some c → c ≠ b) ∧ ∀ p ∈ X.pn ++ pins, p.1 ≠ b) : Inv X pins σ H' s' := by
  obtain ⟨h', g', d', t', o'⟩ := s'
  have e : o' = s.os := ho
  subst e
  exact I.call (g' := g') (t' := t') (d' := d') u hok hg hch
end

/-! ### the judgements -/
/-- an exception: its class, its own dict's address (where it has one), the abstract heap behind it -/
abbrev XK := Value → Option Addr → Hp → Prop
abbrev St := List (Option V)
abbrev VK := V → Hp → Prop
/-- an expression's reading; a test's; an argument list's -/
abbrev TE := St → Hp → VK → Prop
abbrev TT := St → Hp → (Bool → Hp → Prop) → Prop
abbrev TA := St → Hp → (List V → Hp → Prop) → Prop
/-- what is wanted behind a statement -/
structure Ends where
  nx : St → Hp → Prop
  rt : VK
  bk : St → Hp → Prop := fun _ _ => False
  ct : St → Hp → Prop := fun _ _ => False
abbrev TS := Ends → St → Hp → Prop

def EP (X : Cx) (pins : List (Addr × Obj)) (σ : St) (Q : VK) (u : Value) (s' : Shared) : Prop := ∃ v H', Inv X pins σ H' s' ∧ RelV v u ∧ Q v H'
def TP (X : Cx) (pins : List (Addr × Obj)) (σ : St) (Q : Bool → Hp → Prop) (b : Bool) (s' : Shared) : Prop := ∃ H', Inv X pins σ H' s' ∧ Q b H'
def AP (X : Cx) (pins : List (Addr × Obj)) (σ : St) (Q : List V → Hp → Prop) (us : List Value) (s' : Shared) : Prop := ∃ vs H', Inv X pins σ H' s' ∧ Vals vs us ∧ Q vs H'
def SP (X : Cx) (pins : List (Addr × Obj)) (D : Ends) (f : Flow) (s' : Shared) : Prop :=
  match f with
  | .next => ∃ σ' H', Inv X pins σ' H' s' ∧ D.nx σ' H'
  | .brk => ∃ σ' H', Inv X pins σ' H' s' ∧ D.bk σ' H'
  | .cont => ∃ σ' H', Inv X pins σ' H' s' ∧ D.ct σ' H'
  | .ret u => ∃ v σ' H', Inv X pins σ' H' s' ∧ RelV v u ∧ D.rt v H'

def PE (X : Cx) (e : Expr) (t : TE) : Prop :=
  ∀ (pins : List (Addr × Obj)) (s : Shared) (σ : St) (H : Hp) (Q : VK), Inv X pins σ H s → t σ H Q → wpAny (model X.prog X.w) X.A (eval e X.env) (EP X pins σ Q) X.xe s
def PT (X : Cx) (e : Expr) (t : TT) : Prop :=
  ∀ (pins : List (Addr × Obj)) (s : Shared) (σ : St) (H : Hp) (Q : Bool → Hp → Prop), Inv X pins σ H s → t σ H Q → wpAny (model X.prog X.w) X.A (isTrue e X.env (eval e X.env)) (TP X pins σ Q) X.xe s
/-- a test whatever its 'whole' is (and, or) -/
def PW (X : Cx) (e : Expr) (t : TT) : Prop :=
  ∀ (whole : Sem Value) (pins : List (Addr × Obj)) (s : Shared) (σ : St) (H : Hp) (Q : Bool → Hp → Prop), Inv X pins σ H s → t σ H Q → wpAny (model X.prog X.w) X.A (isTrue e X.env whole) (TP X pins σ Q) X.xe s
theorem PW.pt {X : Cx} {e : Expr} {t : TT} (h : PW X e t) : PT X e t := h _
/-- an argument list (no star), from the left -/
def PA (X : Cx) (es : List Expr) (t : TA) : Prop :=
  ∀ (pos : Pos) (pins : List (Addr × Obj)) (s : Shared) (σ : St) (H : Hp) (Q : List V → Hp → Prop), Inv X pins σ H s → t σ H Q → wpAny (model X.prog X.w) X.A (spliced (backTo pos (starEach es X.env))) (AP X pins σ Q) X.xe s
def PS (X : Cx) (st : Stmt) (t : TS) : Prop :=
  ∀ (pins : List (Addr × Obj)) (s : Shared) (σ : St) (H : Hp) (D : Ends), Inv X pins σ H s → t D σ H → wpAny (model X.prog X.w) X.A (exec st X.env) (SP X pins D) X.xe s
def PSs (X : Cx) (st : List Stmt) (t : TS) : Prop :=
  ∀ (pins : List (Addr × Obj)) (s : Shared) (σ : St) (H : Hp) (D : Ends), Inv X pins σ H s → t D σ H → wpAny (model X.prog X.w) X.A (execs st X.env) (SP X pins D) X.xe s
/-- weaken the end -/
theorem thn {α : Type} {t : Sem α} {Q Q' : α → Shared → Prop} {M : Model} {A : Around} {E : Value → Shared → Prop} {s : Shared} (h : wpAny M A t Q E s) (hQ : ∀ a s, Q a s → Q' a s) : wpAny M A t Q' E s := wpAny_mono h hQ fun _ _ x => x
end L2

namespace L2
open PySem PySem.Spec PyProof.Rows
section
variable {X : Cx}

/-- two expressions in a row -/
theorem bin {a b : Expr} {ta tb : TE} (ha : PE X a ta) (hb : PE X b tb) {pins : List (Addr × Obj)} {s : Shared} {σ : St} {H : Hp} {R : V → V → Hp → Prop} (I : Inv X pins σ H s) (h : ta σ H fun x H1 => tb σ H1 fun y H2 => R x y H2)
    {α : Type} {Q : α → Shared → Prop} {f : Value → Value → Sem α}
    (hf : ∀ v u s2 x y H2, Inv X pins σ H2 s2 → RelV x v → RelV y u → R x y H2 → wpAny (model X.prog X.w) X.A (f v u) Q X.xe s2) :
    wpAny (model X.prog X.w) X.A (eval a X.env) (fun v s₁ => wpAny (model X.prog X.w) X.A (eval b X.env) (fun u s₂ => wpAny (model X.prog X.w) X.A (f v u) Q X.xe s₂) X.xe s₁) X.xe s := by
  refine thn (ha pins s σ H _ I h) fun v s1 ⟨x, H1, I1, r1, q1⟩ => ?_
  refine thn (hb pins s1 σ H1 _ I1 q1) fun u s2 ⟨y, H2, I2, r2, q2⟩ => ?_
  exact hf v u s2 x y H2 I2 r1 r2 q2

/-! ### names and constants -/
def tVar (i : Nat) : TE := fun σ H Q => ∃ v, σ[i]? = some (some v) ∧ Q v H
def tC (v : V) : TE := fun _ H Q => Q v H
theorem pe_var {i : Nat} {x : Str} {pos : Pos} (hN : X.N[i]? = some x) (hv : Vis X.env.scope x) (hd : (x == ("__debug__" : Str)) = false := by decide) (hcd : (x == ("__classdict__" : Str)) = false := by decide) : PE X (.Name x pos) (tVar i) := by
  intro pins s σ H Q I h
  obtain ⟨v, e, h⟩ := h
  obtain ⟨m, hn, hl⟩ := I.loc
  obtain ⟨u, r, l⟩ := hl i x v hN e hv
  have fin : EP X pins σ Q u s := ⟨v, H, I, r, h⟩
  rcases l with ⟨hk, hm⟩ | ⟨hk, c, hc, hcell⟩
  · exact wpAny_Name (wpAny_loadName_local I.ok.kind hk hn hm fin) hd
  · rcases hk with hk | hk
    · exact wpAny_Name (wpAny_loadName_cell I.ok.kind hk hc hcell fin) hd
    · exact wpAny_Name (wpAny_loadName_free I.ok.kind hk hc hcell fin hcd) hd
theorem pe_int {i j pos} : PE X (.Constant (.int i) j pos) (tC (.int i)) := fun _ _ _ H _ I h => wpAny_Constant_int ⟨.int i, H, I.tok _, ⟨_, rfl⟩, h⟩
theorem pe_bl {b j pos} : PE X (.Constant (.bool b) j pos) (tC (.bl b)) := fun _ _ _ H _ I h => Constant_bool ⟨.bl b, H, I, rfl, h⟩
theorem pe_non {j pos} : PE X (.Constant .none j pos) (tC .non) := fun _ _ _ H _ I h => Constant_none ⟨.non, H, I, rfl, h⟩
theorem pe_str {x j pos} : PE X (.Constant (.str x) j pos) (tC (.str x)) := fun _ _ _ H _ I h => Calls.Constant_str ⟨.str x, H, I.tok _, ⟨_, rfl⟩, h⟩

/-- a global name of the def -/
def Gl (X : Cx) (x : Str) : Prop := X.env.kindOf x = some .globalImplicit
theorem ld_glob {E : Value → Shared → Prop} {pins : List (Addr × Obj)} {s : Shared} {σ : St} {H : Hp} {x : Str} {u : Value} {pos : Pos} {Q : Value → Shared → Prop} (I : Inv X pins σ H s) (hg : Gl X x) (hm : X.mg x = some u) (h : Q u s)
    (hd : (x == ("__debug__" : Str)) = false := by decide) : wpAny (model X.prog X.w) X.A (eval (.Name x pos) X.env) Q E s :=
  Calls.Name_function_global I.ok.kind hg (Calls.loadGlobal_global (by rw [I.ok.glob]; exact I.mod.glob.keeps I.bk) hm h) hd
theorem ld_blt {E : Value → Shared → Prop} {pins : List (Addr × Obj)} {s : Shared} {σ : St} {H : Hp} {x : Str} {u : Value} {pos : Pos} {Q : Value → Shared → Prop} (I : Inv X pins σ H s) (hg : Gl X x) (hm : X.mg x = none) (hv : bootBuiltins x = some u) (h : Q u s)
    (hn : x ≠ "__name__" := by decide) (hd : (x == ("__debug__" : Str)) = false := by decide) : wpAny (model X.prog X.w) X.A (eval (.Name x pos) X.env) Q E s := by
  obtain ⟨mb, h1, h2⟩ := I.mod.blt
  exact Calls.Name_function_global I.ok.kind hg (Calls.loadGlobal_builtin (by rw [I.ok.glob]; exact I.mod.glob.keeps I.bk) hm (by rw [I.ok.blt]; exact h1.keeps I.bk) ((h2 x hn).trans hv) h) hd
theorem pe_bltn {x : Str} {v : V} {u : Value} {pos : Pos} (hg : Gl X x) (hm : X.mg x = none) (hv : bootBuiltins x = some u) (r : RelV v u) (hn : x ≠ "__name__" := by decide) (hd : (x == ("__debug__" : Str)) = false := by decide) : PE X (.Name x pos) (tC v) :=
  fun _ _ _ H _ I h => ld_blt I hg hm hv ⟨v, H, I, r, h⟩ hn hd

variable {a b : Expr} {ta tb : TE} {pos : Pos}
/-! ### comparisons -/
def PC (X : Cx) (op : CmpOp) (a b : Expr) (t : TE) : Prop :=
  ∀ (pins : List (Addr × Obj)) (s : Shared) (σ : St) (H : Hp) (Q : VK), Inv X pins σ H s → t σ H Q →
    wpAny (model X.prog X.w) X.A (eval a X.env) (fun v s₁ => wpAny (model X.prog X.w) X.A (eval b X.env) (fun u s₂ => wpAny (model X.prog X.w) X.A (compareOp op v u) (EP X pins σ Q) X.xe s₂) X.xe s₁) X.xe s
theorem nobehind (b : Expr) {op : CmpOp} (h : op ≠ .In) (h2 : op ≠ .NotIn) : behindInMarks op b = false := by
  have e1 : (op == CmpOp.In) = false := by cases op <;> first | rfl | exact absurd rfl h
  have e2 : (op == CmpOp.NotIn) = false := by cases op <;> first | rfl | exact absurd rfl h2
  cases b <;> simp [behindInMarks, e1, e2]
/-- a comparison as a value, as a test -/
def tB (t : TE) : TT := fun σ H Q => t σ H fun x H1 => ∃ c, x = .bl c ∧ Q c H1
theorem pt_cmp {op : CmpOp} {t : TE} (h : PC X op a b t) (h1 : behindInMarks op b = false := by first | exact nobehind _ (by decide) (by decide) | rfl) : PT X (.Compare a [op] [b] pos) (tB t) := by
  intro pins s σ H Q I hw
  refine wpAny_isTrue_Compare1 (thn (h pins s σ H _ I hw) fun v s1 h1 => thn h1 fun u s2 h2 => thn h2 fun c s3 ⟨x, H1, I1, r1, q1⟩ => ?_) h1
  obtain ⟨d, rfl, q⟩ := q1
  cases r1
  exact wpAny_truthy_bool ⟨H1, I1, q⟩
/-- an expression whose value is a bool, as a test -/
theorem pt_val {e : Expr} {t : TE} (h : PE X e t) (he : ∀ whole, isTrue e X.env whole = (do let v ← whole; standAt e.pos; holding [v] (truthy v)) := by intro _; rfl) : PT X e (tB t) := by
  intro pins s σ H Q I hw
  refine isTrue_plain (thn (h pins s σ H _ I hw) fun v s1 ⟨x, H1, I1, r1, q1⟩ => ?_) (he _)
  obtain ⟨d, rfl, q⟩ := q1
  cases r1
  exact wpAny_truthy_bool ⟨H1, I1, q⟩

/-! ### and, or, not -/
variable {tA tB' : TT} {rest : List Expr}
def tAnd (t u : TT) : TT := fun σ H Q => t σ H fun c H1 => if c = true then u σ H1 Q else Q false H1
def tOr (t u : TT) : TT := fun σ H Q => t σ H fun c H1 => if c = true then Q true H1 else u σ H1 Q
def tNot (t : TT) : TT := fun σ H Q => t σ H fun c H1 => Q (!c) H1
theorem pw_and1 (ha : PT X a tA) : PW X (.BoolOp .And [a] pos) tA := by
  intro wh pins s σ H Q I h
  refine isTrue_and (thn (ha pins s σ H Q I h) fun c s1 e => ?_)
  cases c with
  | true => exact isTrue_and_nil e
  | false => exact e
theorem pw_or1 (ha : PT X a tA) : PW X (.BoolOp .Or [a] pos) tA := by
  intro wh pins s σ H Q I h
  refine isTrue_or (thn (ha pins s σ H Q I h) fun c s1 e => ?_)
  cases c with
  | false => exact isTrue_or_nil e
  | true => exact e
theorem pw_and (ha : PT X a tA) (hb : PW X (.BoolOp .And (b :: rest) pos) tB') : PW X (.BoolOp .And (a :: b :: rest) pos) (tAnd tA tB') := by
  intro wh pins s σ H Q I h
  refine isTrue_and (thn (ha pins s σ H _ I h) fun c s1 ⟨H1, I1, q1⟩ => ?_)
  cases c with
  | true => exact hb wh pins s1 σ H1 Q I1 q1
  | false => exact ⟨H1, I1, q1⟩
theorem pw_or (ha : PT X a tA) (hb : PW X (.BoolOp .Or (b :: rest) pos) tB') : PW X (.BoolOp .Or (a :: b :: rest) pos) (tOr tA tB') := by
  intro wh pins s σ H Q I h
  refine isTrue_or (thn (ha pins s σ H _ I h) fun c s1 ⟨H1, I1, q1⟩ => ?_)
  cases c with
  | true => exact ⟨H1, I1, q1⟩
  | false => exact hb wh pins s1 σ H1 Q I1 q1
theorem pt_not (ha : PT X a tA) : PT X (.UnaryOp .Not a pos) (tNot tA) := by
  intro pins s σ H Q I h
  exact isTrue_not (ha pins s σ H (fun c H1 => Q (!c) H1) I h)
/-- .. as values (bools) -/
def tAndV (ta tb : TE) : TE := fun σ H Q => ta σ H fun x H1 => ∃ c, x = .bl c ∧ if c = true then tb σ H1 Q else Q (.bl false) H1
theorem pe_one {op} {t : TE} (h : PE X a t) : PE X (.BoolOp op [a] pos) t := fun pins s σ H Q I hw => BoolOp_one (h pins s σ H Q I hw)
theorem pe_and (ha : PE X a ta) (hb : PE X (.BoolOp .And (b :: rest) pos) tb) : PE X (.BoolOp .And (a :: b :: rest) pos) (tAndV ta tb) := by
  intro pins s σ H Q I h
  refine BoolOp_and (thn (ha pins s σ H _ I h) fun v s1 ⟨x, H1, I1, r1, q1⟩ => ?_)
  obtain ⟨c, rfl, q1⟩ := q1
  cases r1
  refine wpAny_truthy_bool ?_
  cases c with
  | true => exact hb pins s1 σ H1 Q I1 q1
  | false => exact ⟨.bl false, H1, I1, rfl, q1⟩
/-- a if t else b -/
def tIf (t : TT) (ta tb : TE) : TE := fun σ H Q => t σ H fun c H1 => if c = true then ta σ H1 Q else tb σ H1 Q
theorem pe_ifExp {c : Expr} (hc : PT X c tA) (ha : PE X a ta) (hb : PE X b tb) : PE X (.IfExp c a b pos) (tIf tA ta tb) := by
  intro pins s σ H Q I h
  refine wpAny_IfExp (thn (hc pins s σ H _ I h) fun d s1 ⟨H1, I1, q1⟩ => ?_)
  cases d with
  | true => exact ha pins s1 σ H1 Q I1 q1
  | false => exact hb pins s1 σ H1 Q I1 q1
end
end L2

namespace L2
open PySem PySem.Spec PyProof.Rows

/-! ### a list, a tuple that is read: tracked, frozen, or an object of the module -/
def SqL (K : PySem.W.Frag) (H : Hp) (a : Addr) (xs : List V) : Prop :=
  Rd H a (.lst xs) ∨
    ∃ (o : Obj) (its : Array Value) (n : Nat), K.lookup a = some o ∧ o.cls = .type "list" ∧ o.dict = none ∧ o.data = .seq its n ∧ its.size ≤ sizeLine ∧ Vals xs its.toList
def SqT (K : PySem.W.Frag) (H : Hp) (a : Addr) (xs : List V) : Prop :=
  Rd H a (.tup xs) ∨
    ∃ (o : Obj) (its : Array Value) (n : Nat), K.lookup a = some o ∧ o.cls = .type "tuple" ∧ o.data = .seq its n ∧ its.size ≤ sizeLine ∧ Vals xs its.toList
def absV : Value → Option V
  | .none => some .non
  | .bool b => some (.bl b)
  | .int i _ => some (.int i)
  | .str x _ => some (.str x)
  | .bytes b _ => some (.byt b)
  | .float b _ => some (.flt b)
  | .ref a => some (.ref a)
  | .type n => some (.ty n)
  | _ => none
theorem RelV.abs {x : V} {u : Value} (r : RelV x u) : absV u = some x := by
  cases x with
  | non => cases r; rfl
  | bl _ => cases r; rfl
  | int _ => obtain ⟨t, rfl⟩ := r; rfl
  | str _ => obtain ⟨t, rfl⟩ := r; rfl
  | byt _ => obtain ⟨t, rfl⟩ := r; rfl
  | flt _ => obtain ⟨t, rfl⟩ := r; rfl
  | ref _ => cases r; rfl
  | ty _ => cases r; rfl
theorem RelV.inj {x y : V} {u : Value} (r : RelV x u) (q : RelV y u) : x = y := Option.some.inj (r.abs.symm.trans q.abs)
theorem Vals.inj : ∀ {xs ys : List V} {us : List Value}, Vals xs us → Vals ys us → xs = ys
  | _, _, _, .nil, .nil => rfl
  | _, _, _, .cons r t, .cons r' t' => by rw [r.inj r', Vals.inj t t']
section
variable {X : Cx} {pins : List (Addr × Obj)} {σ : St} {H : Hp} {s : Shared} {a : Addr} {xs ys : List V}
theorem SqL.of {K : PySem.W.Frag} (h : H a = some (.lst xs)) : SqL K H a xs := .inl (.inl h)
theorem SqT.of {K : PySem.W.Frag} (h : H a = some (.tup xs)) : SqT K H a xs := .inl (.inl h)
theorem Inv.list (I : Inv X pins σ H s) (h : SqL X.K H a xs) : ∃ its : List Value, Vals xs its ∧ PlainL s.heap a its.toArray ∧ xs.length ≤ sizeLine := by
  rcases h with h | ⟨o, its, n, hk, hc, hd, hs, hz, r⟩
  · obtain ⟨z, its, n, r, e⟩ := h.ok I.hok
    exact ⟨its, r, ⟨_, n, e, rfl, rfl, rfl⟩, z⟩
  · refine ⟨its.toList, r, ⟨o, n, I.kIn a o hk, hc, hd, by simpa using hs⟩, ?_⟩
    have e := r.length
    simp only [Array.length_toList] at e
    omega
theorem Inv.tuple (I : Inv X pins σ H s) (h : SqT X.K H a xs) : ∃ its : List Value, Vals xs its ∧ IsTup s.heap a its.toArray ∧ xs.length ≤ sizeLine := by
  rcases h with h | ⟨o, its, n, hk, hc, hs, hz, r⟩
  · obtain ⟨z, its, r, p⟩ := h.ok I.hok
    exact ⟨its, r, p, z⟩
  · refine ⟨its.toList, r, ⟨o, I.kIn a o hk, hc, n, by simpa using hs⟩, ?_⟩
    have e := r.length
    simp only [Array.length_toList] at e
    omega
theorem Inv.list_inj (I : Inv X pins σ H s) (h : SqL X.K H a xs) (h' : SqL X.K H a ys) : xs = ys := by
  obtain ⟨its, r, ⟨o, n, e, _, _, d⟩, _⟩ := I.list h
  obtain ⟨its', r', ⟨o', n', e', _, _, d'⟩, _⟩ := I.list h'
  rw [e] at e'; cases e'
  rw [d] at d'
  injection d' with d1 _
  have : its = its' := by simpa using congrArg Array.toList d1
  subst this
  exact r.inj r'
theorem Inv.tuple_inj (I : Inv X pins σ H s) (h : SqT X.K H a xs) (h' : SqT X.K H a ys) : xs = ys := by
  obtain ⟨its, r, ⟨o, e, _, n, d⟩, _⟩ := I.tuple h
  obtain ⟨its', r', ⟨o', e', _, n', d'⟩, _⟩ := I.tuple h'
  rw [e] at e'; cases e'
  rw [d] at d'
  injection d' with d1 _
  have : its = its' := by simpa using congrArg Array.toList d1
  subst this
  exact r.inj r'
end

/-! ### another wish about exceptions -/
abbrev Cx.wish (X : Cx) (E : Value → Shared → Prop) : Cx := { X with xe := E }
/-- no exception leaves -/
abbrev Cx.nox (X : Cx) : Cx := X.wish fun _ _ => False
theorem Cx.Ok.wish {X : Cx} (ok : X.Ok) (E : Value → Shared → Prop) : (X.wish E).Ok :=
  ⟨ok.mod, ok.kind, ok.glob, ok.blt, ok.above, ok.inj, ok.has, ok.cab, ok.hd, ok.frames, ok.stk, ok.exf, ok.bs, ok.bsz, ok.noex, ok.exfs, ok.funs, ok.frf⟩
theorem Cx.Ok.unwish {X : Cx} {E : Value → Shared → Prop} (ok : (X.wish E).Ok) : X.Ok :=
  ⟨ok.mod, ok.kind, ok.glob, ok.blt, ok.above, ok.inj, ok.has, ok.cab, ok.hd, ok.frames, ok.stk, ok.exf, ok.bs, ok.bsz, ok.noex, ok.exfs, ok.funs, ok.frf⟩
section
variable {X : Cx} {pins : List (Addr × Obj)} {σ : St} {H : Hp} {s : Shared} {E : Value → Shared → Prop}
theorem Inv.wish (I : Inv X pins σ H s) (E : Value → Shared → Prop) : Inv (X.wish E) pins σ H s := ⟨I.ok.wish E, I.os, I.bare, I.base, I.loc, I.cell, I.free, I.freeC, I.pin, I.hok, I.len⟩
theorem Inv.unwish (I : Inv (X.wish E) pins σ H s) : Inv X pins σ H s := ⟨I.ok.unwish, I.os, I.bare, I.base, I.loc, I.cell, I.free, I.freeC, I.pin, I.hok, I.len⟩
theorem SP.unwish {D : Ends} {f : Flow} {s' : Shared} (h : SP (X.wish E) pins D f s') : SP X pins D f s' := by
  cases f with
  | next => obtain ⟨σ', H', I, q⟩ := h; exact ⟨σ', H', I.unwish, q⟩
  | brk => obtain ⟨σ', H', I, q⟩ := h; exact ⟨σ', H', I.unwish, q⟩
  | cont => obtain ⟨σ', H', I, q⟩ := h; exact ⟨σ', H', I.unwish, q⟩
  | ret u => obtain ⟨v, σ', H', I, r, q⟩ := h; exact ⟨v, σ', H', I.unwish, r, q⟩
theorem PSs.nox {st : List Stmt} {t : TS} (h : PSs X.nox st t) : PSs X st t := fun pins s σ H D I hw =>
  wpAny_mono (h pins s σ H D (I.wish _) hw) (fun _ _ q => q.unwish) fun _ _ z => False.elim z
end

/-! ### blocks and small statements -/
section
variable {X : Cx} {st : Stmt} {rest : List Stmt} {t u : TS} {e : Expr} {te : TE} {pos : Pos}
def tNext : TS := fun D σ H => D.nx σ H
def tSeq (t u : TS) : TS := fun D σ H => t { D with nx := u D } σ H
theorem pss_nil : PSs X [] tNext := fun _ _ σ H _ I h => wpAny_execs_nil ⟨σ, H, I, h⟩
theorem pss_cons (h1 : PS X st t) (h2 : PSs X rest u) : PSs X (st :: rest) (tSeq t u) := by
  intro pins s σ H D I h
  refine wpAny_execs_cons (thn (h1 pins s σ H { D with nx := u D } I h) fun f s1 q => ?_)
  cases f with
  | next =>
    obtain ⟨σ', H', I', q⟩ := q
    exact h2 pins s1 σ' H' D I' q
  | ret v => exact q
  | brk => exact q
  | cont => exact q
theorem pss_one (h1 : PS X st t) : PSs X [st] t := by
  intro pins s σ H D I h
  refine wpAny_execs_cons (thn (h1 pins s σ H D I h) fun f s1 q => ?_)
  cases f with
  | next => exact wpAny_execs_nil q
  | ret v => exact q
  | brk => exact q
  | cont => exact q
/-- in a def's body nothing is shown -/
theorem Inv.quiet {pins : List (Addr × Obj)} {σ : St} {H : Hp} {s : Shared} (I : Inv X pins σ H s) : interactive X.env = false := by simp [interactive, I.ok.kind]
/-- an expression whose value is dropped -/
def tDrop (te : TE) : TS := fun D σ H => te σ H fun _ H1 => D.nx σ H1
theorem ps_expr (he : PE X e te) (hs : swapsWith e none pos.line X.env = pure false := by rfl) : PS X (.Expr e pos) (tDrop te) := by
  intro pins s σ H D I h
  exact wpAny_Expr_any (thn (he pins s σ H _ I h) fun v s1 ⟨x, H1, I1, r1, q1⟩ => ⟨σ, H1, I1, q1⟩) I.quiet hs
def tRet (te : TE) : TS := fun D σ H => te σ H D.rt
theorem ps_ret (he : PE X e te) : PS X (.Return (some e) pos) (tRet te) := by
  intro pins s σ H D I h
  exact wpAny_Return_some (thn (he pins s σ H _ I h) fun v s1 ⟨x, H1, I1, r1, q1⟩ => ⟨x, σ, H1, I1, r1, q1⟩)
def tIfS (c : TT) (t u : TS) : TS := fun D σ H => c σ H fun b H1 => if b = true then t D σ H1 else u D σ H1
theorem ps_if {c : Expr} {a b : List Stmt} {tc : TT} (hc : PT X c tc) (ha : PSs X a t) (hb : PSs X b u) : PS X (.If c a b pos) (tIfS tc t u) := by
  intro pins s σ H D I h
  refine wpAny_If (thn (hc pins s σ H _ I h) fun d s1 ⟨H1, I1, q1⟩ => ?_)
  cases d with
  | true => exact ha pins s1 σ H1 D I1 q1
  | false => exact hb pins s1 σ H1 D I1 q1
end

/-! ### targets -/
abbrev TG := V → St → Hp → (St → Hp → Prop) → Prop
def PG (X : Cx) (target : Expr) (t : TG) : Prop :=
  ∀ (pins : List (Addr × Obj)) (s : Shared) (σ : St) (H : Hp) (v : V) (u : Value) (Q : St → Hp → Prop), Inv X pins σ H s → RelV v u → t v σ H Q →
    wpAny (model X.prog X.w) X.A (assign target X.env u) (fun _ s' => ∃ σ' H', Inv X pins σ' H' s' ∧ Q σ' H') X.xe s
/-- o[i] = v, by values -/
abbrev TSet := V → V → V → Hp → (Hp → Prop) → Prop
def PSet (X : Cx) (t : TSet) : Prop :=
  ∀ (pins : List (Addr × Obj)) (s : Shared) (σ : St) (H : Hp) (o i v : V) (ov iv u : Value) (Q : Hp → Prop), Inv X pins σ H s → RelV o ov → RelV i iv → RelV v u → t o i v H Q →
    wpAny (model X.prog X.w) X.A (setItem ov iv u) (fun _ s' => ∃ H', Inv X pins σ H' s' ∧ Q H') X.xe s
section
variable {X : Cx} {pos : Pos}
def gName (i : Nat) : TG := fun v σ H Q => Q (σ.set i (some v)) H
theorem pg_name {i : Nat} {x : Str} (hN : X.N.Nodup) (hi : X.N[i]? = some x) (hx : Loc X.env.scope x) (hf : X.fn x = true ∨ X.env.scope.names.lookup x = some .local := by first | exact .inl rfl | exact .inr rfl | assumption) : PG X (.Name x pos) (gName i) := by
  intro pins s σ H v u Q I r h
  exact wpAny_assign_Name (store_ok I hN hi hx r (fun s' I' => ⟨_, H, I', h⟩) hf)
/-- o[i] = .. -/
def gSub (to ti : TE) (t : TSet) : TG := fun v σ H Q => to σ H fun o H1 => ti σ H1 fun i H2 => t o i v H2 fun H3 => Q σ H3
theorem pg_sub {o i : Expr} {to ti : TE} {t : TSet} (ho : PE X o to) (hi : PE X i ti) (hs : PSet X t)
    (ha : ∀ v, assign (.Subscript o i pos) X.env v = (do
      let ov ← holding [v] (eval o X.env)
      let iv ← holding [v, ov] (eval i X.env)
      standAt pos
      holding [v, ov, iv] (setItem ov iv v)
      release [v, ov, iv] []) := by intro _; rfl) : PG X (.Subscript o i pos) (gSub to ti t) := by
  intro pins s σ H v u Q I r h
  rw [ha]
  refine wpAny_bind (wpAny_holding (thn (ho pins s σ H _ I h) fun ov s1 ⟨x, H1, I1, r1, q1⟩ => ?_))
  refine wpAny_bind (wpAny_holding (thn (hi pins s1 σ H1 _ I1 q1) fun iv s2 ⟨y, H2, I2, r2, q2⟩ => ?_))
  refine wpAny_bind (wpAny_standAt (wpAny_bind (wpAny_holding (thn (hs pins s2 σ H2 x y v ov iv u _ I2 r1 r2 r q2) fun _ s3 ⟨H3, I3, q3⟩ => ?_))))
  exact wpAny_release ⟨σ, H3, I3, q3⟩
/-- target = value -/
def tAsg (te : TE) (g : TG) : TS := fun D σ H => te σ H fun x H1 => g x σ H1 D.nx
theorem ps_asg {tg e : Expr} {te : TE} {g : TG} (he : PE X e te) (hg : PG X tg g) (hs : swapsWithSole [tg] e pos.line X.env = pure false := by rfl) (hw : swappedStores [tg] e X.env = pure none := by rfl)
    (h1 : (assignEach [tg] X.env).map (·.2) = [assign tg X.env] := by rfl) : PS X (.Assign [tg] e pos) (tAsg te g) := by
  intro pins s σ H D I h
  refine wpAny_Assign_stores (thn (he pins s σ H _ I h) fun v s1 ⟨x, H1, I1, r1, q1⟩ => ?_) hs hw
  rw [h1]
  exact thn (hg pins s1 σ H1 x v _ I1 r1 q1) fun _ s2 q => q
/-- name = value -/
theorem ps_set {i : Nat} {x : Str} {e : Expr} {te : TE} {pos' : Pos} (hN : X.N.Nodup) (hi : X.N[i]? = some x) (hx : Loc X.env.scope x) (he : PE X e te) (hs : swapsWith e (some (.Name x pos')) pos.line X.env = pure false := by rfl) (hf : X.fn x = true ∨ X.env.scope.names.lookup x = some .local := by first | exact .inl rfl | exact .inr rfl | assumption) :
    PS X (.Assign [.Name x pos'] e pos) (tAsg te (gName i)) := by
  intro pins s σ H D I h
  refine wpAny_Assign_Name (thn (he pins s σ H _ I h) fun v s1 ⟨y, H1, I1, r1, q1⟩ => ?_) hs
  exact store_ok I1 hN hi hx r1 (fun s2 I2 => ⟨_, H1, I2, q1⟩) hf
end

/-! ### while -/
section
variable {X : Cx} {pos : Pos}
/-- the invariant W with its measure -/
def tWhile (c : TT) (tb : TS) : TS := fun D σ H => ∃ W : Nat → St → Hp → Prop, (∃ m, W m σ H) ∧ ∀ m σ H, W m σ H →
  c σ H fun b H1 => if b = true then ∃ N : St → Hp → Prop, (∀ σ' H', N σ' H' → ∃ m', m' < m ∧ W m' σ' H') ∧ tb { D with nx := N, ct := N, bk := D.nx } σ H1 else D.nx σ H1
theorem ps_while {c : Expr} {body : List Stmt} {tc : TT} {tb : TS} (hp : PassesOwn (model X.prog X.w) X.A X.env X.xe) (hc : PT X c tc) (hb : PSs X body tb) : PS X (.While c body [] pos) (tWhile tc tb) := by
  intro pins s σ H D I h
  obtain ⟨W, ⟨m0, w0⟩, turn⟩ := h
  refine wpAny_While (codeAny_whileLoop (fun n s' => ∃ σ' H', Inv X pins σ' H' s' ∧ W n σ' H') ?_ m0 ⟨σ, H, I, w0⟩)
  rintro n s1 ⟨σ1, H1, I1, w1⟩
  refine wpAny_passesOwn hp (thn (hc pins s1 σ1 H1 _ I1 (turn n σ1 H1 w1)) fun b s2 ⟨H2, I2, q2⟩ => ?_)
  cases b with
  | true =>
    obtain ⟨N, hN, q2⟩ := q2
    rw [if_pos rfl]
    refine wpAny_passesOwn hp (thn (hb pins s2 σ1 H2 _ I2 q2) fun f s3 q3 => ?_)
    cases f with
    | next =>
      obtain ⟨σ3, H3, I3, n3⟩ := q3
      obtain ⟨m', hm, w3⟩ := hN σ3 H3 n3
      exact ⟨m', hm, σ3, H3, I3, w3⟩
    | cont =>
      obtain ⟨σ3, H3, I3, n3⟩ := q3
      obtain ⟨m', hm, w3⟩ := hN σ3 H3 n3
      exact ⟨m', hm, σ3, H3, I3, w3⟩
    | brk => exact q3
    | ret v => exact q3
  | false =>
    rw [if_neg Bool.false_ne_true]
    exact wpAny_execs_nil ⟨σ1, H2, I2, q2⟩
end

/-! ### what a loop or a comprehension walks -/
/-- at turn i: it yields x (the heap may grow), or it stops -/
structure It where
  go : Nat → Hp → Prop
  yld : Nat → Hp → V → Hp → Prop
  stop : Nat → Hp → Prop
/-- the iterator's own objects may turn: they are not the frame's, not pinned, younger than the entry (or a comprehension's own) -/
def FpOk (X : Cx) (pins : List (Addr × Obj)) (H : Hp) (b : Addr) : Prop :=
  H b = none ∧ b ≠ X.env.locals ∧ b ∉ X.fs ∧ (b ∈ X.ex ∨ X.s₀.heap.objs.size ≤ b) ∧ (∀ x c, X.env.cells.lookup x = some c → c ≠ b) ∧ ∀ p ∈ X.pn ++ pins, p.1 ≠ b
theorem Inv.fpOk {X : Cx} {pins : List (Addr × Obj)} {σ : St} {H H' : Hp} {s : Shared} {b : Addr} (I : Inv X pins σ H s) (hb : s.heap.objs.size ≤ b) (hn : H' b = none) : FpOk X pins H' b := by
  refine ⟨hn, Nat.ne_of_gt (Nat.lt_of_lt_of_le I.lt hb), I.nofs hb, .inr (Nat.le_trans I.sz hb), fun x c e z => ?_, fun p hp z => ?_⟩
  · obtain ⟨v, q⟩ := I.cell x c e
    exact absurd (Nat.lt_of_lt_of_le q.lt (by rw [z]; exact hb)) (Nat.lt_irrefl _)
  · exact absurd (Nat.lt_of_lt_of_le (Heap.lt_size (I.pin p hp).1) (by rw [z]; exact hb)) (Nat.lt_irrefl _)
structure Turn (P : Program) (w : World) (K : PySem.W.Frag) (tg : Expr) (J : It) (fp : List Addr) (it : Addr) (tn : Nat → Heap → Prop) : Prop where
  mem : it ∈ fp
  obj : ∀ i h, tn i h → ∀ b ∈ fp, ∃ o, h.get? b = some o ∧ ∀ v, o.data ≠ .cell v
  keep : ∀ i h h', tn i h → (∀ b ∈ fp, ∀ o, h.get? b = some o → h'.get? b = some o) → tn i h'
  item : ∀ (X : Cx), X.prog = P → X.w = w → X.K = K → X.calm = true → ∀ (i : Nat) (pins : List (Addr × Obj)) (s : Shared) (σ : St) (H : Hp) (E : Value → Shared → Prop), Inv X pins σ H s → (∀ b ∈ fp, FpOk X pins H b) → tn i s.heap → J.go i H →
    wpAny (model P w) X.A (pyNext (.ref it)) (fun r s1 => ∃ u, r = some u ∧
      wpAny (model P w) X.A (letOwnedTupleGo tg (.ref it) u) (fun _ s2 => ∃ x H', Inv X pins σ H' s2 ∧ RelV x u ∧ J.yld i H x H' ∧ tn (i + 1) s2.heap ∧ ∀ b ∈ fp, H' b = none) E s1) E s
  done : ∀ (X : Cx), X.prog = P → X.w = w → X.K = K → X.calm = true → ∀ (i : Nat) (pins : List (Addr × Obj)) (s : Shared) (σ : St) (H : Hp) (E : Value → Shared → Prop), Inv X pins σ H s → (∀ b ∈ fp, FpOk X pins H b) → tn i s.heap → J.stop i H →
    wpAny (model P w) X.A (pyNext (.ref it)) (fun r s1 => r = none ∧ Inv X pins σ H s1) E s
  self : ∀ (A : Around) (i : Nat) (s : Shared) (Q : Value → Shared → Prop) (E : Value → Shared → Prop), tn i s.heap → Q (.ref it) s → wpAny (model P w) A (pyIter (.ref it)) Q E s
abbrev TI := St → Hp → (It → Hp → Prop) → Prop
/-- an iterator has come -/
def PIE (X : Cx) (pins : List (Addr × Obj)) (σ : St) (tg : Expr) (R : It → Hp → Prop) (itv : Value) (s2 : Shared) : Prop :=
  ∃ (it : Addr) (fp : List Addr) (tn : Nat → Heap → Prop) (J : It) (H' : Hp), itv = .ref it ∧ Inv X pins σ H' s2 ∧ Turn X.prog X.w X.K tg J fp it tn ∧ tn 0 s2.heap ∧ (∀ b ∈ fp, FpOk X pins H' b) ∧ R J H'
def PI (X : Cx) (tg iter : Expr) (wi : TI) : Prop :=
  ∀ (pins : List (Addr × Obj)) (s : Shared) (σ : St) (H : Hp) (R : It → Hp → Prop), Inv X pins σ H s → wi σ H R →
    wpAny (model X.prog X.w) X.A (eval iter X.env) (fun v s1 => wpAny (model X.prog X.w) X.A (pyIter v) (PIE X pins σ tg R) X.xe s1) X.xe s

/-- the step ahead of the store is nothing for an iterator that keeps no tuple -/
theorem go_of {M : Model} {A : Around} {E : Value → Shared → Prop} {s : Shared} {tg : Expr} {it : Addr} {u : Value} {o : Obj} {n : String} {vs : Array Value} {Q : Unit → Shared → Prop} (ho : s.heap.get? it = some o) (hc : o.cls = .type n) (hd : o.data = .fields vs)
    (hn : ["enumerate", "zip", "dict_itemiterator", "dict_reverseitemiterator", "odict_iterator", "itertools.zip_longest", "itertools.pairwise"].contains n = false) (hQ : Q () s) : wpAny M A (letOwnedTupleGo tg (.ref it) u) Q E s := by
  unfold letOwnedTupleGo
  cases tg <;> first
    | exact wpAny_pure hQ
    | (cases u <;> first
        | exact wpAny_pure hQ
        | (refine wpAny_bind (wpAny_load ho ?_)
           rw [hc, hd]
           show wpAny M A (if (["enumerate", "zip", "dict_itemiterator", "dict_reverseitemiterator", "odict_iterator", "itertools.zip_longest", "itertools.pairwise"].contains n && vs[0]? == some (rawInt _)) = true then _ else _) Q E s
           rw [if_neg (by intro h; rw [hn, Bool.false_and] at h; cases h)]
           exact wpAny_pure hQ))

/-- the list at a, as it stands at each turn (a loop may append to it) -/
def Itl (K : PySem.W.Frag) (a : Addr) : It :=
  ⟨fun i H => ∃ xs x, SqL K H a xs ∧ xs[i]? = some x, fun i H x H' => H' = H ∧ ∀ xs, SqL K H a xs → xs[i]? = some x, fun i H => ∃ xs, SqL K H a xs ∧ xs.length ≤ i⟩
def Itt (K : PySem.W.Frag) (a : Addr) : It :=
  ⟨fun i H => ∃ xs x, SqT K H a xs ∧ xs[i]? = some x, fun i H x H' => H' = H ∧ ∀ xs, SqT K H a xs → xs[i]? = some x, fun i H => ∃ xs, SqT K H a xs ∧ xs.length ≤ i⟩
/-- lo, lo + 1, .. (n of them) -/
def Itr (lo : Int) (n : Nat) : It := ⟨fun i _ => i < n, fun i H x H' => H' = H ∧ x = .int (lo + i), fun i _ => n ≤ i⟩
theorem turn_list {P : Program} {w : World} {K : PySem.W.Frag} {tg : Expr} (a it : Addr) : Turn P w K tg (Itl K a) [it] it (fun i h => h.IsListIter it a i) where
  mem := by simp
  obj := fun i h st b hb => by
    have e : b = it := by simpa using hb
    subst e
    obtain ⟨o, e, c, d⟩ := st
    exact ⟨o, e, fun v z => by rw [d] at z; cases z⟩
  keep := fun i h h' st k => st.at fun o e => k it (by simp) o e
  item := by
    intro X hP hw hK hc i pins s σ H E I hf st hg
    subst hP hw hK
    obtain ⟨xs, x, hq, hx⟩ := hg
    obtain ⟨its, rv, p, hz⟩ := I.list hq
    obtain ⟨u, hu, ru⟩ := rv.get hx
    obtain ⟨f0, f1, f2, f3, f4, f5⟩ := hf it (by simp)
    refine wpAny_pyNext_list_item st p.isList (x := u) (by simpa using hu) fun h' st' sb => ?_
    have I1 : Inv X pins σ H { s with heap := h' } := I.turned (t' := s.toks) (fun b o hb e => (sb.2 b hb).trans e) f0 f1 f3 f4 f5
    obtain ⟨o, e, c, d⟩ := id st'
    exact ⟨u, rfl, go_of (s := { s with heap := h' }) e c d (by decide) ⟨x, H, I1, ru, ⟨rfl, fun ys hy => by rw [I.list_inj hy hq]; exact hx⟩, st', fun b hb => (hf b hb).1⟩⟩
  done := by
    intro X hP hw hK hc i pins s σ H E I hf st hg
    subst hP hw hK
    obtain ⟨xs, hq, hx⟩ := hg
    obtain ⟨its, rv, p, hz⟩ := I.list hq
    obtain ⟨f0, f1, f2, f3, f4, f5⟩ := hf it (by simp)
    have hl := rv.length
    exact wpAny_pyNext_list_end (I.ok.hd hc) st p.isList (by simp; omega) fun h' eb => ⟨rfl, I.turned (t' := s.toks) (fun b o hb e => eb b o hb e) f0 f1 f3 f4 f5⟩
  self := fun _ _ _ _ _ st h => wpAny_pyIter_listiter st h
theorem turn_tuple {P : Program} {w : World} {K : PySem.W.Frag} {tg : Expr} (a it : Addr) : Turn P w K tg (Itt K a) [it] it (fun i h => h.IsTupleIter it a i) where
  mem := by simp
  obj := fun i h st b hb => by
    have e : b = it := by simpa using hb
    subst e
    obtain ⟨o, e, c, d⟩ := st
    exact ⟨o, e, fun v z => by rw [d] at z; cases z⟩
  keep := fun i h h' st k => st.at fun o e => k it (by simp) o e
  item := by
    intro X hP hw hK hc i pins s σ H E I hf st hg
    subst hP hw hK
    obtain ⟨xs, x, hq, hx⟩ := hg
    obtain ⟨its, rv, p, hz⟩ := I.tuple hq
    obtain ⟨u, hu, ru⟩ := rv.get hx
    obtain ⟨f0, f1, f2, f3, f4, f5⟩ := hf it (by simp)
    refine wpAny_pyNext_tuple_item st (show s.heap.IsTuple a its.toArray from p) (x := u) (by simpa using hu) fun h' st' sb => ?_
    have I1 : Inv X pins σ H { s with heap := h' } := I.turned (t' := s.toks) (fun b o hb e => (sb.2 b hb).trans e) f0 f1 f3 f4 f5
    obtain ⟨o, e, c, d⟩ := id st'
    exact ⟨u, rfl, go_of (s := { s with heap := h' }) e c d (by decide) ⟨x, H, I1, ru, ⟨rfl, fun ys hy => by rw [I.tuple_inj hy hq]; exact hx⟩, st', fun b hb => (hf b hb).1⟩⟩
  done := by
    intro X hP hw hK hc i pins s σ H E I hf st hg
    subst hP hw hK
    obtain ⟨xs, hq, hx⟩ := hg
    obtain ⟨its, rv, p, hz⟩ := I.tuple hq
    obtain ⟨f0, f1, f2, f3, f4, f5⟩ := hf it (by simp)
    have hl := rv.length
    exact wpAny_pyNext_tuple_end (I.ok.hd hc) st (show s.heap.IsTuple a its.toArray from p) (by simp; omega) fun h' eb => ⟨rfl, I.turned (t' := s.toks) (fun b o hb e => eb b o hb e) f0 f1 f3 f4 f5⟩
  self := fun _ _ _ _ _ st h => wpAny_pyIter_tupleiter st h
theorem turn_range {P : Program} {w : World} {K : PySem.W.Frag} {tg : Expr} (it : Addr) (lo : Int) (n : Nat) : Turn P w K tg (Itr lo n) [it] it (fun i h => IsRangeIter h it (lo + (i : Nat) * 1) ((n : Int) - (i : Nat)) 1) where
  mem := by simp
  obj := fun i h st b hb => by
    have e : b = it := by simpa using hb
    subst e
    exact ⟨_, st, fun v z => by
      have z' : Data.fields _ = Data.cell v := z
      cases z'⟩
  keep := fun i h h' st k => k it (by simp) _ st
  item := by
    intro X hP hw hK hc i pins s σ H E I hf st hg
    subst hP hw hK
    obtain ⟨f0, f1, f2, f3, f4, f5⟩ := hf it (by simp)
    have W := Walks.range (prog := X.prog) (w := X.w) (I.ok.hd hc) it lo 1 n
    refine W.item i s _ _ hg st fun v h' tk hv st' kk => ?_
    obtain ⟨t, rfl⟩ := hv
    have I1 : Inv X pins σ H { s with heap := h', toks := tk } := I.turned (fun b o hb e => kk b o (by simpa using hb) e) f0 f1 f3 f4 f5
    refine ⟨_, rfl, go_of (s := { s with heap := h', toks := tk }) (n := "range_iterator") st' rfl rfl (by decide) ⟨.int (lo + i), H, I1, ⟨t, ?_⟩, ⟨rfl, rfl⟩, st', fun b hb => (hf b hb).1⟩⟩
    rw [Int.mul_one]
  done := by
    intro X hP hw hK hc i pins s σ H E I hf st hg
    subst hP hw hK
    obtain ⟨f0, f1, f2, f3, f4, f5⟩ := hf it (by simp)
    exact wpAny_pyNext_range_end (I.ok.hd hc) st (by have : n ≤ i := hg; omega) fun h' eb => ⟨rfl, I.turned (t' := s.toks) (fun b o hb e => eb b o hb e) f0 f1 f3 f4 f5⟩
  self := fun _ _ _ _ _ st h => wpAny_pyIter_rangeiter st h
end L2

namespace L2
open PySem PySem.Spec PyProof.Rows
section
variable {X : Cx} {tg : Expr}
def iList (K : PySem.W.Frag) (tl : TE) : TI := fun σ H R => tl σ H fun x H1 => ∃ a, x = .ref a ∧ (∃ xs, SqL K H1 a xs) ∧ R (Itl K a) H1
def iTup (K : PySem.W.Frag) (tl : TE) : TI := fun σ H R => tl σ H fun x H1 => ∃ a, x = .ref a ∧ (∃ xs, SqT K H1 a xs) ∧ R (Itt K a) H1
theorem pi_list {l : Expr} {tl : TE} (hl : PE X l tl) : PI X tg l (iList X.K tl) := by
  intro pins s σ H R I h
  refine thn (hl pins s σ H _ I h) fun v s1 ⟨x, H1, I1, r1, q1⟩ => ?_
  obtain ⟨a, e, ⟨xs, hq⟩, q⟩ := q1
  subst e
  cases r1
  obtain ⟨its, rv, p, hz⟩ := I1.list hq
  refine wpAny_pyIter_list p.isList ?_
  refine ⟨s1.heap.objs.size, [s1.heap.objs.size], _, _, H1, rfl, I1.kept (t' := s1.toks) fun b o e => Heap.get?_push_of_some _ e, turn_list a _, ⟨_, Heap.get?_push_size _ rfl, rfl, rfl⟩, fun b hb => ?_, q⟩
  have e : b = s1.heap.objs.size := by simpa using hb
  subst e
  exact I1.fpOk (Nat.le_refl _) (I1.hok.fresh (Nat.le_refl _))
theorem pi_tup {l : Expr} {tl : TE} (hl : PE X l tl) : PI X tg l (iTup X.K tl) := by
  intro pins s σ H R I h
  refine thn (hl pins s σ H _ I h) fun v s1 ⟨x, H1, I1, r1, q1⟩ => ?_
  obtain ⟨a, e, ⟨xs, hq⟩, q⟩ := q1
  subst e
  cases r1
  obtain ⟨its, rv, p, hz⟩ := I1.tuple hq
  refine wpAny_pyIter_tuple (show s1.heap.IsTuple a its.toArray from p) ?_
  refine ⟨s1.heap.objs.size, [s1.heap.objs.size], _, _, H1, rfl, I1.kept (t' := s1.toks) fun b o e => Heap.get?_push_of_some _ e, turn_tuple a _, ⟨_, Heap.get?_push_size _ rfl, rfl, rfl⟩, fun b hb => ?_, q⟩
  have e : b = s1.heap.objs.size := by simpa using hb
  subst e
  exact I1.fpOk (Nat.le_refl _) (I1.hok.fresh (Nat.le_refl _))
/-- a range object just made, walked -/
theorem range_it {pins : List (Addr × Obj)} {σ : St} {H : Hp} {s : Shared} {R : It → Hp → Prop} {E : Value → Shared → Prop} {lo hi : Int} {t u v : Tok} {tk : Nat} (I : Inv X pins σ H s) (h1 : -(2 ^ 62) ≤ lo) (h2 : lo < 2 ^ 62) (h3 : -(2 ^ 62) ≤ hi) (h4 : hi < 2 ^ 62)
    (q : R (Itr lo (hi - lo).toNat) H) : wpAny (model X.prog X.w) X.A (pyIter (.ref s.heap.objs.size)) (PIE X pins σ tg R) E { s with heap := s.heap.push { cls := .type "range", data := .fields #[.int lo t, .int hi u, .int 1 v] }, toks := tk } := by
  refine wpAny_pyIter_range (IsRange.new ..) (small_one h1 h2 h3 h4) ?_
  have I1 : Inv X pins σ H { s with heap := s.heap.push { cls := .type "range", data := .fields #[.int lo t, .int hi u, .int 1 v] }, toks := tk } := I.kept fun b o e => Heap.get?_push_of_some _ e
  refine ⟨(s.heap.push { cls := .type "range", data := .fields #[.int lo t, .int hi u, .int 1 v] }).objs.size, [(s.heap.push { cls := .type "range", data := .fields #[.int lo t, .int hi u, .int 1 v] }).objs.size], _, _, H, rfl,
    I1.kept (t' := tk) fun b o e => Heap.get?_push_of_some _ e, turn_range _ lo (hi - lo).toNat, ?_, fun b hb => ?_, q⟩
  · have e1 : lo + ((0 : Nat) : Int) * 1 = lo := by simp
    have e2 : (((hi - lo).toNat : Nat) : Int) - ((0 : Nat) : Int) = Builtin.Range.rangeSize lo hi 1 := by rw [rangeSize_one]; split <;> omega
    show IsRangeIter _ _ (lo + ((0 : Nat) : Int) * 1) ((((hi - lo).toNat : Nat) : Int) - ((0 : Nat) : Int)) 1
    rw [e1, e2]
    exact Heap.get?_push_size _ rfl
  · have e : b = (s.heap.push { cls := .type "range", data := .fields #[.int lo t, .int hi u, .int 1 v] }).objs.size := by simpa using hb
    subst e
    exact I1.fpOk (Nat.le_refl _) (I1.hok.fresh (Nat.le_refl _))
def iRng1 (ta : TA) : TI := fun σ H R => ta σ H fun vs H1 => ∃ j : Int, vs = [.int j] ∧ -(2 ^ 62) ≤ j ∧ j < 2 ^ 62 ∧ R (Itr 0 j.toNat) H1
def iRng2 (ta : TA) : TI := fun σ H R => ta σ H fun vs H1 => ∃ i j : Int, vs = [.int i, .int j] ∧ (-(2 ^ 62) ≤ i ∧ i < 2 ^ 62 ∧ -(2 ^ 62) ≤ j ∧ j < 2 ^ 62) ∧ R (Itr i (j - i).toNat) H1
theorem pi_range1 {a : Expr} {ta : TA} {p pos : Pos} (hg : Gl X "range") (hm : X.mg "range" = none) (ha : PA X [a] ta) (hs : starEach [a] X.env = [(false, eval a X.env)] := by rfl) : PI X tg (.Call (.Name "range" p) [a] [] pos) (iRng1 ta) := by
  intro pins s σ H R I h
  refine Call_ (ld_blt I hg hm boot_range (PyProof.Rows.callWith_type1 (thn (ha pos pins s σ H _ I h) fun us s1 ⟨vs, H1, I1, r1, q1⟩ => ?_) hs rfl))
  obtain ⟨j, e, q1, q2, q⟩ := q1
  subst e
  cases r1 with
  | cons r rr =>
    cases rr
    obtain ⟨t, rfl⟩ := r
    exact call_range_1 (range_it I1 (by omega) (by omega) q1 q2 (by simpa using q))
theorem pi_range2 {a b : Expr} {ta : TA} {p pos : Pos} (hg : Gl X "range") (hm : X.mg "range" = none) (ha : PA X [a, b] ta) (hs : starEach [a, b] X.env = [(false, eval a X.env), (false, eval b X.env)] := by rfl) (hs2 : starEach [b] X.env = [(false, eval b X.env)] := by rfl) :
    PI X tg (.Call (.Name "range" p) [a, b] [] pos) (iRng2 ta) := by
  intro pins s σ H R I h
  refine Call_ (ld_blt I hg hm boot_range (PyProof.Rows.callWith_type1 (thn (ha pos pins s σ H _ I h) fun us s1 ⟨vs, H1, I1, r1, q1⟩ => ?_) (by rw [hs, hs2]) (by rw [hs2]; rfl)))
  obtain ⟨i, j, e, ⟨q1, q2, q3, q4⟩, q⟩ := q1
  subst e
  cases r1 with
  | cons r rr =>
    cases rr with
    | cons r' rr =>
      cases rr
      obtain ⟨t, rfl⟩ := r
      obtain ⟨t', rfl⟩ := r'
      exact call_range_2 (range_it I1 q1 q2 q3 q4 q)

/-! ### for -/
/-- W: the invariant by the turn and a measure; N: what the body is to reach -/
def tFor (wi : TI) (g : TG) (tb : TS) : TS := fun D σ H => wi σ H fun J H1 => ∃ W : Nat → Nat → St → Hp → Prop, (∃ m, W 0 m σ H1) ∧ ∀ i m σ H, W i m σ H →
  (J.stop i H ∧ D.nx σ H) ∨ (J.go i H ∧ ∃ N : St → Hp → Prop, (∀ σ' H', N σ' H' → ∃ m', m' < m ∧ W (i + 1) m' σ' H') ∧ ∀ x H', J.yld i H x H' → g x σ H' fun σ2 H2 => tb { D with nx := N, ct := N, bk := D.nx } σ2 H2)
/-- the records at fp as they stand -/
def pinsAt (fp : List Addr) (h : Heap) : List (Addr × Obj) := fp.filterMap fun b => (h.get? b).map fun o => (b, o)
theorem mem_pinsAt {fp : List Addr} {h : Heap} {b : Addr} {o : Obj} (hb : b ∈ fp) (e : h.get? b = some o) : (b, o) ∈ pinsAt fp h := List.mem_filterMap.mpr ⟨b, hb, by rw [e]; rfl⟩
theorem of_pinsAt {fp : List Addr} {h : Heap} {p : Addr × Obj} (hp : p ∈ pinsAt fp h) : p.1 ∈ fp ∧ h.get? p.1 = some p.2 := by
  obtain ⟨b, hb, e⟩ := List.mem_filterMap.mp hp
  cases q : h.get? b with
  | none => rw [q] at e; cases e
  | some o =>
    rw [q] at e
    have e' : (b, o) = p := Option.some.inj e
    subst e'
    exact ⟨hb, q⟩
theorem Inv.pinned {pins : List (Addr × Obj)} {σ : St} {H : Hp} {s : Shared} {fp : List Addr} (I : Inv X pins σ H s) (hf : ∀ b ∈ fp, FpOk X pins H b) (ho : ∀ b ∈ fp, ∃ o, s.heap.get? b = some o ∧ ∀ v, o.data ≠ .cell v) : Inv X (pins ++ pinsAt fp s.heap) σ H s :=
  I.pins_of fun p hp => (List.mem_append.mp hp).elim (fun z => I.pin p (List.mem_append_right _ z)) fun z => by
    obtain ⟨hb, e⟩ := of_pinsAt z
    obtain ⟨f0, f1, f2, _⟩ := hf p.1 hb
    obtain ⟨o, e', d⟩ := ho p.1 hb
    rw [e] at e'; cases e'
    exact ⟨e, f0, f1, f2, d⟩
theorem Inv.unpinned {pins pl : List (Addr × Obj)} {σ : St} {H : Hp} {s : Shared} (I : Inv X (pins ++ pl) σ H s) : Inv X pins σ H s := I.pins_of fun p hp => I.pin p (List.mem_append_right _ (List.mem_append_left _ hp))
theorem ps_for {iter : Expr} {body : List Stmt} {wi : TI} {g : TG} {tb : TS} {pos : Pos} (hp : PassesOwn (model X.prog X.w) X.A X.env X.xe) (hc : X.calm = true) (hi : PI X tg iter wi) (hg : PG X tg g) (hb : PSs X body tb)
    (hs : ∀ x, foldedSetIterable iter X.env x = pure x := by intro _; rfl) : PS X (.For tg iter body [] pos) (tFor wi g tb) := by
  intro pins s σ H D I h
  refine wpAny_For (thn (hi pins s σ H _ I h) fun v s1 h1 => thn h1 fun itv s2 h2 => ?_) hs
  obtain ⟨it, fp, tn, J, H2, e, I2, T, st2, f2, W, ⟨m0, w0⟩, turn⟩ := h2
  subst e
  -- what stays true of the iterator's objects through the loop
  have stat : ∀ {H' : Hp}, (∀ b ∈ fp, H' b = none) → ∀ b ∈ fp, FpOk X pins H' b := fun hn b hb => ⟨hn b hb, (f2 b hb).2⟩
  refine codeAny_forLoop_any (fun n s' => ∃ i σ' H', Inv X pins σ' H' s' ∧ tn i s'.heap ∧ (∀ b ∈ fp, H' b = none) ∧ W i n σ' H') ?_ m0 ⟨0, σ, H2, I2, st2, fun b hb => (f2 b hb).1, w0⟩
  rintro n s3 ⟨i, σ3, H3, I3, st3, fr3, w3⟩
  rcases turn i n σ3 H3 w3 with ⟨stop, qn⟩ | ⟨go, N, hN, step⟩
  · refine wpAny_passesOwn hp (thn (T.done X rfl rfl rfl hc i pins s3 σ3 H3 X.xe I3 (stat fr3) st3 stop) fun r s4 ⟨hr, I4⟩ => ?_)
    subst hr
    exact wpAny_execs_nil ⟨σ3, H3, I4, qn⟩
  · refine wpAny_passesOwn hp (thn (T.item X rfl rfl rfl hc i pins s3 σ3 H3 X.xe I3 (stat fr3) st3 go) fun r s4 ⟨u, hr, h4⟩ => ?_)
    subst hr
    refine wpAny_passesOwn hp (thn h4 fun _ s5 ⟨x, H5, I5, r5, y5, st5, fr5⟩ => ?_)
    have I5' := I5.pinned (stat fr5) (T.obj _ _ st5)
    refine wpAny_passesOwn hp (thn (hg _ s5 σ3 H5 x u _ I5' r5 (step x H5 y5)) fun _ s6 ⟨σ6, H6, I6, q6⟩ => ?_)
    refine wpAny_passesOwn hp (thn (hb _ s6 σ6 H6 _ I6 q6) fun f s7 q7 => ?_)
    have again : ∀ {σ7 : St} {H7 : Hp}, Inv X (pins ++ pinsAt fp s5.heap) σ7 H7 s7 → N σ7 H7 → ∃ m, m < n ∧ ∃ i σ' H', Inv X pins σ' H' s7 ∧ tn i s7.heap ∧ (∀ b ∈ fp, H' b = none) ∧ W i m σ' H' := fun {σ7 H7} I7 n7 => by
      obtain ⟨m', hm, w7⟩ := hN σ7 H7 n7
      refine ⟨m', hm, i + 1, σ7, H7, I7.unpinned, T.keep _ _ _ st5 fun b hb o e => (I7.pin (b, o) (List.mem_append_right _ (List.mem_append_right _ (mem_pinsAt hb e)))).1, fun b hb => ?_, w7⟩
      obtain ⟨o, e, d⟩ := T.obj _ _ st5 b hb
      exact (I7.pin (b, o) (List.mem_append_right _ (List.mem_append_right _ (mem_pinsAt hb e)))).2.1
    cases f with
    | next => obtain ⟨σ7, H7, I7, n7⟩ := q7; exact again I7 n7
    | cont => obtain ⟨σ7, H7, I7, n7⟩ := q7; exact again I7 n7
    | brk => obtain ⟨σ7, H7, I7, q7⟩ := q7; exact ⟨σ7, H7, I7.unpinned, q7⟩
    | ret v => obtain ⟨x7, σ7, H7, I7, r7, q7⟩ := q7; exact ⟨x7, σ7, H7, I7.unpinned, r7, q7⟩
end

end L2

namespace L2
open PySem PySem.Spec PyProof.Rows

abbrev R2 := V → V → Hp → VK → Prop
/-- a two-place operation on values: f is binaryOp op, inplaceOp op or compareOp op -/
def OpR (X : Cx) (f : Value → Value → Sem Value) (r : R2) : Prop :=
  ∀ (pins : List (Addr × Obj)) (s : Shared) (σ : St) (H : Hp) (x y : V) (v u : Value) (Q : VK), Inv X pins σ H s → RelV x v → RelV y u → r x y H Q →
    wpAny (model X.prog X.w) X.A (f v u) (EP X pins σ Q) X.xe s
/-- a one-place operation -/
def UnR (X : Cx) (f : Value → Sem Value) (r : V → Hp → VK → Prop) : Prop :=
  ∀ (pins : List (Addr × Obj)) (s : Shared) (σ : St) (H : Hp) (x : V) (v : Value) (Q : VK), Inv X pins σ H s → RelV x v → r x H Q →
    wpAny (model X.prog X.w) X.A (f v) (EP X pins σ Q) X.xe s
/-- a call of a value that is known (a builtin, a type) with values -/
def CallR (X : Cx) (f : Value) (r : List V → Hp → VK → Prop) : Prop :=
  ∀ (pins : List (Addr × Obj)) (s : Shared) (σ : St) (H : Hp) (xs : List V) (us : List Value) (Q : VK), Inv X pins σ H s → Vals xs us → r xs H Q →
    wpAny (model X.prog X.w) X.A (call f us) (EP X pins σ Q) X.xe s
/-- a value's truth -/
def TruR (X : Cx) (r : V → Hp → (Bool → Hp → Prop) → Prop) : Prop :=
  ∀ (pins : List (Addr × Obj)) (s : Shared) (σ : St) (H : Hp) (x : V) (v : Value) (Q : Bool → Hp → Prop), Inv X pins σ H s → RelV x v → r x H Q →
    wpAny (model X.prog X.w) X.A (truthy v) (TP X pins σ Q) X.xe s

def tOp (r : R2) (ta tb : TE) : TE := fun σ H Q => ta σ H fun x H1 => tb σ H1 fun y H2 => r x y H2 Q
def tUn (r : V → Hp → VK → Prop) (ta : TE) : TE := fun σ H Q => ta σ H fun x H1 => r x H1 Q
/-- ints in, under C, and a value out -/
def rI (C : Int → Int → Prop) (g : Int → Int → V) : R2 := fun x y H Q => ∃ i j, x = .int i ∧ y = .int j ∧ C i j ∧ Q (g i j) H
def rI0 (g : Int → Int → V) : R2 := fun x y H Q => ∃ i j, x = .int i ∧ y = .int j ∧ Q (g i j) H
def rU (g : Int → V) : V → Hp → VK → Prop := fun x H Q => ∃ i, x = .int i ∧ Q (g i) H

section
variable {X : Cx} {a b c : Expr} {ta tb tc : TE} {pos : Pos}

theorem binT (ha : PE X a ta) (hb : PE X b tb) {pins : List (Addr × Obj)} {s : Shared} {σ : St} {H : Hp} {R : V → V → Hp → Prop} (I : Inv X pins σ H s)
    (h : ta σ H fun x H1 => tb σ H1 fun y H2 => R x y H2) {Q : Value → Shared → Prop} {f : Value → Value → Sem Value}
    (hf : ∀ v u s2 x y H2, Inv X pins σ H2 s2 → RelV x v → RelV y u → R x y H2 → wpAny (model X.prog X.w) X.A (f v u) Q X.xe s2) :
    wpAny (model X.prog X.w) X.A (eval a X.env) (fun v s₁ => wpAny (model X.prog X.w) X.A (eval b X.env) (fun u s₂ => wpAny (model X.prog X.w) X.A (f v u) Q X.xe s₂) X.xe s₁) X.xe s := by
  refine thn (ha pins s σ H _ I h) fun v s1 ⟨x, H1, I1, r1, q1⟩ => ?_
  refine thn (hb pins s1 σ H1 _ I1 q1) fun u s2 ⟨y, H2, I2, r2, q2⟩ => ?_
  exact hf v u s2 x y H2 I2 r1 r2 q2

theorem pe_op {op : Operator} {r : R2} (ho : OpR X (binaryOp op) r) (ha : PE X a ta) (hb : PE X b tb) : PE X (.BinOp a op b pos) (tOp r ta tb) := by
  intro pins s σ H Q I h
  exact wpAny_BinOp (binT ha hb I h fun v u s2 x y H2 I2 rx ry q => ho pins s2 σ H2 x y v u Q I2 rx ry q)
theorem pe_un {op : UnaryOp} {r : V → Hp → VK → Prop} (ho : UnR X (unaryOp op) r) (ha : PE X a ta) : PE X (.UnaryOp op a pos) (tUn r ta) := by
  intro pins s σ H Q I h
  exact UnaryOp_ (thn (ha pins s σ H _ I h) fun v s1 ⟨x, H1, I1, r1, q1⟩ => ho pins s1 σ H1 x v Q I1 r1 q1)
/-! ### ints -/
theorem opI {f : Value → Value → Sem Value} {C : Int → Int → Prop} {g : Int → Int → Int}
    (rule : ∀ (i j : Int) (t u : Tok) (s : Shared) (Q : Value → Shared → Prop) (E : Value → Shared → Prop), C i j → Q (.int (g i j) s.toks) { s with toks := s.toks + 1 } → wpAny (model X.prog X.w) X.A (f (.int i t) (.int j u)) Q E s) :
    OpR X f (rI C fun i j => .int (g i j)) := by
  intro pins s σ H x y v u Q I rx ry h
  obtain ⟨i, j, rfl, rfl, hc, q⟩ := h
  obtain ⟨t, rfl⟩ := rx
  obtain ⟨t', rfl⟩ := ry
  exact rule i j t t' s _ _ hc ⟨.int (g i j), H, I.tok _, ⟨_, rfl⟩, q⟩
theorem opI0 {f : Value → Value → Sem Value} {g : Int → Int → Int}
    (rule : ∀ (i j : Int) (t u : Tok) (s : Shared) (Q : Value → Shared → Prop) (E : Value → Shared → Prop), Q (.int (g i j) s.toks) { s with toks := s.toks + 1 } → wpAny (model X.prog X.w) X.A (f (.int i t) (.int j u)) Q E s) :
    OpR X f (rI0 fun i j => .int (g i j)) := by
  intro pins s σ H x y v u Q I rx ry h
  obtain ⟨i, j, rfl, rfl, q⟩ := h
  obtain ⟨t, rfl⟩ := rx
  obtain ⟨t', rfl⟩ := ry
  exact rule i j t t' s _ _ ⟨.int (g i j), H, I.tok _, ⟨_, rfl⟩, q⟩
theorem opB0 {f : Value → Value → Sem Value} {g : Int → Int → Bool}
    (rule : ∀ (i j : Int) (t u : Tok) (s : Shared) (Q : Value → Shared → Prop) (E : Value → Shared → Prop), Q (.bool (g i j)) s → wpAny (model X.prog X.w) X.A (f (.int i t) (.int j u)) Q E s) :
    OpR X f (rI0 fun i j => .bl (g i j)) := by
  intro pins s σ H x y v u Q I rx ry h
  obtain ⟨i, j, rfl, rfl, q⟩ := h
  obtain ⟨t, rfl⟩ := rx
  obtain ⟨t', rfl⟩ := ry
  exact rule i j t t' s _ _ ⟨.bl (g i j), H, I, rfl, q⟩

def CDiv (i j : Int) : Prop := 0 < j ∧ j < 1073741824
def CPow (i j : Int) : Prop := 0 ≤ j ∧ j ≤ 1000000 ∧ i.natAbs < 2 ^ 64
def CMul (i j : Int) : Prop := (-(2 ^ 64) < i ∧ i < 2 ^ 64) ∨ (-(2 ^ 64) < j ∧ j < 2 ^ 64)
theorem CMul.ok {i j : Int} (h : CMul i j) : IntMulOk i j := by
  rcases h with ⟨h1, h2⟩ | ⟨h1, h2⟩
  · exact .of_left (intBits_le_64 h1 h2)
  · exact .of_right (intBits_le_64 h1 h2)
theorem op_add : OpR X (binaryOp .Add) (rI0 fun i j => .int (i + j)) := opI0 fun _ _ _ _ _ _ _ q => add_int q
theorem op_sub : OpR X (binaryOp .Sub) (rI0 fun i j => .int (i - j)) := opI0 fun _ _ _ _ _ _ _ q => sub_int q
theorem op_mul : OpR X (binaryOp .Mult) (rI CMul fun i j => .int (i * j)) := opI fun _ _ _ _ _ _ _ hc q => mul_int q hc.ok
/-- // by a positive divisor -/
theorem op_fdiv : OpR X (binaryOp .FloorDiv) (rI CDiv fun i j => .int (i / j)) := opI fun i j _ _ _ _ _ hc q => by
  have h1 : (0 : Int) < j := hc.1
  have h2 : j < 1073741824 := hc.2
  exact floordiv_int (by omega) (by rw [Int.fdiv_eq_ediv_of_nonneg i (by omega)]; exact q) (.inl (PyProof.noPylong_small (by omega)))
/-- % by a positive divisor of any size -/
theorem op_mod : OpR X (binaryOp .Mod) (rI (fun _ j => 0 < j) fun i j => .int (i % j)) := opI fun i j _ _ _ _ _ hc q => by
  have h1 : (0 : Int) < j := hc
  exact mod_int' (by omega) (by rw [Int.fmod_eq_emod_of_nonneg i (by omega)]; exact q)
theorem op_pow : OpR X (binaryOp .Pow) (rI CPow fun i j => .int (i ^ j.toNat)) := opI fun _ _ _ _ _ _ _ hc q => pow_int_small hc.1 hc.2.1 hc.2.2 q
theorem unI {f : Value → Sem Value} {g : Int → Int}
    (rule : ∀ (i : Int) (t : Tok) (s : Shared) (Q : Value → Shared → Prop) (E : Value → Shared → Prop), Q (.int (g i) s.toks) { s with toks := s.toks + 1 } → wpAny (model X.prog X.w) X.A (f (.int i t)) Q E s) :
    UnR X f (rU fun i => .int (g i)) := by
  intro pins s σ H x v Q I rx h
  obtain ⟨i, rfl, q⟩ := h
  obtain ⟨t, rfl⟩ := rx
  exact rule i t s _ _ ⟨.int (g i), H, I.tok _, ⟨_, rfl⟩, q⟩
theorem un_neg : UnR X (unaryOp .USub) (rU fun i => .int (-i)) := unI fun _ _ _ _ _ q => neg_int q
end

/-! ### comparisons -/
/-- the scalars that == tells apart as data does -/
def scal : V → V → Bool
  | .non, .non => true | .non, .int _ => true | .int _, .non => true | .non, .bl _ => true | .bl _, .non => true | .non, .str _ => true | .str _, .non => true
  | .int _, .int _ => true | .bl _, .bl _ => true | .str _, .str _ => true | .byt _, .byt _ => true
  | .int _, .str _ => true | .str _, .int _ => true | .bl _, .str _ => true | .str _, .bl _ => true
  | _, _ => false
def rEq : R2 := fun x y H Q => scal x y = true ∧ Q (.bl (decide (x = y))) H
def rNe : R2 := fun x y H Q => scal x y = true ∧ Q (.bl (!decide (x = y))) H

theorem dec_int {i j : Int} : decide (V.int i = V.int j) = (i == j) := by
  rw [Bool.eq_iff_iff]
  simp
theorem dec_bl {i j : Bool} : decide (V.bl i = V.bl j) = (i == j) := by
  rw [Bool.eq_iff_iff]
  simp
theorem dec_str {i j : Str} : decide (V.str i = V.str j) = (i == j) := by
  rw [Bool.eq_iff_iff]
  simp
theorem dec_byt {i j : Array UInt8} : decide (V.byt i = V.byt j) = (i.toList == j.toList) := by
  rw [Bool.eq_iff_iff]
  cases i
  cases j
  simp

section
variable {X : Cx} {a b c : Expr} {ta tb tc : TE} {pos : Pos}
theorem fin_bl {pins : List (Addr × Obj)} {σ : St} {H : Hp} {s : Shared} {Q : VK} {k k' : Bool} (I : Inv X pins σ H s) (q : Q (.bl k) H) (e : k = k') : EP X pins σ Q (.bool k') s := by
  subst e
  exact ⟨.bl k, H, I, rfl, q⟩
theorem op_eq : OpR X (compareOp .Eq) rEq := by
  intro pins s σ H x y v u Q I rx ry h
  obtain ⟨hs, q⟩ := h
  cases x with
  | non =>
    cases rx
    cases y with
    | non => cases ry; exact PySem.EqNone.eq_none_none (fin_bl I q (by simp))
    | bl j => cases ry; exact PySem.EqNone.eq_none_bool (fin_bl I q (by simp))
    | int j => obtain ⟨t', rfl⟩ := ry; exact PySem.EqNone.eq_none_int (fin_bl I q (by simp))
    | str j => obtain ⟨t', rfl⟩ := ry; exact PySem.EqNone.eq_none_str (fin_bl I q (by simp))
    | _ => exact absurd (show false = true from hs) Bool.false_ne_true
  | bl i =>
    cases rx
    cases y with
    | non => cases ry; exact PySem.EqNone.eq_bool_none (fin_bl I q (by simp))
    | bl j => cases ry; exact eq_bool (fin_bl I q dec_bl)
    | str j => obtain ⟨t', rfl⟩ := ry; exact PySem.EqMixed.eq_bool_str (fin_bl I q (by simp))
    | _ => exact absurd (show false = true from hs) Bool.false_ne_true
  | int i =>
    obtain ⟨t, rfl⟩ := rx
    cases y with
    | non => cases ry; exact PySem.EqNone.eq_int_none (fin_bl I q (by simp))
    | int j => obtain ⟨t', rfl⟩ := ry; exact eq_int (fin_bl I q dec_int)
    | str j => obtain ⟨t', rfl⟩ := ry; exact PySem.EqMixed.eq_int_str (fin_bl I q (by simp))
    | _ => exact absurd (show false = true from hs) Bool.false_ne_true
  | str i =>
    obtain ⟨t, rfl⟩ := rx
    cases y with
    | non => cases ry; exact PySem.EqNone.eq_str_none (fin_bl I q (by simp))
    | bl j => cases ry; exact PySem.EqMixed.eq_str_bool (fin_bl I q (by simp))
    | int j => obtain ⟨t', rfl⟩ := ry; exact PySem.EqMixed.eq_str_int (fin_bl I q (by simp))
    | str j => obtain ⟨t', rfl⟩ := ry; exact eq_str (fin_bl I q dec_str)
    | _ => exact absurd (show false = true from hs) Bool.false_ne_true
  | byt i =>
    obtain ⟨t, rfl⟩ := rx
    cases y with
    | byt j => obtain ⟨t', rfl⟩ := ry; exact PySem.W.eq_bytes (fin_bl I q dec_byt)
    | _ => exact absurd (show false = true from hs) Bool.false_ne_true
  | _ => cases y <;> exact absurd (show false = true from hs) Bool.false_ne_true
theorem op_ne : OpR X (compareOp .NotEq) rNe := by
  intro pins s σ H x y v u Q I rx ry h
  obtain ⟨hs, q⟩ := h
  cases x with
  | non =>
    cases rx
    cases y with
    | non => cases ry; exact PySem.EqNone.ne_none_none (fin_bl I q (by simp))
    | bl j => cases ry; exact PySem.EqNone.ne_none_bool (fin_bl I q (by simp))
    | int j => obtain ⟨t', rfl⟩ := ry; exact PySem.EqNone.ne_none_int (fin_bl I q (by simp))
    | str j => obtain ⟨t', rfl⟩ := ry; exact PySem.EqNone.ne_none_str (fin_bl I q (by simp))
    | _ => exact absurd (show false = true from hs) Bool.false_ne_true
  | bl i =>
    cases rx
    cases y with
    | non => cases ry; exact PySem.EqNone.ne_bool_none (fin_bl I q (by simp))
    | bl j => cases ry; exact ne_bool (fin_bl I q (congrArg not dec_bl))
    | str j => obtain ⟨t', rfl⟩ := ry; exact PySem.EqMixed.ne_bool_str (fin_bl I q (by simp))
    | _ => exact absurd (show false = true from hs) Bool.false_ne_true
  | int i =>
    obtain ⟨t, rfl⟩ := rx
    cases y with
    | non => cases ry; exact PySem.EqNone.ne_int_none (fin_bl I q (by simp))
    | int j => obtain ⟨t', rfl⟩ := ry; exact ne_int (fin_bl I q (congrArg not dec_int))
    | str j => obtain ⟨t', rfl⟩ := ry; exact PySem.EqMixed.ne_int_str (fin_bl I q (by simp))
    | _ => exact absurd (show false = true from hs) Bool.false_ne_true
  | str i =>
    obtain ⟨t, rfl⟩ := rx
    cases y with
    | non => cases ry; exact PySem.EqNone.ne_str_none (fin_bl I q (by simp))
    | bl j => cases ry; exact PySem.EqMixed.ne_str_bool (fin_bl I q (by simp))
    | int j => obtain ⟨t', rfl⟩ := ry; exact PySem.EqMixed.ne_str_int (fin_bl I q (by simp))
    | str j => obtain ⟨t', rfl⟩ := ry; exact ne_str (fin_bl I q (congrArg not dec_str))
    | _ => exact absurd (show false = true from hs) Bool.false_ne_true
  | byt i =>
    obtain ⟨t, rfl⟩ := rx
    cases y with
    | byt j => obtain ⟨t', rfl⟩ := ry; exact PySem.W.ne_bytes (fin_bl I q (congrArg not dec_byt))
    | _ => exact absurd (show false = true from hs) Bool.false_ne_true
  | _ => cases y <;> exact absurd (show false = true from hs) Bool.false_ne_true

theorem op_lt : OpR X (compareOp .Lt) (rI0 fun i j => .bl (decide (i < j))) := opB0 fun _ _ _ _ _ _ _ q => lt_int q
theorem op_le : OpR X (compareOp .LtE) (rI0 fun i j => .bl (decide (i ≤ j))) := opB0 fun _ _ _ _ _ _ _ q => le_int q
theorem op_gt : OpR X (compareOp .Gt) (rI0 fun i j => .bl (decide (j < i))) := opB0 fun _ _ _ _ _ _ _ q => gt_int q
/-- is None, is not None: the right side a value none -/
theorem op_isN : OpR X (compareOp .Is) (fun x y H Q => y = .non ∧ Q (.bl (decide (x = .non))) H) := by
  intro pins s σ H x y v u Q I rx ry h
  obtain ⟨rfl, q⟩ := h
  cases ry
  refine is_none_gen (fin_bl I q ?_)
  cases x <;> first
    | (cases rx; rfl)
    | (obtain ⟨t, rfl⟩ := rx; rfl)
theorem nomark (b : Expr) {op : CmpOp} (h : op ≠ .In := by decide) (h2 : op ≠ .NotIn := by decide) : behindInMarks op b = false := by
  have e1 : (op == CmpOp.In) = false := by cases op <;> first | rfl | exact absurd rfl h
  have e2 : (op == CmpOp.NotIn) = false := by cases op <;> first | rfl | exact absurd rfl h2
  cases b <;> simp [behindInMarks, e1, e2]
/-- a comparison as a value; hm: nomark b, or (for in, not in) by with_unfolding_all rfl -/
theorem pe_cmpR {op : CmpOp} {r : R2} (ho : OpR X (compareOp op) r) (ha : PE X a ta) (hb : PE X b tb) (hm : behindInMarks op b = false) : PE X (.Compare a [op] [b] pos) (tOp r ta tb) := by
  intro pins s σ H Q I h
  exact wpAny_Compare1 (binT ha hb I h fun v u s2 x y H2 I2 rx ry q => ho pins s2 σ H2 x y v u Q I2 rx ry q) hm
/-- a reading of a value as a test -/
def tTest (t : TE) : TT := fun σ H Q => t σ H fun x H' => ∃ k, x = .bl k ∧ Q k H'
theorem pt_cmpR {op : CmpOp} {r : R2} (ho : OpR X (compareOp op) r) (ha : PE X a ta) (hb : PE X b tb) (hm : behindInMarks op b = false) : PT X (.Compare a [op] [b] pos) (tTest (tOp r ta tb)) := by
  intro pins s σ H Q I h
  refine wpAny_isTrue_Compare1 (thn (ha pins s σ H _ I h) fun v s1 ⟨x, H1, I1, r1, q1⟩ => thn (hb pins s1 σ H1 _ I1 q1) fun u s2 ⟨y, H2, I2, r2, q2⟩ =>
    thn (ho pins s2 σ H2 x y v u _ I2 r1 r2 q2) fun c s3 ⟨z, H3, I3, r3, k, e, q3⟩ => ?_) hm
  subst e
  cases r3
  exact wpAny_truthy_bool ⟨H3, I3, q3⟩
/-- a op1 b op2 c -/
def tChain (r r' : R2) (ta tb tc : TE) : TE := fun σ H Q => ta σ H fun x H1 => tb σ H1 fun y H2 => r x y H2 fun z H3 => ∃ k, z = .bl k ∧
  (if k = true then tc σ H3 fun w' H4 => r' y w' H4 Q else Q (.bl false) H3)
theorem pt_chain {op op' : CmpOp} {r r' : R2} (ho : OpR X (compareOp op) r) (ho' : OpR X (compareOp op') r') (ha : PE X a ta) (hb : PE X b tb) (hc : PE X c tc)
    (hm : lastMarks [op, op'] [b, c] = false := by with_unfolding_all rfl) : PT X (.Compare a [op, op'] [b, c] pos) (tTest (tChain r r' ta tb tc)) := by
  intro pins s σ H Q I h
  refine isTrue_chain (thn (ha pins s σ H _ I h) fun v s1 ⟨x, H1, I1, r1, q1⟩ => test_link (thn (hb pins s1 σ H1 _ I1 q1) fun u s2 ⟨y, H2, I2, r2, q2⟩ =>
    thn (ho pins s2 σ H2 x y v u _ I2 r1 r2 q2) fun d s3 ⟨z, H3, I3, r3, k, e, q3⟩ => ?_)) hm
  subst e
  cases r3
  refine wpAny_truthy_bool ?_
  cases k with
  | false =>
    obtain ⟨k', e', q'⟩ := q3
    cases e'
    exact ite_ff ⟨H3, I3, q'⟩
  | true =>
    refine ite_tt (test_last (thn (hc pins s3 σ H3 _ I3 q3) fun w' s4 ⟨z', H4, I4, r4, q4⟩ => thn (ho' pins s4 σ H4 y z' u w' _ I4 r2 r4 q4) fun d' s5 ⟨z2, H5, I5, r5, k2, e2, q5⟩ => ?_))
    subst e2
    cases r5
    exact wpAny_truthy_bool ⟨H5, I5, q5⟩

/-! ### truth -/
/-- a value's truth by the abstract heap -/
def TruV (K : PySem.W.Frag) (x : V) (H : Hp) (k : Bool) : Prop :=
  match x with
  | .non => k = false
  | .bl b => k = b
  | .int i => k = (i != 0)
  | .str y => y.length ≤ sizeLine ∧ k = ((y.length : Int) != 0)
  | .byt y => y.size ≤ sizeLine ∧ k = ((y.size : Int) != 0)
  | .ref p => (∃ xs, SqL K H p xs ∧ k = !xs.isEmpty) ∨ (∃ xs, SqT K H p xs ∧ k = !xs.isEmpty) ∨ ∃ kvs, H p = some (.dK kvs) ∧ k = !kvs.isEmpty
  | _ => False
theorem isEmpty_kv {κ : Type} {kvs : List (κ × V)} {vs : List (κ × Value)} (r : KV kvs vs) : (!vs.isEmpty) = !kvs.isEmpty := by
  cases r <;> rfl
theorem isEmpty_of {xs : List V} {its : List Value} (r : Vals xs its) : (!its.toArray.isEmpty) = !xs.isEmpty := by
  cases r <;> simp
theorem line63 : (sizeLine : Nat) < 2 ^ 63 := by rw [sizeLine_eq]; decide
theorem tru_ok : TruR X (fun x H Q => ∃ k, TruV X.K x H k ∧ Q k H) := by
  intro pins s σ H x v Q I rx h
  obtain ⟨k, e, q⟩ := h
  have hl := line63
  have hs : sizeLine = 16777216 := sizeLine_eq
  cases x with
  | non =>
    cases rx
    have e' : k = false := e
    subst e'
    exact truthy_none ⟨H, I, q⟩
  | bl b =>
    cases rx
    have e' : k = b := e
    subst e'
    exact wpAny_truthy_bool ⟨H, I, q⟩
  | int i =>
    obtain ⟨t, rfl⟩ := rx
    have e' : k = (i != 0) := e
    subst e'
    exact PySem.P.truthy_int ⟨H, I, q⟩
  | str y =>
    obtain ⟨t, rfl⟩ := rx
    obtain ⟨hy, e'⟩ : y.length ≤ sizeLine ∧ k = ((y.length : Int) != 0) := e
    subst e'
    exact PySem.P.truthy_str (by omega) ⟨H, I.tok _, q⟩
  | byt y =>
    obtain ⟨t, rfl⟩ := rx
    obtain ⟨hy, e'⟩ : y.size ≤ sizeLine ∧ k = ((y.size : Int) != 0) := e
    subst e'
    exact PySem.W.truthy_bytes (by omega) ⟨H, I.tok _, q⟩
  | ref p =>
    cases rx
    have e' : (∃ xs, SqL X.K H p xs ∧ k = !xs.isEmpty) ∨ (∃ xs, SqT X.K H p xs ∧ k = !xs.isEmpty) ∨ ∃ kvs, H p = some (.dK kvs) ∧ k = !kvs.isEmpty := e
    rcases e' with ⟨xs, hx, e'⟩ | ⟨xs, hx, e'⟩ | ⟨kvs, hx, e'⟩
    · subst e'
      obtain ⟨its, r, pl, hz⟩ := I.list hx
      have hlen := r.length
      exact wpAny_truthy_list pl.isList (by simp only [List.size_toArray]; omega) ⟨H, I.tok _, by rw [isEmpty_of r]; exact q⟩
    · subst e'
      obtain ⟨its, r, pl, hz⟩ := I.tuple hx
      have hlen := r.length
      exact truthy_tuple pl (by simp only [List.size_toArray]; omega) ⟨H, I.tok _, by rw [isEmpty_of r]; exact q⟩
    · subst e'
      obtain ⟨hz, hS, vs, r, m⟩ : kvs.length ≤ sizeLine ∧ (p == sysModules) = false ∧ ∃ vs, KV kvs vs ∧ s.heap.DictOf (mixKind X.prog X.w) p vs := I.hok p _ hx
      have hlen : kvs.length = vs.length := Paired.length r
      exact wpAny_truthy_dict hS m (by omega) ⟨H, I.tok _, by rw [isEmpty_kv r]; exact q⟩
  | _ => exact (show False from e).elim
/-- any expression whose test is its value's truth (a name, a call, a subscript, a field ..: he by fun _ => rfl) -/
theorem pt_truth (ha : PE X a ta) (he : ∀ whole, isTrue a X.env whole = (do let v ← whole; standAt a.pos; holding [v] (truthy v))) :
    PT X a (fun σ H Q => ta σ H fun x H' => ∃ k, TruV X.K x H' k ∧ Q k H') := by
  intro pins s σ H Q I h
  exact isTrue_plain (thn (ha pins s σ H _ I h) fun v s1 ⟨x, H1, I1, r1, q1⟩ => tru_ok pins s1 σ H1 x v Q I1 r1 q1) (he _)

theorem op_add_str : OpR X (binaryOp .Add) (fun x y H Q => ∃ i j, x = .str i ∧ y = .str j ∧ i.length + j.length ≤ sizeLine ∧ Q (.str (i ++ j)) H) := by
  intro pins s σ H x y v u Q I rx ry h
  obtain ⟨i, j, rfl, rfl, hz, q⟩ := h
  obtain ⟨t, rfl⟩ := rx
  obtain ⟨t', rfl⟩ := ry
  exact add_str (fun t' tk => ⟨.str (i ++ j), H, I.tok _, ⟨_, rfl⟩, q⟩) hz
/-! ### scalar builtins, by CallR -/
theorem vals1 {x : V} {us : List Value} (r : Vals [x] us) : ∃ u, us = [u] ∧ RelV x u := by
  cases r with
  | cons r1 r2 => cases r2; exact ⟨_, rfl, r1⟩
theorem vals2 {x y : V} {us : List Value} (r : Vals [x, y] us) : ∃ u w', us = [u, w'] ∧ RelV x u ∧ RelV y w' := by
  cases r with
  | cons r1 r2 =>
    cases r2 with
    | cons r3 r4 => cases r4; exact ⟨_, _, rfl, r1, r3⟩
end
end L2

namespace L2
open PySem PySem.Spec PyProof.Rows

/-! ### an instance, its attributes a map -/
structure ObjM (h : Heap) (x dx C : Addr) (mA : Str → Option Value) : Prop where
  obj : h.get? x = some (PySem.W.instObj C dx)
  ns : h.Ns1 dx mA
  ne : dx ≠ x

theorem lookIn_ns {h : Heap} {dx : Addr} {mA : Str → Option Value} (n : h.Ns1 dx mA) : ∃ od, h.get? dx = some od ∧ ∀ name, PySem.W.lookIn name od = some (mA name) := by
  obtain ⟨o, es, ep, ho, hd, hk, _, hm⟩ := n
  refine ⟨o, ho, fun name => ?_⟩
  have e := hm name
  unfold nsFind findBy at e
  rw [← Array.find?_toList] at e
  unfold PySem.W.lookIn
  rw [hd]
  dsimp only
  split
  · rename_i y q
    rw [q] at e
    exact congrArg some e
  · rename_i q
    rw [q] at e
    have a : es.toList.any (·.refKey) = false := by
      rw [List.any_eq_false]
      intro y hy
      obtain ⟨z, t, hkey⟩ := hk y (Array.mem_toList_iff.mp hy)
      simp [DictEntry.refKey, hkey]
    have a' : ¬ es.toList.any (·.refKey) = true := by rw [a]; exact Bool.false_ne_true
    rw [if_neg a']
    exact congrArg some e

theorem ObjM.look {h : Heap} {x dx C : Addr} {mA : Str → Option Value} (I : ObjM h x dx C mA) : ∃ od, PySem.W.InstAt h x (PySem.W.instObj C dx) C (some od) ∧ ∀ name, PySem.W.lookIn name od = some (mA name) :=
  let ⟨od, ho, hl⟩ := lookIn_ns I.ns
  ⟨od, ⟨I.obj, rfl, rfl, ho⟩, hl⟩

section
variable {prog : Program} {w : World} {A : Around} {E : Value → Shared → Prop} {s : Shared} {K : PySem.W.Frag} {x dx C f : Addr} {mA : Str → Option Value} {name : Str} {v : Value}

end

section
variable {P : Program} {w : World} {H H' : Hp} {h h' : Heap} {a C dx : Addr} {fs fs' : List (Str × V)}
theorem ins_get (hok : HOk P w H h) (e : H a = some (.ins C dx fs)) : ∃ mA, ObjM h a dx C mA ∧ (∀ f, RelO (fs.lookup f) (mA f)) ∧ PySem.Within mA (fs.map (·.1)) ∧ fs.length ≤ 1000 ∧ H dx = some (.own a) := by
  obtain ⟨d, z, ne, ob, mA, n, r, q⟩ := (show ObjOk P w H h a (.ins C dx fs) from hok a _ e)
  exact ⟨mA, ⟨ob, n, ne⟩, r, q, z, d⟩
end

/-! ### what of the text a class must have -/
structure Cls (K : PySem.W.Frag) (C : Addr) : Prop where
  pg : PySem.W.plainGet K C Str.empty = true
  hd : PySem.W.hasDictIn K C = true
  po : PySem.W.plainOver K C = true
  sa : PySem.W.findIn K (.ref C) "__setattr__" = some (some (.builtin "object.__setattr__"))
theorem Cls.get {K : PySem.W.Frag} {C : Addr} (c : Cls K C) (f : Str) : PySem.W.plainGet K C f = true := c.pg
section
variable {X : Cx} {pins : List (Addr × Obj)} {σ : St} {H : Hp} {s : Shared} {a C dx : Addr} {fs : List (Str × V)} {f : Str} {v : V} {A : Around} {E : Value → Shared → Prop}

end

section
variable {X : Cx} {o e value : Expr} {f : Str} {pos pos' tpos : Pos} {ta tv : TE}
end

/-! ### isinstance -/
section
variable {X : Cx} {pins : List (Addr × Obj)} {σ : St} {H : Hp} {s : Shared} {A : Around} {E : Value → Shared → Prop} {Q : Value → Shared → Prop} {c : Value} {b : Bool}
/-- the type of a value, as the fragment's deciders take it; for an instance its class -/
inductive TyOf (K : PySem.W.Frag) (H : Hp) : V → Value → Prop where
  | non : TyOf K H .non (.type "NoneType")
  | bl (x : Bool) : TyOf K H (.bl x) (.type "bool")
  | int (i : Int) : TyOf K H (.int i) (.type "int")
  | str (x : Str) : TyOf K H (.str x) (.type "str")
  | flt (x : UInt64) : TyOf K H (.flt x) (.type "float")
  | lst {a : Addr} {xs : List V} (e : H a = some (.lst xs)) : TyOf K H (.ref a) (.type "list")
  | frz {a : Addr} {o : Obj} {xs : List V} (e : H a = some (.frz o (.lst xs))) : TyOf K H (.ref a) (.type "list")
  | tup {a : Addr} {xs : List V} (e : H a = some (.tup xs)) : TyOf K H (.ref a) (.type "tuple")
  | dK {a : Addr} {kvs : List (Key × V)} (e : H a = some (.dK kvs)) : TyOf K H (.ref a) (.type "dict")
  | dT {a : Addr} {kvs : List (List Key × V)} (e : H a = some (.dT kvs)) : TyOf K H (.ref a) (.type "dict")
  | ins {a C dx : Addr} {fs : List (Str × V)} (e : H a = some (.ins C dx fs)) (cl : Cls K C) (ha : PySem.W.findIn K (.ref C) "__class__" = some (some (.builtin "object.__class__")))
      (hn : PySem.W.specialIn K (.builtin "object.__class__") "__get__" = some (some (.builtin "getset_descriptor.__get__"))) (htk : PySem.W.takesIn K (.builtin "object.__class__") = some true)
      (hm : PySem.W.mroIn K C (.type "object") = some true) : TyOf K H (.ref a) (.ref C)
/-- isinstance(x, c) for one class c, a built-in or an own one: kitOne's answer -/
theorem isinst_ok {x : V} {u t : Value} (I : Inv X pins σ H s) (rx : RelV x u) (ty : TyOf X.K H x t) (e : PySem.W.kitOne X.K t c = some b) (h : ∀ tk, Q (.bool b) { s with toks := tk }) :
    wpAny (model X.prog X.w) A (call (.builtin "isinstance") [u, c]) Q E s := by
  cases ty with
  | non => cases (show u = Value.none from rx); exact PySem.W.kia_one PySem.W.kitx_none I.kIn True.intro e (fun z => nomatch z) h
  | bl y => cases (show u = Value.bool y from rx); exact PySem.W.kia_one PySem.W.kitx_bool I.kIn True.intro e (fun z => nomatch z) h
  | int i => obtain ⟨t, q⟩ := (show ∃ t, u = Value.int i t from rx); cases q; exact PySem.W.kia_one PySem.W.kitx_int I.kIn True.intro e (fun z => nomatch z) h
  | str y => obtain ⟨t, q⟩ := (show ∃ t, u = Value.str y t from rx); cases q; exact PySem.W.kia_one PySem.W.kitx_str I.kIn True.intro e (fun z => nomatch z) h
  | flt y => obtain ⟨t, q⟩ := (show ∃ t, u = Value.float y t from rx); cases q; exact PySem.W.kia_one PySem.W.kitx_float I.kIn True.intro e (fun z => nomatch z) h
  | @lst a xs ea =>
    cases (show u = Value.ref a from rx)
    obtain ⟨_, _, n, _, h1⟩ := (show ObjOk X.prog X.w H s.heap a (.lst xs) from I.hok a _ ea)
    exact PySem.W.kia_one PySem.W.kitx_list I.kIn ⟨_, h1, rfl⟩ e (fun z => nomatch z) h
  | @frz a ob xs ea =>
    cases (show u = Value.ref a from rx)
    obtain ⟨_, _, _, n, _, h1⟩ := (show ObjOk X.prog X.w H s.heap a (.frz ob (.lst xs)) from I.hok a _ ea)
    exact PySem.W.kia_one PySem.W.kitx_list I.kIn ⟨_, h1, rfl⟩ e (fun z => nomatch z) h
  | @tup a xs ea =>
    cases (show u = Value.ref a from rx)
    obtain ⟨_, _, _, p⟩ := (show ObjOk X.prog X.w H s.heap a (.tup xs) from I.hok a _ ea)
    obtain ⟨o, h1, h2, _⟩ := p
    exact PySem.W.kia_one PySem.W.kitx_tuple I.kIn ⟨o, h1, h2⟩ e (fun z => nomatch z) h
  | @dK a kvs ea =>
    cases (show u = Value.ref a from rx)
    obtain ⟨_, _, vs, _, p⟩ := (show ObjOk X.prog X.w H s.heap a (.dK kvs) from I.hok a _ ea)
    obtain ⟨o, es, ep, h1, h2, _⟩ := p
    exact PySem.W.kia_one PySem.W.kitx_dict I.kIn ⟨o, h1, h2.1⟩ e (fun z => nomatch z) h
  | @dT a kvs ea =>
    cases (show u = Value.ref a from rx)
    obtain ⟨_, _, xs, _, o, es, ep, h1, h2, _⟩ := (show ObjOk X.prog X.w H s.heap a (.dT kvs) from I.hok a _ ea)
    exact PySem.W.kia_one PySem.W.kitx_dict I.kIn ⟨o, h1, h2.1⟩ e (fun z => nomatch z) h
  | @ins a C dx fs ea cl ha hn htk hm =>
    cases (show u = Value.ref a from rx)
    obtain ⟨mA, O, _⟩ := ins_get I.hok ea
    obtain ⟨od, J, _⟩ := O.look
    exact PySem.W.kia_one (PySem.W.kitx_own (cl.get _) cl.hd ha hn htk hm) I.kIn J e (fun z => nomatch z) h
end
end L2

namespace L2
open PySem PySem.Spec PyProof.Rows

/-! ### room -/
structure Room (k : Nat) (A : Around) : Prop where
  hd : A.handled = none
  dp : A.depth + 3 * k + 5 < recursionLimit
  un : A.units + 16 * k + 200 < cLine
theorem Room.mono {j k : Nat} {A : Around} (r : Room k A) (h : j ≤ k) : Room j A := ⟨r.hd, by have := r.dp; omega, by have := r.un; omega⟩
theorem Room.deeper {k : Nat} {A : Around} (r : Room (k + 1) A) (env : Env) : Room k (A.deeper env) :=
  ⟨r.hd, by have := r.dp; show A.depth + 1 + 3 * k + 5 < _; omega, by have := r.un; show A.units + 3 + 16 * k + 200 < _; omega⟩
theorem Room.depth {k : Nat} {A : Around} (r : Room k A) : A.depth < recursionLimit := by have := r.dp; omega
/-! ### argument lists and displays -/
def tNil : TA := fun _ H Q => Q [] H
def tCons (ta : TE) (tr : TA) : TA := fun σ H Q => ta σ H fun x H1 => tr σ H1 fun xs H2 => Q (x :: xs) H2
section
variable {X : Cx} {e : Expr} {es : List Expr} {te : TE} {t : TA} {pos : Pos}
theorem pa_nil : PA X [] tNil := fun _ _ _ _ H Q I h => Calls.spliced_nil ⟨[], H, I, .nil, h⟩
theorem pa_cons (ha : PE X e te) (hr : PA X es t) (hs : starEach (e :: es) X.env = (false, eval e X.env) :: starEach es X.env := by rfl) : PA X (e :: es) (tCons te t) := by
  intro pos pins s σ H Q I h
  rw [hs]
  show wpAny _ _ (spliced ((false, eval e X.env) :: backTo pos (starEach es X.env))) _ _ s
  refine Calls.spliced_cons (thn (ha pins s σ H _ I h) fun u s1 ⟨x, H1, I1, r1, q1⟩ => ?_)
  exact thn (hr pos pins s1 σ H1 _ I1 q1) fun us s2 ⟨xs, H2, I2, r2, q2⟩ => ⟨x :: xs, H2, I2, .cons r1 r2, q2⟩

/-- a tuple, a list of written items -/
def tTup (t : TA) : TE := fun σ H Q => t σ H fun xs H1 => xs.length ≤ sizeLine ∧ ∀ p, H1 p = none → Q (.ref p) (upd H1 p (.tup xs))
def tLst (t : TA) : TE := fun σ H Q => t σ H fun xs H1 => xs.length ≤ sizeLine ∧ ∀ p, H1 p = none → Q (.ref p) (upd H1 p (.lst xs))
theorem pe_tup {x1} (h : PA X es t) : PE X (.Tuple es x1 pos) (tTup t) := by
  intro pins s σ H Q I hq
  refine wpAny_Tuple_spliced (thn (h pos pins s σ H _ I hq) fun us s1 ⟨xs, H1, I1, r, z, q⟩ => ⟨by rw [← r.length]; exact z, ?_⟩)
  have hf : H1 s1.heap.objs.size = none := I1.hok.fresh (Nat.le_refl _)
  refine ⟨.ref s1.heap.objs.size, upd H1 s1.heap.objs.size (.tup xs), I1.laid (t' := s1.toks) (fun b u e => Heap.get?_push_of_some _ e) (Nat.le_refl _) ?_, rfl, q _ hf⟩
  exact ⟨z, us, r, ⟨_, Heap.get?_push_size _ rfl, rfl, _, rfl⟩⟩
theorem pe_lst (h : PA X es t) : PE X (.List es pos) (tLst t) := by
  intro pins s σ H Q I hq
  refine wpAny_List_spliced (thn (h pos pins s σ H _ I hq) fun us s1 ⟨xs, H1, I1, r, z, q⟩ => ⟨by rw [← r.length]; exact z, ?_⟩)
  have hf : H1 s1.heap.objs.size = none := I1.hok.fresh (Nat.le_refl _)
  refine ⟨.ref s1.heap.objs.size, upd H1 s1.heap.objs.size (.lst xs), I1.laid (t' := s1.toks) (fun b u e => Heap.get?_push_of_some _ e) (Nat.le_refl _) ?_, rfl, q _ hf⟩
  exact ⟨z, us, 0, r, Heap.get?_push_size _ rfl⟩
end

/-! ### what a def promises -/
/-- a def's promise: the bound arguments in the parameters' order, the heap, the wanted end, the wanted exception -/
abbrev Sp := List V → Hp → VK → XK → Prop
/-- how an exception lies behind a call (file 08 gives it): the callers' frames, abstract heap and state ahead of the call, the wish, the exception, the state -/
abbrev CXT := List Env → Hp → Shared → XK → Value → Shared → Prop

/-- the state at a call -/
structure Env0 (P : Program) (w : World) (K : PySem.W.Frag) (mg : Str → Option Value) (base : Heap) (A : Around) (outer : List Env) (s : Shared) (H : Hp) : Prop where
  frames : A.frames = some outer
  mod : Mod K mg base
  bs : ∀ b o, base.get? b = some o → s.heap.get? b = some o ∧ H b = none
  bsz : base.objs.size ≤ s.heap.objs.size
  funs : s.heap.FunFrames base outer
  frf : ∀ b ∈ frs outer, H b = none
  hok : HOk P w H s.heap
  bare : AllBare s.gens
/-- a call's end -/
def CE (outer : List Env) (P : Program) (w : World) (H : Hp) (s : Shared) (Q : VK) (u : Value) (s' : Shared) : Prop :=
  ∃ v H', s'.os = s.os ∧ AllBare s'.gens ∧ Un (frs outer) [] H H' s.heap s'.heap ∧ HOk P w H' s'.heap ∧ RelV v u ∧ Q v H'
def CR (CX : CXT) (outer : List Env) (P : Program) (w : World) (H : Hp) (s : Shared) (Q : VK) (E : XK) (r : Result) (s' : Shared) : Prop :=
  match r with
  | .ok (.ret u) => CE outer P w H s Q u s'
  | .ok _ => False
  | .error e => CX outer H s E e s'
structure FnOk (P : Program) (w : World) (K : PySem.W.Frag) (mg : Str → Option Value) (base : Heap) (CX : CXT) (k : Nat) (f : Addr) (fd : FuncData) (ps : List Str) (sp : Sp) : Prop where
  len : ∀ vs H Q E, sp vs H Q E → vs.length = ps.length
  run : ∀ (A : Around) (outer : List Env) (s : Shared) (H : Hp) (args : Args) (us : List Value) (vs : List V) (Q : VK) (E : XK), Room k A → Env0 P w K mg base A outer s H → BindsTo s fd args (ps.zip us) → Vals vs us → sp vs H Q E →
    codeAny (model P w) A (.call (.ref f) args) (CR CX outer P w H s Q E) s
theorem FnOk.mono {P : Program} {w : World} {K : PySem.W.Frag} {mg : Str → Option Value} {base : Heap} {CX : CXT} {j k : Nat} {f : Addr} {fd : FuncData} {ps : List Str} {sp : Sp} (F : FnOk P w K mg base CX j f fd ps sp) (h : j ≤ k) :
    FnOk P w K mg base CX k f fd ps sp := ⟨F.len, fun A outer s H args us vs Q E hr => F.run A outer s H args us vs Q E (hr.mono h)⟩
/-- a weaker promise -/
theorem FnOk.imp {P : Program} {w : World} {K : PySem.W.Frag} {mg : Str → Option Value} {base : Heap} {CX : CXT} {k : Nat} {f : Addr} {fd : FuncData} {ps : List Str} {sp sp' : Sp} (F : FnOk P w K mg base CX k f fd ps sp)
    (h : ∀ vs H Q E, sp' vs H Q E → sp vs H Q E) : FnOk P w K mg base CX k f fd ps sp' :=
  ⟨fun vs H Q E q => F.len vs H Q E (h _ _ _ _ q), fun A outer s H args us vs Q E hr he hb hv hs => F.run A outer s H args us vs Q E hr he hb hv (h _ _ _ _ hs)⟩

section
variable {X : Cx} {pins : List (Addr × Obj)} {σ : St} {H : Hp} {s s' : Shared}
/-- from a body: what a callee wants -/
theorem Inv.env0 (I : Inv X pins σ H s) : Env0 X.prog X.w X.K X.mg X.base X.A X.stack s H :=
  ⟨I.ok.frames, I.ok.mod, I.bs, Nat.le_trans I.ok.bsz I.sz, I.stack, I.stkFree, I.hok, I.bare⟩
/-- behind a call -/
theorem Inv.after {Q : VK} {u : Value} (I : Inv X pins σ H s) (h : CE X.stack X.prog X.w H s Q u s') : EP X pins σ Q u s' := by
  obtain ⟨v, H', os, bare, un, hok, r, q⟩ := h
  obtain ⟨hh, g, d, t, os'⟩ := s'
  obtain rfl : os' = s.os := os
  exact ⟨v, H', I.call (h' := hh) (g' := g) (d' := d) (t' := t) (ch := []) un hok bare (fun b z => absurd z (by simp)), r, q⟩
end

/-- how the parameters are bound: us the positional arguments, kw the keywords' values by name, ds the defaults that fill up -/
def Binds (K : PySem.W.Frag) (fd : FuncData) (ps : List Str) (ds : List Value) : Prop :=
  ∀ (s : Shared) (us : List Value), K.In s.heap → (us ++ ds).length = ps.length → BindsTo s fd ⟨us, []⟩ (ps.zip (us ++ ds))
/-- every parameter is given -/
theorem Binds.all {K : PySem.W.Frag} {fd : FuncData} {ps : List Str} (h : ∀ us : List Value, us.length = ps.length → bindArgs fd ⟨us, []⟩ = pure (ps.zip us)) : Binds K fd ps [] := fun s us _ hl => by
  rw [List.append_nil] at hl ⊢
  exact .of_eq (h us hl)

section
variable {X : Cx} {CX : CXT} {k : Nat} {f C : Addr} {fd : FuncData} {ps : List Str} {sp : Sp} {dvs : List V} {ds : List Value} {E : XK} {x m : Str} {p pos apos : Pos} {e o : Expr} {es : List Expr} {ta : TE} {t : TA}

end

section
variable {X : Cx} {CX : CXT} {k : Nat} {f C : Addr} {fd : FuncData} {ps ks : List Str} {sp : Sp} {E : XK} {x m : Str} {p pos apos kpos : Pos} {e o : Expr} {es : List Expr} {kws : List Keyword} {te ta : TE} {t tk : TA} {nm : Option Str}
variable {g : List Value → List Value → List Value} {gV : List V → List V → List V}
end

/-! ### a def's body keeps its promise -/
/-- names: the parameters first -/
structure FnScope (N P : List Str) (sc : Scope) : Prop where
  kind : sc.kind = .function
  co : sc.isCoroutine = false
  gen : sc.isGenerator = false
  nd : N.Nodup
  pre : N.take P.length = P
  par : ∀ x ∈ P, sc.names.lookup x = some .local ∨ sc.names.lookup x = some .cell
  nofree : ∀ y ∈ sc.names, y.2 ≠ .free

theorem bindL_out {kindOf : Str → Option NameKind} {x : Str} : ∀ {binds : List (Str × Value)} {m : Str → Option Value}, (∀ v, (x, v) ∉ binds) → bindL kindOf binds m x = m x
  | [], _, _ => rfl
  | (n, v) :: r, m, h => by
    unfold bindL
    rw [bindL_out fun w hw => h w (List.mem_cons_of_mem _ hw)]
    split
    · have : x ≠ n := by rintro rfl; exact h v List.mem_cons_self
      simp [this]
    · rfl
theorem bindC_out {kindOf : Str → Option NameKind} {x : Str} : ∀ {binds : List (Str × Value)} {m : Str → Option Value}, (∀ v, (x, v) ∉ binds) → bindC kindOf binds m x = m x
  | [], _, _ => rfl
  | (n, v) :: r, m, h => by
    unfold bindC
    rw [bindC_out fun w hw => h w (List.mem_cons_of_mem _ hw)]
    split
    · rfl
    · have : x ≠ n := by rintro rfl; exact h v List.mem_cons_self
      simp [this]
theorem bindL_get {kindOf : Str → Option NameKind} {x : Str} {v : Value} : ∀ {P : List Str} {vs : List Value} {i : Nat} {m : Str → Option Value}, P.Nodup → P[i]? = some x → vs[i]? = some v → kindOf x = some .local →
    bindL kindOf (P.zip vs) m x = some v
  | [], _, _, _, _, h, _, _ => by simp at h
  | _ :: _, [], _, _, _, _, h, _ => by simp at h
  | p :: P, w :: vs, 0, m, nd, h1, h2, hk => by
    simp at h1 h2; subst h1; subst h2
    show bindL kindOf ((p, w) :: P.zip vs) m p = _
    unfold bindL
    rw [bindL_out fun v hv => (List.nodup_cons.mp nd).1 (List.of_mem_zip hv).1, if_pos hk]
    simp
  | p :: P, w :: vs, i + 1, m, nd, h1, h2, hk => by
    show bindL kindOf ((p, w) :: P.zip vs) m x = _
    unfold bindL
    exact bindL_get (i := i) (List.nodup_cons.mp nd).2 (by simpa using h1) (by simpa using h2) hk
theorem bindC_get {kindOf : Str → Option NameKind} {x : Str} {v : Value} : ∀ {P : List Str} {vs : List Value} {i : Nat} {m : Str → Option Value}, P.Nodup → P[i]? = some x → vs[i]? = some v → kindOf x ≠ some .local →
    bindC kindOf (P.zip vs) m x = some v
  | [], _, _, _, _, h, _, _ => by simp at h
  | _ :: _, [], _, _, _, _, h, _ => by simp at h
  | p :: P, w :: vs, 0, m, nd, h1, h2, hk => by
    simp at h1 h2; subst h1; subst h2
    show bindC kindOf ((p, w) :: P.zip vs) m p = _
    unfold bindC
    rw [bindC_out fun v hv => (List.nodup_cons.mp nd).1 (List.of_mem_zip hv).1, if_neg hk]
    simp
  | p :: P, w :: vs, i + 1, m, nd, h1, h2, hk => by
    show bindC kindOf ((p, w) :: P.zip vs) m x = _
    unfold bindC
    exact bindC_get (i := i) (List.nodup_cons.mp nd).2 (by simpa using h1) (by simpa using h2) hk

/-- the names' values at the entry -/
def start (N : List Str) (vs : List V) : St := vs.map some ++ List.replicate (N.length - vs.length) none

/-- the context of a def's body, at its entry; an exception leaves the frame, then lies as CX says -/
def cxOf (CX : CXT) (P : Program) (w : World) (K : PySem.W.Frag) (mg : Str → Option Value) (base : Heap) (N : List Str) (qual : Str) (scope : Scope) (f : Addr) (cd : Value) (A : Around) (outer : List Env) (s : Shared) (H : Hp) (E : XK) : Cx where
  prog := P
  w := w
  K := K
  mg := mg
  base := base
  A := A.deeper (envOfC qual scope s.heap.objs.size f cd)
  N := N
  s₀ := s
  H₀ := H
  env := envOfC qual scope s.heap.objs.size f cd
  outer := outer
  stack := envOfC qual scope s.heap.objs.size f cd :: outer
  ex := []
  calm := true
  fn := fun _ => true
  pn := []
  xe := fun e s' => wpAny (model P w) (A.deeper (envOfC qual scope s.heap.objs.size f cd)) (leaving (envOfC qual scope s.heap.objs.size f cd) e) (fun _ s'' => CX outer H s E e s'') (fun e' s'' => CX outer H s E e' s'') s'

theorem cell_has {sc : Scope} {n : Nat} {x : Str} (h : sc.names.lookup x = some .cell) : ∃ c, (cellsFrom n sc.names []).lookup x = some c := by
  have q := PySem.W.cellsFrom_some sc.names n [] (.inl h)
  exact Option.isSome_iff_exists.mp q

theorem inv_start {CX : CXT} {P : Program} {w : World} {K : PySem.W.Frag} {mg : Str → Option Value} {base : Heap} {N ps : List Str} {qual : Str} {scope : Scope} {f : Addr} {cd : Value} {A : Around} {outer : List Env} {s s1 : Shared} {H : Hp} {E : XK} {us : List Value} {vs : List V}
    (S : FnScope N ps scope) (hd : A.handled = none) (e0 : Env0 P w K mg base A outer s H) (hl : vs.length = ps.length) (r : Vals vs us)
    (x : InCallC s s.heap.objs.size (bindL (envOfC qual scope s.heap.objs.size f cd).kindOf (ps.zip us) fun _ => none) (cellsFrom (s.heap.objs.size + 1) scope.names []) (bindC (envOfC qual scope s.heap.objs.size f cd).kindOf (ps.zip us) fun _ => none) s1) :
    Inv (cxOf CX P w K mg base N qual scope f cd A outer s H E) [] (start N vs) H s1 := by
  have hpl : ps.length ≤ N.length := by have := congrArg List.length S.pre; rw [List.length_take] at this; omega
  obtain ⟨h1, tk, rfl, hk⟩ := x.done
  have noA : ∀ b : Addr, b ∉ (cxOf CX P w K mg base N qual scope f cd A outer s H E).ex := fun b z => absurd (show b ∈ ([] : List Addr) from z) (by simp)
  refine ⟨⟨e0.mod, S.kind, rfl, rfl, Nat.le_refl _, fun y z c h1 h2 => ?_, fun y hy => ?_, fun y c _ h => ?_, fun _ => hd, Around.frames_deeper e0.frames, .inr ⟨rfl, rfl⟩, fun b z => absurd z (noA b), e0.bs, e0.bsz, fun b _ _ => noA b, fun b z => absurd z (noA b), e0.funs, e0.frf⟩,
    rfl, e0.bare, Un.kept hk, ⟨_, x.toInCall.ns, fun i y v h1 h2 h3 => ?_⟩, fun y c h => ⟨_, x.cell y c h⟩, e0.hok.fresh (Nat.le_refl _), fun y c h => ?_, fun p hp => absurd (show p ∈ ([] : List (Addr × Obj)) from hp) (by simp), e0.hok.kept hk, ?_⟩
  · exact name_of_addr x.apart (PySem.mem_of_lookup h1) (PySem.mem_of_lookup h2)
  · have hy : scope.names.lookup y = some .cell ∨ scope.names.lookup y = some .free := hy
    rcases hy with hy | hy
    · exact cell_has hy
    · exact absurd rfl (S.nofree _ (PySem.mem_of_lookup hy))
  · exact Nat.le_of_lt (x.above y c (PySem.mem_of_lookup h))
  · have hi : i < vs.length := by
      unfold start at h2
      by_cases hi : i < vs.length
      · exact hi
      · rw [List.getElem?_append_right (by simpa using hi)] at h2
        rw [List.getElem?_replicate] at h2
        split at h2 <;> cases h2
    have ha : vs[i]? = some v := by
      unfold start at h2
      rw [List.getElem?_append_left (by simpa using hi), List.getElem?_map] at h2
      cases e : vs[i]? with
      | none => rw [e] at h2; cases h2
      | some a => rw [e] at h2; cases h2; rfl
    obtain ⟨u, hu, rv⟩ := r.get ha
    have hp : ps[i]? = some y := by
      rw [← S.pre, List.getElem?_take_of_lt (by omega)]; exact h1
    have ndP : ps.Nodup := by rw [← S.pre]; exact S.nd.sublist (List.take_sublist _ _)
    refine ⟨u, rv, ?_⟩
    rcases S.par y (List.mem_of_getElem? hp) with k | k
    · exact .inl ⟨k, bindL_get ndP hp hu k⟩
    · obtain ⟨c, e⟩ := cell_has (n := s.heap.objs.size + 1) k
      refine .inr ⟨.inl k, c, e, ?_⟩
      have q := x.cell y c e
      rw [bindC_get ndP hp hu (by show scope.names.lookup y ≠ _; rw [k]; decide)] at q
      exact q
  · exact e0.hok.fresh (Nat.le_of_lt (x.above y c (PySem.mem_of_lookup h)))
  · unfold start
    show _ = N.length
    rw [List.length_append, List.length_map, List.length_replicate]
    omega

/-- THE RULE: a def (or a method) of the text, by its body. The body's reading t is chosen for each entry; it is run at the parameters' values -/
theorem fn_of {CX : CXT} {P : Program} {w : World} {K : PySem.W.Frag} {mg : Str → Option Value} {base : Heap} {k : Nat} {f : Addr} {name qual : Str} {params : Arguments} {body : List Stmt} {scope : Scope} {dV kV doc pm cdv ct oc : Value} {an od : Option Addr}
    {osl : Array (Option Value)} {N ps : List Str} {sp : Sp} (lk : K.lookup f = some ⟨oc, od, .func (PySem.W.fnOf name qual params body scope dV kV doc pm an cdv ct), osl⟩) (hcd : PySem.W.codeIn K cdv qual = true) (S : FnScope N ps scope)
    (len : ∀ vs H Q E, sp vs H Q E → vs.length = ps.length)
    (hbody : ∀ (A : Around) (outer : List Env) (s : Shared) (H : Hp) (vs : List V) (Q : VK) (E : XK), Room k (A.deeper (envOfC qual scope s.heap.objs.size f cdv)) → sp vs H Q E →
      ∃ t, PSs (cxOf CX P w K mg base N qual scope f cdv A outer s H E) body t ∧ t { nx := fun _ H' => Q .non H', rt := Q } (start N vs) H) :
    FnOk P w K mg base CX (k + 1) f (PySem.W.fnOf name qual params body scope dV kV doc pm an cdv ct) ps sp := by
  refine ⟨len, fun A outer s H args us vs Q E hr e0 hb r hsp => ?_⟩
  have hl := len _ _ _ _ hsp
  have KX : K.In s.heap := e0.mod.kin.keeps fun b o e => (e0.bs b o e).1
  have lim : s.heap.NoLimit := e0.mod.nolimit.keeps fun b o e => (e0.bs b o e).1
  have hkind : ∀ y ∈ ps.zip us, scope.names.lookup y.1 = some .local ∨ (scope.names.lookup y.1 = some .cell ∧ ((cellsFrom (s.heap.objs.size + 1) scope.names []).lookup y.1).isSome = true) := fun ⟨n, v⟩ hy => by
    rcases S.par n (List.of_mem_zip hy).1 with q | q
    · exact .inl q
    · exact .inr ⟨q, PySem.W.cellsFrom_some _ _ _ (.inl q)⟩
  refine codeAny_call_function hr.depth (KX _ _ lk) rfl S.co S.gen rfl (PySem.W.codeRec_of KX hcd) (hb _ _ _ _ ?_)
  refine wpAny_newFunctionEnv_cells S.kind hkind fun env he s1 x => ?_
  subst he
  refine ⟨lim.keeps x.toInCall.keep, codeAny_func ?_⟩
  obtain ⟨t, ht, hq⟩ := hbody A outer s H vs Q E (hr.deeper _) hsp
  have I : Inv (cxOf CX P w K mg base N qual scope f cdv A outer s H E) [] (start N vs) H s1 := inv_start S hr.hd e0 hl r x
  refine wpAny_mono (ht [] s1 (start N vs) H _ I hq) (fun fl s' hs => ?_) fun e s' hs => hs
  have fin : ∀ {σ' : St} {H' : Hp} {v : V} {u : Value}, Inv (cxOf CX P w K mg base N qual scope f cdv A outer s H E) [] σ' H' s' → RelV v u → Q v H' → CE outer P w H s Q u s' :=
    fun {σ' H' v u} J rv q => ⟨v, H', J.os, J.bare, J.base, J.hok, rv, q⟩
  cases fl with
  | ret u =>
    obtain ⟨v, σ', H', J, rv, q⟩ := hs
    exact fin J rv q
  | next =>
    obtain ⟨σ', H', J, q⟩ := hs
    exact fin (v := V.non) (u := Value.none) J rfl q
  | brk =>
    obtain ⟨_, _, _, q⟩ := hs
    exact False.elim q
  | cont =>
    obtain ⟨_, _, _, q⟩ := hs
    exact False.elim q
end L2

namespace L2
open PySem PySem.Spec PyProof.Rows
section
variable {X : Cx} {x : Str} {p pos : Pos} {e : Expr} {es : List Expr} {t : TA} {id T : String} {r : List V → Hp → VK → Prop}

def tCB (r : List V → Hp → VK → Prop) (t : TA) : TE := fun σ H Q => t σ H fun vs H1 => r vs H1 Q
/-- f(e, ..), f a built-in function -/
theorem pe_callB (hc : CallR X (.builtin id) r) (hg : Gl X x) (hm : X.mg x = none) (hv : bootBuiltins x = some (.builtin id)) (ha : PA X (e :: es) t) (hn : x ≠ "__name__" := by decide) (hdb : (x == ("__debug__" : Str)) = false := by decide)
    (he : starEach (e :: es) X.env = (false, eval e X.env) :: starEach es X.env := by rfl) (hpl : (backTo pos (starEach es X.env)).any (·.1) = false := by rfl) : PE X (.Call (.Name x p) (e :: es) [] pos) (tCB r t) := by
  intro pins s σ H Q I h
  refine wpAny_Call_Name_kw (ld_blt I hg hm hv ?_ hn hdb)
  exact PyProof.Rows.callWith_builtin1 (thn (ha pos pins s σ H _ I h) fun us s1 ⟨vs, H1, I1, r1, q1⟩ => hc pins s1 σ H1 vs us Q I1 r1 q1) he hpl
/-- T(e, ..), T a built-in type -/
theorem pe_callTy (hc : CallR X (.type T) r) (hg : Gl X x) (hm : X.mg x = none) (hv : bootBuiltins x = some (.type T)) (ha : PA X (e :: es) t) (hn : x ≠ "__name__" := by decide) (hdb : (x == ("__debug__" : Str)) = false := by decide)
    (he : starEach (e :: es) X.env = (false, eval e X.env) :: starEach es X.env := by rfl) (hpl : (backTo pos (starEach es X.env)).any (·.1) = false := by rfl) : PE X (.Call (.Name x p) (e :: es) [] pos) (tCB r t) := by
  intro pins s σ H Q I h
  refine wpAny_Call_Name_kw (ld_blt I hg hm hv ?_ hn hdb)
  exact PyProof.Rows.callWith_type1 (thn (ha pos pins s σ H _ I h) fun us s1 ⟨vs, H1, I1, r1, q1⟩ => hc pins s1 σ H1 vs us Q I1 r1 q1) he hpl
end
end L2

namespace HT
open PySem PyProof.Rows

section
open PySem.SeqAt
open PySem.AutoSeq1 (wpAny_loadPart')
open PySem.MeetsSeq PySem.MeetsSeq2 PySem.MeetsSeq3

end

section
variable {prog : Program} {w : World} {A : Around} {E : Value → Shared → Prop} {s : Shared}

/-- t + u, t not empty -/
theorem cat_tup {t b : Addr} {vs ws : List Value} {Q : Value → Shared → Prop} (ht : IsTup s.heap t vs.toArray) (hb : IsTup s.heap b ws.toArray) (hv : vs ≠ [])
    (h1 : ws = [] → Q (.ref t) s) (h2 : ws ≠ [] → Q (.ref s.heap.objs.size) { s with heap := s.heap.push { cls := .type "tuple", data := .seq (vs ++ ws).toArray } })
    (hsz : vs.length + ws.length ≤ sizeLine) : wpAny (model prog w) A (binaryOp .Add (.ref t) (.ref b)) Q E s := by
  obtain ⟨⟨cls, dd, data, sl⟩, ho, hc, n, hd⟩ := id ht
  obtain ⟨⟨cls2, dd2, data2, sl2⟩, ho2, hc2, n2, hd2⟩ := id hb
  simp only at hc hd hc2 hd2
  subst hc hd hc2 hd2
  have e : vs.toArray ++ ws.toArray = (vs ++ ws).toArray := by simp
  by_cases hw : ws = []
  · exact concat_meets ⟨_, ho, rfl⟩ ⟨_, ho2, rfl⟩ noFill_tuple_add seq_tuple_add PySem.F.slot_tuple_add PySem.F.entry_tuple_add (PySem.F.args_tuple_add_2 _ _)
      (tuple_addW1 t b vs.toArray ws.toArray n n2 dd dd2 sl sl2 (by simpa using hv) (by simp [hw])) ⟨ho, ho2, h1 hw⟩
  · refine concat_meets ⟨_, ho, rfl⟩ ⟨_, ho2, rfl⟩ noFill_tuple_add seq_tuple_add PySem.F.slot_tuple_add PySem.F.entry_tuple_add (PySem.F.args_tuple_add_2 _ _)
      (tuple_addW2 t b vs.toArray ws.toArray n n2 dd dd2 sl sl2 (by simpa using hv) (by simpa using hw) (by rw [List.size_toArray, List.size_toArray]; exact hsz)) ⟨ho, ho2, ?_⟩
    rw [e]
    exact h2 hw

/-! ### t[a:b], not the whole -/
/-- a slice's bound as a place among n (d where it is left out) -/
def sIx (n d : Nat) : Option Int → Nat
  | none => d
  | some v => if v < 0 then (v + (n : Int)).toNat else min v.toNat n
theorem sIx_none (n d : Nat) : sIx n d none = d := rfl
theorem sIx_nat (n d k : Nat) : sIx n d (some (k : Int)) = min k n := by
  show (if (k : Int) < 0 then ((k : Int) + (n : Int)).toNat else min (k : Int).toNat n) = min k n
  rw [if_neg (by omega), Int.toNat_natCast]
theorem sIx_le (n d : Nat) (hd : d ≤ n) (o : Option Int) : sIx n d o ≤ n := by
  cases o with
  | none => exact hd
  | some v =>
    show (if v < 0 then (v + (n : Int)).toNat else min v.toNat n) ≤ n
    by_cases hv : v < 0
    · rw [if_pos hv]; omega
    · rw [if_neg hv]; exact Nat.min_le_right _ _
theorem clip_eq (v : Int) (n d : Nat) : (if v < 0 then max (v + (n : Int)) 0 else min v (n : Int)) = ((sIx n d (some v) : Nat) : Int) := by
  show (if v < 0 then max (v + (n : Int)) 0 else min v (n : Int)) = (((if v < 0 then (v + (n : Int)).toNat else min v.toNat n) : Nat) : Int)
  by_cases hv : v < 0
  · simp only [if_pos hv]; omega
  · simp only [if_neg hv]; omega
theorem adjust_gen (lo hi : Option Int) (n : Nat) : Builtin.Slice.sliceAdjust lo hi 1 (n : Int) = (((sIx n 0 lo : Nat) : Int), ((sIx n n hi : Nat) : Int)) := by
  have h1 : ¬ ((1 : Int) < 0) := by omega
  unfold Builtin.Slice.sliceAdjust
  simp only [h1, if_false]
  refine Prod.ext ?_ ?_
  · cases lo with
    | none => rfl
    | some v => exact clip_eq v n 0
  · cases hi with
    | none => rfl
    | some v => exact clip_eq v n n
theorem places_gen (i j : Nat) : Builtin.Slice.slicePlaces (i : Int) (j : Int) 1 = j - i := by
  unfold Builtin.Slice.slicePlaces
  have h1 : (1 : Int) > 0 := by omega
  simp only [h1, if_true, Int.ediv_one]
  split <;> omega
theorem slicePart_ {v : Value} {o : Option Int} {Q : Option Int → Shared → Prop} (p : IsPart v o) (h : Q o s) : wpAny (model prog w) A (Builtin.Slice.slicePartIndex v) Q E s := by
  cases p with
  | none => exact slicePart_none h
  | int i t => exact slicePart_int h
theorem sliceApplied_gen {sl : Addr} {vl vu : Value} {lo hi : Option Int} {n : Nat} {Q : Int × Int × Nat → Shared → Prop} (hs : s.heap.IsSliceOf sl vl vu .none) (pl : IsPart vl lo) (pu : IsPart vu hi)
    (h : Q (((sIx n 0 lo : Nat) : Int), 1, sIx n n hi - sIx n 0 lo) s) : wpAny (model prog w) A (Builtin.Slice.sliceApplied (.ref sl) (pure (n : Int))) Q E s := by
  obtain ⟨os, hos, hcs, hds⟩ := id hs
  unfold Builtin.Slice.sliceApplied Builtin.Slice.sliceFields
  refine wpAny_bind (wpAny_bind (wpAny_field hos hds (x := vl) rfl (wpAny_bind (wpAny_field hos hds (x := vu) rfl (wpAny_bind (wpAny_field hos hds (x := .none) rfl (wpAny_pure ?_)))))))
  refine wpAny_bind (slicePart_none ?_)
  show wpAny _ _ (if ((1 : Int) == 0) = true then _ else _) _ _ s
  rw [if_neg (by decide)]
  refine wpAny_bind (slicePart_ pl (wpAny_bind (slicePart_ pu (wpAny_bind (wpAny_pure ?_)))))
  show wpAny _ _ (match Builtin.Slice.sliceAdjust lo hi 1 (n : Int) with | (lo, hi) => pure (lo, (1 : Int), Builtin.Slice.slicePlaces lo hi 1)) _ _ s
  rw [adjust_gen lo hi n]
  show wpAny _ _ (pure (((sIx n 0 lo : Nat) : Int), (1 : Int), Builtin.Slice.slicePlaces ((sIx n 0 lo : Nat) : Int) ((sIx n n hi : Nat) : Int) 1)) _ _ s
  rw [places_gen]
  exact wpAny_pure h
theorem pick_gen (xs : Array Value) (i k : Nat) : ((List.range k).filterMap fun (m : Nat) => xs[((i : Int) + (m : Int) * 1).toNat]?).toArray = ((xs.toList.drop i).take k).toArray := by
  have e : (fun (m : Nat) => xs[((i : Int) + (m : Int) * 1).toNat]?) = fun m => xs[i + m]? := by
    funext m
    have : ((i : Int) + (m : Int) * 1).toNat = i + m := by omega
    rw [this]
  rw [e]
  have := pick_run xs i k
  rw [List.filterMap_map] at this
  have e2 : ((fun x => xs[x]?) ∘ fun x => i + x) = fun m => xs[i + m]? := rfl
  rw [e2] at this
  rw [this]

theorem getItem_tuple_cut {t sl : Addr} {items : Array Value} {vl vu : Value} {lo hi : Option Int} {Q : Value → Shared → Prop} (ht : IsTup s.heap t items) (hs : s.heap.IsSliceOf sl vl vu .none) (pl : IsPart vl lo) (pu : IsPart vu hi)
    (hw : ¬ (sIx items.size 0 lo = 0 ∧ sIx items.size items.size hi = items.size))
    (h : Q (.ref s.heap.objs.size) { s with heap := s.heap.push { cls := .type "tuple", data := .seq ((items.toList.drop (sIx items.size 0 lo)).take (sIx items.size items.size hi - sIx items.size 0 lo)).toArray } })
    (hsz : items.size ≤ sizeLine) : wpAny (model prog w) A (getItem (.ref t) (.ref sl)) Q E s := by
  have htake : sizeOk (.seq ((items.toList.drop (sIx items.size 0 lo)).take (sIx items.size items.size hi - sIx items.size 0 lo)).toArray) := by
    show ((items.toList.drop (sIx items.size 0 lo)).take (sIx items.size items.size hi - sIx items.size 0 lo)).toArray.size ≤ sizeLine
    rw [List.size_toArray, List.length_take, List.length_drop, Array.length_toList]
    omega
  have hj : sIx items.size items.size hi ≤ items.size := sIx_le _ _ (Nat.le_refl _) hi
  obtain ⟨os, hos, hcs, hds⟩ := id hs
  have hTs : s.TypeIs (.ref sl) "slice" := ⟨os, hos, hcs⟩
  unfold getItem
  try with_reducible refine wpAny_holding ?_
  first | refine wpAny_bind (wpAny_pure ?_) | skip
  refine wpAny_bind (wpAny_sequenceKey ht.typeIs (by decide) ?_)
  refine wpAny_bind (wpAny_callSpecial?_slot (name := Str.ofString "__getitem__") ht.typeIs PyProof.Rows.slot_tuple_getitem
    (wpAny_call_entry PyProof.Rows.slot_tuple_getitem ht.typeIs entry_tuple_getitem ?_ (args_tuple_getitem _ _)))
  show wpAny _ _ (Builtin.Tuple.tupleItemsOf (.ref t) >>= _) _ _ s
  refine wpAny_bind (tupleItemsOf_ ht ?_)
  refine wpAny_bind (wpAny_typeOf hTs ?_)
  rw [if_pos (by decide)]
  refine wpAny_bind (sliceApplied_gen hs pl pu ?_)
  have hno : ¬ ((((sIx items.size 0 lo : Nat) : Int) == 0 && (1 : Int) == 1 && (sIx items.size items.size hi - sIx items.size 0 lo) == items.size) = true) := by
    intro q
    rw [Bool.and_eq_true, Bool.and_eq_true] at q
    have q1 : ((sIx items.size 0 lo : Nat) : Int) = 0 := eq_of_beq q.1.1
    have q2 : sIx items.size items.size hi - sIx items.size 0 lo = items.size := eq_of_beq q.2
    exact hw ⟨by omega, by omega⟩
  show wpAny _ _ (if (((sIx items.size 0 lo : Nat) : Int) == 0 && (1 : Int) == 1 && (sIx items.size items.size hi - sIx items.size 0 lo) == items.size) = true then _ else _) _ _ s
  rw [if_neg hno, pick_gen]
  first
    | exact wpAny_bind (m := Builtin.Tuple.tupleExact _) (wpAny_newObj_type (wpAny_pure ⟨_, rfl, wpAny_pure h⟩) htake)
    | exact wpAny_bind (m := Builtin.Tuple.tupleExact _) (wpAny_newObj_type (wpAny_bind (wpAny_pure (wpAny_pure ⟨_, rfl, wpAny_pure h⟩))) htake)
    | exact wpAny_bind (wpAny_bind (m := Builtin.Tuple.tupleExact _) (wpAny_newObj_type (wpAny_pure (wpAny_pure ⟨_, rfl, wpAny_pure h⟩)) htake))
    | exact wpAny_bind (wpAny_bind (m := Builtin.Tuple.tupleExact _) (wpAny_newObj_type (wpAny_pure ⟨_, rfl, wpAny_pure h⟩) htake))
end
end HT

namespace L2
open PySem PySem.Spec PyProof.Rows

/-! ### the parts of a slice -/
abbrev TO := St → Hp → (Option Int → Hp → Prop) → Prop
/-- a slice's part (left out, or an int) -/
def PO (X : Cx) (e : Option Expr) (t : TO) : Prop :=
  ∀ (pins : List (Addr × Obj)) (s : Shared) (σ : St) (H : Hp) (Q : Option Int → Hp → Prop), Inv X pins σ H s → t σ H Q →
    wpAny (model X.prog X.w) X.A (evalPart e X.env) (fun u s' => ∃ o H', Inv X pins σ H' s' ∧ IsPart u o ∧ Q o H') X.xe s
def tNoPart : TO := fun _ H Q => Q none H
def tPart (t : TE) : TO := fun σ H Q => t σ H fun x H1 => ∃ i, x = .int i ∧ Q (some i) H1

section
variable {X : Cx} {e : Expr} {te : TE} {lo hi : Option Expr} {tl th : TO} {pos p2 : Pos}

theorem po_none : PO X none tNoPart := by
  intro pins s σ H Q I h
  rw [evalPart_none]
  exact wpAny_pure ⟨none, H, I, .none, h⟩
theorem po_some (h : PE X e te) : PO X (some e) (tPart te) := by
  intro pins s σ H Q I hw
  rw [evalPart_some]
  refine thn (h pins s σ H _ I hw) fun u s1 ⟨x, H1, I1, r1, q1⟩ => ?_
  obtain ⟨i, rfl, q⟩ := q1
  obtain ⟨t, rfl⟩ := r1
  exact ⟨some i, H1, I1, .int i t, q⟩

/-- what a slice of a value is, by values: the slice object stands at sl -/
def SlR (X : Cx) (r : V → Option Int → Option Int → Hp → VK → Prop) : Prop :=
  ∀ (pins : List (Addr × Obj)) (s : Shared) (σ : St) (H : Hp) (x : V) (v vl vu : Value) (lo hi : Option Int) (sl : Addr) (Q : VK), Inv X pins σ H s → RelV x v → s.heap.IsSliceOf sl vl vu .none → IsPart vl lo → IsPart vu hi → r x lo hi H Q →
    ∃ T id, typeLookup (.type T) "__getitem__" = pure (some (.builtin id)) ∧ s.TypeIs v T ∧ wpAny (model X.prog X.w) X.A (getItem v (.ref sl)) (EP X pins σ Q) X.xe s
def tSl (r : V → Option Int → Option Int → Hp → VK → Prop) (te : TE) (tl th : TO) : TE := fun σ H Q => te σ H fun x H1 => tl σ H1 fun l H2 => th σ H2 fun u H3 => r x l u H3 Q
/-- a[lo:hi], any a -/
theorem pe_slice {r : V → Option Int → Option Int → Hp → VK → Prop} (hr : SlR X r) (he : PE X e te) (hl : PO X lo tl) (hu : PO X hi th) : PE X (.Subscript e (.Slice lo hi none p2) pos) (tSl r te tl th) := by
  intro pins s σ H Q I h
  refine Subscript_ (thn (he pins s σ H _ I h) fun v s1 ⟨x, H1, I1, r1, q1⟩ => ?_)
  refine wpAny_Slice (thn (hl pins s1 σ H1 _ I1 q1) fun vl s2 ⟨l, H2, I2, pl, q2⟩ => thn (hu pins s2 σ H2 _ I2 q2) fun vu s3 ⟨u, H3, I3, pu, q3⟩ => ?_)
  rw [evalPart_none]
  refine wpAny_pure ?_
  have I4 : Inv X pins σ H3 { s3 with heap := s3.heap.push { cls := .type "slice", data := .fields #[vl, vu, .none] } } := I3.kept (t' := s3.toks) fun b ob q => Heap.get?_push_of_some _ q
  obtain ⟨T, id, hT, ht, hg⟩ := hr pins { s3 with heap := s3.heap.push { cls := .type "slice", data := .fields #[vl, vu, .none] } } σ H3 x v vl vu l u s3.heap.objs.size Q I4 r1 (Heap.IsSliceOf.new ..) pl pu q3
  show wpAny (model X.prog X.w) X.A (subscriptTail e (.Slice lo hi none p2) v (.ref s3.heap.objs.size)) (EP X pins σ Q) X.xe { s3 with heap := s3.heap.push { cls := .type "slice", data := .fields #[vl, vu, .none] } }
  exact tail_any (ops := [.ref s3.heap.objs.size, v]) ht hT hg (by with_unfolding_all rfl)

/-- the items of xs[lo:hi] -/
def cutV (xs : List V) (lo hi : Option Int) : List V := (xs.drop (HT.sIx xs.length 0 lo)).take (HT.sIx xs.length xs.length hi - HT.sIx xs.length 0 lo)
theorem cutV_length (xs : List V) (lo hi : Option Int) : (cutV xs lo hi).length ≤ xs.length := by
  unfold cutV
  rw [List.length_take, List.length_drop]
  omega
/-- t[lo:hi], not the whole of it (the whole would be t itself) -/
def rSlT (K : PySem.W.Frag) : V → Option Int → Option Int → Hp → VK → Prop := fun x lo hi H Q => ∃ a xs, x = .ref a ∧ SqT K H a xs ∧
  ¬ (HT.sIx xs.length 0 lo = 0 ∧ HT.sIx xs.length xs.length hi = xs.length) ∧ ∀ p, H p = none → Q (.ref p) (upd H p (.tup (cutV xs lo hi)))
theorem sl_tup : SlR X (rSlT X.K) := by
  intro pins s σ H x v vl vu lo hi sl Q I rx hs pl pu h
  obtain ⟨a, xs, rfl, hx, hw, q⟩ := h
  cases rx
  obtain ⟨its, r, ht, hz⟩ := I.tuple hx
  have hlen : its.toArray.size = xs.length := by rw [List.size_toArray]; exact r.length.symm
  refine ⟨"tuple", _, PyProof.Rows.slot_tuple_getitem.lookup, ht.typeIs, ?_⟩
  refine HT.getItem_tuple_cut ht hs pl pu (by rw [hlen]; exact hw) ?_ (by rw [hlen]; exact hz)
  rw [hlen]
  refine ⟨.ref s.heap.objs.size, _, I.laid (t' := s.toks) (o := .tup (cutV xs lo hi)) (fun b ob q => Heap.get?_push_of_some _ q) (Nat.le_refl _) ?_, rfl, q _ (I.hok.fresh (Nat.le_refl _))⟩
  exact ⟨Nat.le_trans (cutV_length xs lo hi) hz, _, (r.drop (HT.sIx xs.length 0 lo)).take (HT.sIx xs.length xs.length hi - HT.sIx xs.length 0 lo), IsTup.new _ _⟩

/-- t + u, t not empty: u empty gives t itself -/
def rCatT (K : PySem.W.Frag) : R2 := fun x y H Q => ∃ a b xs ys, x = .ref a ∧ y = .ref b ∧ SqT K H a xs ∧ SqT K H b ys ∧ xs ≠ [] ∧ xs.length + ys.length ≤ sizeLine ∧
  (ys = [] → Q (.ref a) H) ∧ (ys ≠ [] → ∀ p, H p = none → Q (.ref p) (upd H p (.tup (xs ++ ys))))
theorem Vals.nil_iff {xs : List V} {us : List Value} (r : Vals xs us) : us = [] ↔ xs = [] := by
  cases r with
  | nil => simp
  | cons _ _ => simp
theorem op_catT : OpR X (binaryOp .Add) (rCatT X.K) := by
  intro pins s σ H x y v u Q I rx ry h
  obtain ⟨a, b, xs, ys, rfl, rfl, ha, hb, hx, hz, q1, q2⟩ := h
  cases rx
  cases ry
  obtain ⟨its, r1, p1, _⟩ := I.tuple ha
  obtain ⟨its2, r2, p2, _⟩ := I.tuple hb
  refine HT.cat_tup p1 p2 (fun z => hx (r1.nil_iff.mp z)) (fun z => ⟨.ref a, H, I, rfl, q1 (r2.nil_iff.mp z)⟩) (fun z => ?_) (by rw [← r1.length, ← r2.length]; exact hz)
  refine ⟨.ref s.heap.objs.size, _, I.laid (t' := s.toks) (o := .tup (xs ++ ys)) (fun b ob q => Heap.get?_push_of_some _ q) (Nat.le_refl _) ?_, rfl, q2 (fun w => z (r2.nil_iff.mpr w)) _ (I.hok.fresh (Nat.le_refl _))⟩
  exact ⟨by rw [List.length_append]; exact hz, _, r1.append r2, IsTup.new _ _⟩
end
end L2

namespace L2
open PySem PySem.Spec PyProof.Rows

/-! ### places -/
/-- the place that an index of any sign means -/
def ixN (n : Nat) (i : Int) : Option Nat := if 0 ≤ i then (if i < n then some i.toNat else none) else if -(n : Int) ≤ i then some (i + n).toNat else none
def atI {α : Type} (xs : List α) (i : Int) : Option α := (ixN xs.length i).bind fun j => xs[j]?
theorem ixN_seq {n : Nat} {i : Int} {j : Nat} (h : ixN n i = some j) : seqIndex? i n = some j ∧ j < n ∧ -(n : Int) ≤ i ∧ i < n := by
  unfold ixN at h
  by_cases h0 : 0 ≤ i
  · rw [if_pos h0] at h
    by_cases h1 : i < n
    · rw [if_pos h1] at h
      have e : i.toNat = j := Option.some.inj h
      exact ⟨by rw [seqIndex_of h0 h1, e], by omega, by omega, h1⟩
    · rw [if_neg h1] at h; cases h
  · rw [if_neg h0] at h
    by_cases h1 : -(n : Int) ≤ i
    · rw [if_pos h1] at h
      have e : (i + n).toNat = j := Option.some.inj h
      exact ⟨by rw [seqIndex_neg (by omega) h1, e], by omega, h1, by omega⟩
    · rw [if_neg h1] at h; cases h
theorem atI_get {α : Type} {xs : List α} {i : Int} {v : α} (h : atI xs i = some v) : ∃ j, seqIndex? i xs.length = some j ∧ xs[j]? = some v ∧ j < xs.length ∧ -(xs.length : Int) ≤ i ∧ i < xs.length := by
  unfold atI at h
  cases e : ixN xs.length i with
  | none => rw [e] at h; cases h
  | some j =>
    rw [e] at h
    obtain ⟨h1, h2, h3, h4⟩ := ixN_seq e
    exact ⟨j, h1, h, h2, h3, h4⟩
theorem atI_nat {α : Type} {xs : List α} {j : Nat} {v : α} (h : xs[j]? = some v) : atI xs (j : Int) = some v := by
  have hj : j < xs.length := (List.getElem?_eq_some_iff.mp h).1
  have e : ixN xs.length (j : Int) = some j := by
    unfold ixN
    rw [if_pos (by omega), if_pos (by omega)]; simp
  unfold atI; rw [e]; exact h
/-! ### what may be subscripted -/
/-- what stands as an index of a plain subscript -/
def PlainIx (b : Expr) : Prop := ∀ o i, subscripted b false o i = operate [o, i] (getItem o i)
/-- a subscript by values -/
def IxR (X : Cx) (r : R2) : Prop :=
  ∀ (value slice : Expr) (pins : List (Addr × Obj)) (s : Shared) (σ : St) (H : Hp) (x y : V) (v u : Value) (Q : VK), Inv X pins σ H s → RelV x v → RelV y u → r x y H Q →
    subscripted slice false v u = operate [v, u] (getItem v u) → wpAny (model X.prog X.w) X.A (subscriptTail value slice v u) (EP X pins σ Q) X.xe s
/-- a call of a builtin's method by values: the receiver, the arguments -/
def MtR (X : Cx) (id : String) (r : V → List V → Hp → VK → Prop) : Prop :=
  ∀ (pins : List (Addr × Obj)) (s : Shared) (σ : St) (H : Hp) (x : V) (xs : List V) (v : Value) (us : List Value) (Q : VK), Inv X pins σ H s → RelV x v → Vals xs us → r x xs H Q →
    wpAny (model X.prog X.w) X.A (call (.builtin id) (v :: us)) (EP X pins σ Q) X.xe s
section
variable {X : Cx} {a b : Expr} {ta tb : TE} {pos : Pos}
/-- a[b] -/
theorem pe_ix {r : R2} (hr : IxR X r) (ha : PE X a ta) (hb : PE X b tb) (hs : PlainIx b) : PE X (.Subscript a b pos) (tOp r ta tb) := by
  intro pins s σ H Q I h
  exact Subscript_ (binT ha hb I h fun v u s2 x y H2 I2 rx ry q => hr a b pins s2 σ H2 x y v u Q I2 rx ry q (hs _ _))

def rIxL (K : PySem.W.Frag) : R2 := fun x y H Q => ∃ p xs i v, x = .ref p ∧ y = .int i ∧ SqL K H p xs ∧ atI xs i = some v ∧ Q v H
def rIxT (K : PySem.W.Frag) : R2 := fun x y H Q => ∃ p xs i v, x = .ref p ∧ y = .int i ∧ SqT K H p xs ∧ atI xs i = some v ∧ Q v H
def rIxS : R2 := fun x y H Q => ∃ z i c, x = .str z ∧ y = .int i ∧ z.length ≤ sizeLine ∧ atI z.cps.toList i = some c ∧ Q (.str ⟨#[c]⟩) H
theorem ix_list : IxR X (rIxL X.K) := by
  intro value slice pins s σ H x y v u Q I rx ry h hs
  obtain ⟨p, xs, i, z, rfl, rfl, hq, he, q⟩ := h
  cases rx
  obtain ⟨t, rfl⟩ := ry
  obtain ⟨its, r, pl, hz⟩ := I.list hq
  obtain ⟨j, h1, h2, h3, h4, h5⟩ := atI_get he
  obtain ⟨w, ew, rw'⟩ := r.get h2
  have hl := r.length
  have hn := line63
  have fin : EP X pins σ Q w s := ⟨z, H, I, rw', q⟩
  by_cases h0 : 0 ≤ i
  · have hj : i.toNat = j := by
      rw [seqIndex_of h0 h5] at h1
      exact Option.some.inj h1
    exact item_listR pl.isList h0 (by omega) (by rw [hj]; simpa using ew) fin hs
  · have hj : (i + (its.toArray.size : Int)).toNat = j := by
      rw [seqIndex_neg (by omega) h4] at h1
      rw [List.size_toArray, ← hl]
      exact Option.some.inj h1
    exact subscriptTail_builtinR (x := w) pl.isList.typeIs slot_list_getitem.lookup
      (wpAny_getItem_list_neg (Q := fun r s' => r = w ∧ EP X pins σ Q r s') pl.isList (by omega) (by rw [List.size_toArray] <;> omega) (by omega) (by rw [hj]; simpa using ew) ⟨rfl, fin⟩) hs
theorem ix_tup : IxR X (rIxT X.K) := by
  intro value slice pins s σ H x y v u Q I rx ry h hs
  obtain ⟨p, xs, i, z, rfl, rfl, hq, he, q⟩ := h
  cases rx
  obtain ⟨t, rfl⟩ := ry
  obtain ⟨its, r, pl, hz⟩ := I.tuple hq
  obtain ⟨j, h1, h2, h3, h4, h5⟩ := atI_get he
  obtain ⟨w, ew, rw'⟩ := r.get h2
  have hl := r.length
  have hn := line63
  have fin : EP X pins σ Q w s := ⟨z, H, I, rw', q⟩
  exact subscriptTail_builtinR (x := w) pl.typeIs slot_tuple_getitem.lookup
    (getItem_tuple (j := j) (Q := fun r s' => r = w ∧ EP X pins σ Q r s') pl (by omega) (by omega) (by rw [List.size_toArray, ← hl]; exact h1) (by simpa using ew) ⟨rfl, fin⟩) hs
theorem ix_str : IxR X rIxS := by
  intro value slice pins s σ H x y v u Q I rx ry h hs
  obtain ⟨z, i, c, rfl, rfl, hz, he, q⟩ := h
  obtain ⟨t, rfl⟩ := rx
  obtain ⟨t', rfl⟩ := ry
  obtain ⟨j, h1, h2, h3, h4, h5⟩ := atI_get he
  have hl : z.cps.toList.length = z.length := by simp [Str.length]
  rw [hl] at h1 h4 h5
  have hn := line63
  exact tail_any (typeIs_str s z t) slot_str_getitem.lookup (getItem_str (c := c) (by
    have e1 : decide (i < -(2 ^ 63 : Int)) = false := decide_eq_false (by omega)
    have e2 : decide (i ≥ 2 ^ 63) = false := decide_eq_false (by omega)
    rw [e1, e2, Bool.or_false]) (by rw [h1]; simpa using h2) ⟨.str ⟨#[c]⟩, H, I.tok _, ⟨_, rfl⟩, q⟩) hs
/-! ### xs[i] = v, any sign -/
/-- the list's object behind a store -/
theorem mapSeq_set (its : List Value) (n j : Nat) (u : Value) : Obj.mapSeq (·.setIfInBounds j u) { cls := .type "list", data := .seq its.toArray n } = { cls := .type "list", data := .seq (its.set j u).toArray n } := by
  simp [Obj.mapSeq]
theorem Inv.lst {pins : List (Addr × Obj)} {σ : St} {H : Hp} {s : Shared} {p : Addr} {xs : List V} (I : Inv X pins σ H s) (h : H p = some (.lst xs)) :
    ∃ (its : List Value) (n : Nat), Vals xs its ∧ s.heap.get? p = some { cls := .type "list", data := .seq its.toArray n } ∧ xs.length ≤ sizeLine := by
  obtain ⟨z, its, n, r, e⟩ := I.hok p _ h
  exact ⟨its, n, r, e, z⟩
/-- the list at p is written by an update of its object -/
theorem Inv.lstUpd {pins : List (Addr × Obj)} {σ : St} {H : Hp} {s : Shared} {p : Addr} {xs ys : List V} {its its' : List Value} {n n' : Nat} {f : Obj → Obj} (I : Inv X pins σ H s) (h : H p = some (.lst xs))
    (ho : s.heap.get? p = some { cls := .type "list", data := .seq its.toArray n }) (hf : f { cls := .type "list", data := .seq its.toArray n } = { cls := .type "list", data := .seq its'.toArray n' }) (r : Vals ys its') (hz : ys.length ≤ sizeLine) (t : Nat) :
    Inv X pins σ (upd H p (.lst ys)) { s with heap := s.heap.update p f, toks := t } := by
  have e : (s.heap.update p f).get? p = some { cls := .type "list", data := .seq its'.toArray n' } := by
    rw [Heap.get?_update_self f ho (by rw [hf] <;> rfl), hf]
  refine I.write (x := p) (e := p) (by rw [h]; trivial) (.inl rfl) (fun b u hb q => (Heap.get?_update_other _ _ (Ne.symm hb)).trans q) ⟨_, e⟩ ?_
  exact ⟨hz, its', n', r, e⟩
def rSetL : V → V → V → Hp → (Hp → Prop) → Prop := fun o i v H Q => ∃ p xs k j, o = .ref p ∧ i = .int k ∧ H p = some (.lst xs) ∧ ixN xs.length k = some j ∧ Q (upd H p (.lst (xs.set j v)))
theorem set_list : PSet X rSetL := by
  intro pins s σ H o i v ov iv u Q I ro ri rv h
  obtain ⟨p, xs, k, j, rfl, rfl, hp, hj, q⟩ := h
  cases ro
  obtain ⟨t, rfl⟩ := ri
  obtain ⟨its, n, r, ho, hz⟩ := I.lst hp
  obtain ⟨h1, h2, h3, h4⟩ := ixN_seq hj
  have hl := r.length
  have hn := line63
  have I' : Inv X pins σ (upd H p (.lst (xs.set j v))) { s with heap := s.heap.update p (Obj.mapSeq (·.setIfInBounds j u)) } :=
    I.lstUpd hp ho (mapSeq_set its n j u) (r.set rv j) (by rw [List.length_set]; exact hz) s.toks
  by_cases h0 : 0 ≤ k
  · have hk : k.toNat = j := by
      rw [seqIndex_of h0 h4] at h1
      exact Option.some.inj h1
    exact PySem.W.ki_setAt ho h0 (by omega) (by rw [List.size_toArray, ← hl]; exact h4) (by rw [hk]; exact ⟨_, I', q⟩)
  · have hk : (k + (its.toArray.size : Int)).toNat = j := by
      rw [seqIndex_neg (by omega) h3] at h1
      rw [List.size_toArray, ← hl]
      exact Option.some.inj h1
    exact PySem.W.ki_setBack ho (by omega) (by rw [List.size_toArray, ← hl]; exact h3) (by omega) (by rw [hk]; exact ⟨_, I', q⟩)

/-! ### slices -/
theorem slice_bounds (lo hi : Option Int) (n : Nat) : (sliceBounds lo hi none n).1 = ((HT.sIx n 0 lo : Nat) : Int) ∧ (sliceBounds lo hi none n).2.1 = ((HT.sIx n n hi : Nat) : Int) ∧ (sliceBounds lo hi none n).2.2 = 1 := by
  refine ⟨?_, ?_, rfl⟩
  · cases lo with
    | none => simp [sliceBounds, HT.sIx]
    | some i =>
      simp only [sliceBounds, HT.sIx, Option.getD_none, show (1 : Int) > 0 by decide, if_true]
      by_cases h : i < 0
      · simp only [h, if_true] <;> omega
      · simp only [h, if_false] <;> omega
  · cases hi with
    | none => simp [sliceBounds, HT.sIx]
    | some i =>
      simp only [sliceBounds, HT.sIx, Option.getD_none, show (1 : Int) > 0 by decide, if_true]
      by_cases h : i < 0
      · simp only [h, if_true] <;> omega
      · simp only [h, if_false] <;> omega
theorem slicePick_cut (its : List Value) (lo hi : Option Int) : slicePick its.toArray lo hi none = ((its.drop (HT.sIx its.length 0 lo)).take (HT.sIx its.length its.length hi - HT.sIx its.length 0 lo)).toArray := by
  obtain ⟨h1, h2, h3⟩ := slice_bounds lo hi its.toArray.size
  unfold slicePick
  rw [h1, h2, h3]
  simp only [sliceRange_one, pick_run, List.size_toArray] <;> rfl
/-- xs[lo:hi] of a list: a new list -/
def rSlL (K : PySem.W.Frag) : V → Option Int → Option Int → Hp → VK → Prop := fun x lo hi H Q => ∃ a xs, x = .ref a ∧ SqL K H a xs ∧ ∀ p, H p = none → Q (.ref p) (upd H p (.lst (cutV xs lo hi)))
theorem sl_list : SlR X (rSlL X.K) := by
  intro pins s σ H x v vl vu lo hi sl Q I rx hs pl pu h
  obtain ⟨a, xs, rfl, hx, q⟩ := h
  cases rx
  obtain ⟨its, r, ht, hz⟩ := I.list hx
  have hlen := r.length
  refine ⟨"list", _, slot_list_getitem.lookup, ht.isList.typeIs, ?_⟩
  refine wpAny_getItem_list_slice ht.isList hs pl pu .none (by simp) ?_ (by rw [List.size_toArray] <;> omega)
  rw [slicePick_cut, ← hlen]
  refine ⟨.ref s.heap.objs.size, _, I.laid (t' := s.toks) (o := .lst (cutV xs lo hi)) (fun b ob q => Heap.get?_push_of_some _ q) (Nat.le_refl _) ?_, rfl, q _ (I.hok.fresh (Nat.le_refl _))⟩
  exact ⟨Nat.le_trans (cutV_length xs lo hi) hz, _, 0, (r.drop (HT.sIx xs.length 0 lo)).take (HT.sIx xs.length xs.length hi - HT.sIx xs.length 0 lo), Heap.get?_push_size _ rfl⟩

/-! ### in, not in: flat items -/
def flatV : V → Bool
  | .non => true
  | .bl _ => true
  | .int _ => true
  | .str _ => true
  | _ => false
/-- == of flat values -/
def eqV : V → V → Bool
  | .non, .non => true
  | .bl a, .bl b => a == b
  | .bl a, .int b => (if a then 1 else 0) == b
  | .int a, .bl b => a == (if b then 1 else 0)
  | .int a, .int b => a == b
  | .str a, .str b => a == b
  | _, _ => false
theorem eqAt_V {A : Around} {s : Shared} {y x : V} {u v : Value} (ry : RelV y u) (rx : RelV x v) (fy : flatV y = true) (fx : flatV x = true) : SeqAt.EqAt A s u v (eqV y x) := by
  cases y with
  | non =>
    cases ry
    cases x with
    | non => cases rx; exact SeqAt.EqAt.same _
    | bl b => cases rx; exact SeqAt.EqAt.none_bool b
    | int b => obtain ⟨t, rfl⟩ := rx; exact SeqAt.EqAt.none_int b t
    | str b => obtain ⟨t, rfl⟩ := rx; exact SeqAt.EqAt.none_str b t
    | _ => exact absurd (show false = true from fx) Bool.false_ne_true
  | bl a =>
    cases ry
    cases x with
    | non => cases rx; exact SeqAt.EqAt.bool_none a
    | bl b => cases rx; exact SeqAt.EqAt.bool_bool a b
    | int b => obtain ⟨t, rfl⟩ := rx; exact SeqAt.EqAt.bool_int a b t
    | str b => obtain ⟨t, rfl⟩ := rx; exact SeqAt.EqAt.bool_str a b t
    | _ => exact absurd (show false = true from fx) Bool.false_ne_true
  | int a =>
    obtain ⟨t', rfl⟩ := ry
    cases x with
    | non => cases rx; exact SeqAt.EqAt.int_none a t'
    | bl b => cases rx; exact SeqAt.EqAt.int_bool a t' b
    | int b => obtain ⟨t, rfl⟩ := rx; exact SeqAt.EqAt.int_int a t' b t
    | str b => obtain ⟨t, rfl⟩ := rx; exact SeqAt.EqAt.int_str a t' b t
    | _ => exact absurd (show false = true from fx) Bool.false_ne_true
  | str a =>
    obtain ⟨t', rfl⟩ := ry
    cases x with
    | non => cases rx; exact SeqAt.EqAt.str_none a t'
    | bl b => cases rx; exact SeqAt.EqAt.str_bool a t' b
    | int b => obtain ⟨t, rfl⟩ := rx; exact SeqAt.EqAt.str_int a t' b t
    | str b => obtain ⟨t, rfl⟩ := rx; exact SeqAt.EqAt.str_str a t' b t
    | _ => exact absurd (show false = true from fx) Bool.false_ne_true
  | _ => exact absurd (show false = true from fy) Bool.false_ne_true
/-- the items' answers, read off the values (a value's own answer does not lean on its token) -/
def eqU (x : V) (u : Value) : Bool := match u with
  | .none => eqV .non x
  | .bool b => eqV (.bl b) x
  | .int i _ => eqV (.int i) x
  | .str z _ => eqV (.str z) x
  | _ => false
theorem eqU_of {x y : V} {u : Value} (r : RelV y u) (f : flatV y = true) : eqU x u = eqV y x := by
  cases y with
  | non => cases r; rfl
  | bl b => cases r; rfl
  | int i => obtain ⟨t, rfl⟩ := r; rfl
  | str z => obtain ⟨t, rfl⟩ := r; rfl
  | _ => exact absurd (show false = true from f) Bool.false_ne_true
theorem any_eqU {x : V} : ∀ {xs : List V} {us : List Value}, Vals xs us → xs.all flatV = true → us.any (eqU x) = xs.any fun y => eqV y x
  | _, _, .nil, _ => rfl
  | y :: xs, u :: us, .cons r t, f => by
    rw [List.all_cons, Bool.and_eq_true] at f
    rw [List.any_cons, List.any_cons, eqU_of r f.1, any_eqU t f.2]
theorem mem_eqAt {A : Around} {s : Shared} {x : V} {v : Value} (rx : RelV x v) (fx : flatV x = true) : ∀ {xs : List V} {us : List Value}, Vals xs us → xs.all flatV = true → ∀ u ∈ us, SeqAt.EqAt A s u v (eqU x u)
  | _, _, .nil, _ => fun u hu => by cases hu
  | y :: xs, u :: us, .cons r t, f => fun u' hu => by
    rw [List.all_cons, Bool.and_eq_true] at f
    rcases List.mem_cons.mp hu with rfl | hu
    · rw [eqU_of r f.1]; exact eqAt_V r rx f.1 fx
    · exact mem_eqAt rx fx t f.2 u' hu
def inV (x : V) (xs : List V) : Bool := xs.any fun y => eqV y x
/-- x in a list or tuple of flat items -/
def rIn (K : PySem.W.Frag) (neg : Bool) : R2 := fun x y H Q => ∃ p xs, y = .ref p ∧ (SqL K H p xs ∨ SqT K H p xs) ∧ flatV x = true ∧ xs.all flatV = true ∧ Q (.bl (if neg then !inV x xs else inV x xs)) H
theorem op_in_seq : OpR X (compareOp .In) (rIn X.K false) := by
  intro pins s σ H x y v u Q I rx ry h
  obtain ⟨p, xs, rfl, hq, fx, fs, q⟩ := h
  cases ry
  rcases hq with hq | hq
  · obtain ⟨its, r, pl, hz⟩ := I.list hq
    refine SeqAt.in_listAt (eqU x) pl.isList (fun w hw => mem_eqAt rx fx r fs w (by simpa using hw)) ⟨.bl _, H, I, rfl, ?_⟩
    rw [show its.toArray.any (eqU x) = its.any (eqU x) by simp, any_eqU r fs]
    exact q
  · obtain ⟨its, r, pl, hz⟩ := I.tuple hq
    refine SeqAt.in_tupleAt (eqU x) pl (fun w hw => mem_eqAt rx fx r fs w (by simpa using hw)) ⟨.bl _, H, I, rfl, ?_⟩
    rw [show its.toArray.any (eqU x) = its.any (eqU x) by simp, any_eqU r fs]
    exact q
theorem op_notIn_seq : OpR X (compareOp .NotIn) (rIn X.K true) := by
  intro pins s σ H x y v u Q I rx ry h
  obtain ⟨p, xs, rfl, hq, fx, fs, q⟩ := h
  cases ry
  rcases hq with hq | hq
  · obtain ⟨its, r, pl, hz⟩ := I.list hq
    refine SeqAt.notIn_listAt (eqU x) pl.isList (fun w hw => mem_eqAt rx fx r fs w (by simpa using hw)) ⟨.bl _, H, I, rfl, ?_⟩
    rw [show its.toArray.any (eqU x) = its.any (eqU x) by simp, any_eqU r fs]
    exact q
  · obtain ⟨its, r, pl, hz⟩ := I.tuple hq
    refine SeqAt.notIn_tupleAt (eqU x) pl (fun w hw => mem_eqAt rx fx r fs w (by simpa using hw)) ⟨.bl _, H, I, rfl, ?_⟩
    rw [show its.toArray.any (eqU x) = its.any (eqU x) by simp, any_eqU r fs]
    exact q
/-! ### len, list(x), tuple(x) of any list or tuple that is read -/
theorem call_len_seq : CallR X (.builtin "len") (fun xs H Q => ∃ p ys, xs = [.ref p] ∧ (SqL X.K H p ys ∨ SqT X.K H p ys) ∧ Q (.int ys.length) H) := by
  intro pins s σ H xs us Q I r h
  obtain ⟨p, ys, rfl, hq, q⟩ := h
  obtain ⟨u, rfl, rx⟩ := vals1 r
  cases rx
  have hn := line63
  rcases hq with hq | hq
  · obtain ⟨its, r', pl, hz⟩ := I.list hq
    have hlen := r'.length
    exact Calls.call_len_list pl.isList (by simp only [List.size_toArray] <;> omega) ⟨.int ys.length, H, I.tok _, ⟨s.toks + 1, by rw [List.size_toArray, hlen]⟩, q⟩
  · obtain ⟨its, r', pl, hz⟩ := I.tuple hq
    have hlen := r'.length
    exact len_tuple pl (by simp only [List.size_toArray] <;> omega) ⟨.int ys.length, H, I.tok _, ⟨s.toks + 1, by rw [List.size_toArray, hlen]⟩, q⟩
theorem call_len_str : CallR X (.builtin "len") (fun xs H Q => ∃ z, xs = [.str z] ∧ z.length ≤ sizeLine ∧ Q (.int z.length) H) := by
  intro pins s σ H xs us Q I r h
  obtain ⟨z, rfl, hz, q⟩ := h
  obtain ⟨u, rfl, t, rfl⟩ := vals1 r
  have hn := line63
  exact len_str (by omega) ⟨.int z.length, H, I.tok _, ⟨_, rfl⟩, q⟩
theorem call_list_of : CallR X (.type "list") (fun xs H Q => ∃ p ys, xs = [.ref p] ∧ (SqL X.K H p ys ∨ SqT X.K H p ys) ∧ ∀ l, H l = none → Q (.ref l) (upd H l (.lst ys))) := by
  intro pins s σ H xs us Q I r h
  obtain ⟨p, ys, rfl, hq, q⟩ := h
  obtain ⟨u, rfl, rx⟩ := vals1 r
  cases rx
  have fin : ∀ (its : List Value), Vals ys its → ys.length ≤ sizeLine → ∀ (h' : Heap) (c' : Nat), (∀ b o', s.heap.get? b = some o' → h'.get? b = some o') →
      h'.get? s.heap.objs.size = some { cls := .type "list", dict := none, data := .seq its.toArray c', slots := #[] } → EP X pins σ Q (.ref s.heap.objs.size) { s with heap := h' } := fun its r' hz h' c' kp e =>
    ⟨.ref s.heap.objs.size, _, I.laid (t' := s.toks) kp (Nat.le_refl _) (show ObjOk X.prog X.w _ h' _ (.lst ys) from ⟨hz, its, c', r', e⟩), rfl, q _ (I.hok.fresh (Nat.le_refl _))⟩
  rcases hq with hq | hq
  · obtain ⟨its, r', pl, hz⟩ := I.list hq
    have hlen := r'.length
    obtain ⟨o, ho, hc, n, hd⟩ := pl.isList
    exact call_list_seq p (.inl rfl) ho hc hd (fun h' c' kp e => fin its r' hz h' c' kp e) (by simp only [List.size_toArray] <;> omega)
  · obtain ⟨its, r', pl, hz⟩ := I.tuple hq
    have hlen := r'.length
    obtain ⟨o, ho, hc, n, hd⟩ := pl
    exact call_list_seq p (.inr rfl) ho hc hd (fun h' c' kp e => fin its r' hz h' c' kp e) (by simp only [List.size_toArray] <;> omega)
theorem call_tuple_of : CallR X (.type "tuple") (fun xs H Q => ∃ p ys, xs = [.ref p] ∧ ((SqL X.K H p ys ∧ ∀ l, H l = none → Q (.ref l) (upd H l (.tup ys))) ∨ (SqT X.K H p ys ∧ Q (.ref p) H))) := by
  intro pins s σ H xs us Q I r h
  obtain ⟨p, ys, rfl, h⟩ := h
  obtain ⟨u, rfl, rx⟩ := vals1 r
  cases rx
  rcases h with ⟨hq, q⟩ | ⟨hq, q⟩
  · obtain ⟨its, r', pl, hz⟩ := I.list hq
    have hlen := r'.length
    refine call_tuple_list pl.isList (fun h' kp => ?_) (by simp only [List.size_toArray] <;> omega)
    have I1 : Inv X pins σ H { s with heap := h' } := I.kept (t' := s.toks) kp
    have I2 : Inv X pins σ (upd H h'.objs.size (.tup ys)) { s with heap := h'.push { cls := .type "tuple", data := .seq its.toArray } } :=
      I1.laid (t' := s.toks) (fun b o e => Heap.get?_push_of_some _ e) (Nat.le_refl _) (show ObjOk X.prog X.w _ _ _ (.tup ys) from ⟨hz, its, r', IsTup.new _ _⟩)
    exact ⟨.ref h'.objs.size, _, I2, rfl, q _ (I1.hok.fresh (Nat.le_refl _))⟩
  · obtain ⟨its, r', pl, hz⟩ := I.tuple hq
    exact call_tuple_same pl ⟨.ref p, H, I, rfl, q⟩

/-! ### the call of a builtin's method: o.m(..) -/
/-- the value is of that builtin type -/
def tyV (K : PySem.W.Frag) (T : String) (x : V) (H : Hp) : Prop := match x with
  | .str _ => T = "str"
  | .int _ => T = "int"
  | .ref p => (T = "list" ∧ ∃ xs, SqL K H p xs) ∨ (T = "tuple" ∧ ∃ o, K.lookup p = some o ∧ o.cls = .type "tuple" ∧ o.dict = none) ∨
      (T = "dict" ∧ ((∃ kvs, H p = some (.dK kvs)) ∨ ∃ kvs, H p = some (.dT kvs))) ∨ (T = "set" ∧ ∃ S n, H p = some (.set S n))
  | _ => False
theorem tyV_is {pins : List (Addr × Obj)} {σ : St} {H : Hp} {s : Shared} {T : String} {x : V} {v : Value} (I : Inv X pins σ H s) (r : RelV x v) (ty : tyV X.K T x H) :
    s.TypeIs v T ∧ ∀ a, v = .ref a → ∃ ob, s.heap.get? a = some ob ∧ ob.dict = none := by
  cases x with
  | str z =>
    obtain ⟨t, rfl⟩ := r
    cases (show T = "str" from ty)
    exact ⟨typeIs_str s z t, fun _ e => nomatch e⟩
  | int i =>
    obtain ⟨t, rfl⟩ := r
    cases (show T = "int" from ty)
    exact ⟨typeIs_int s i t, fun _ e => nomatch e⟩
  | ref p =>
    cases r
    rcases ty with ⟨rfl, xs, hq⟩ | ⟨rfl, o, hk, hc, hd⟩ | ⟨rfl, hk⟩ | ⟨rfl, S, n, hk⟩
    · obtain ⟨its, _, pl, _⟩ := I.list hq
      refine ⟨pl.isList.typeIs, fun a e => ?_⟩
      cases e
      obtain ⟨o, n, e, c, hd, _⟩ := pl
      exact ⟨o, e, hd⟩
    · refine ⟨⟨o, I.kIn p o hk, hc⟩, fun a e => ?_⟩
      cases e
      exact ⟨o, I.kIn _ o hk, hd⟩
    · have z : ∃ o, s.heap.get? p = some o ∧ o.ExactDict := by
        rcases hk with ⟨kvs, hk⟩ | ⟨kvs, hk⟩
        · obtain ⟨_, _, _, _, o, _, _, e, ex, _⟩ := I.hok p _ hk
          exact ⟨o, e, ex⟩
        · obtain ⟨_, _, _, _, o, _, _, e, ex, _⟩ := I.hok p _ hk
          exact ⟨o, e, ex⟩
      obtain ⟨o, e, ex⟩ := z
      refine ⟨⟨o, e, ex.1⟩, fun a e2 => ?_⟩
      cases e2
      exact ⟨o, e, ex.2.1⟩
    · obtain ⟨o, _, _, _, e, ex, _⟩ := I.hok p _ hk
      refine ⟨⟨o, e, ex.1⟩, fun a e2 => ?_⟩
      cases e2
      exact ⟨o, e, ex.2.1⟩
  | _ => exact False.elim ty
def tBM0 (K : PySem.W.Frag) (T : String) (r : V → List V → Hp → VK → Prop) (to : TE) : TE := fun σ H Q => to σ H fun x H1 => tyV K T x H1 ∧ r x [] H1 Q
def tBM (K : PySem.W.Frag) (T : String) (r : V → List V → Hp → VK → Prop) (to : TE) (t : TA) : TE := fun σ H Q => to σ H fun x H1 => tyV K T x H1 ∧ t σ H1 fun xs H2 => r x xs H2 Q
variable {o e : Expr} {es : List Expr} {to : TE} {t : TA} {name : Str} {apos cpos : Pos} {T id : String} {r : V → List V → Hp → VK → Prop}
theorem pe_bm0 (pa : PlainAttrs T) (slot : Slot T name id) (hty : typeOf (.builtin id) = pure (.type "method_descriptor")) (hm : MtR X id r) (ho : PE X o to)
    (hbase : attributeBase o name X.env (eval o X.env) = eval o X.env := by rfl) (hline : (apos.endLine == cpos.line) = true := by rfl) : PE X (.Call (.Attribute o name apos) [] [] cpos) (tBM0 X.K T r to) := by
  intro pins s σ H Q I h
  refine wpAny_Call_method0_late hbase hline (thn (ho pins s σ H _ I h) fun v s1 ⟨x, H1, I1, r1, ty, q1⟩ => ?_)
  obtain ⟨h1, h2⟩ := tyV_is I1 r1 ty
  exact ⟨T, id, pa, slot, hty, h1, h2, Calls.callWith_builtin rfl (PySem.evalArgs_none (hm pins s1 σ H1 x [] v [] Q I1 r1 .nil q1))⟩
theorem pe_bm (pa : PlainAttrs T) (slot : Slot T name id) (hty : typeOf (.builtin id) = pure (.type "method_descriptor")) (hm : MtR X id r) (ho : PE X o to) (ha : PA X (e :: es) t)
    (hbase : attributeBase o name X.env (eval o X.env) = eval o X.env := by rfl)
    (hfew : ((backTo cpos (starEach (e :: es) X.env)).all (fun x => !x.1) && (backToKw cpos (keywordEach [] X.env)).all (fun x => x.1.isSome)
      && decide ((e :: es).length + ([] : List Keyword).length + (if ([] : List Keyword).isEmpty then 0 else 1) < 30)) = true := by rfl)
    (hline : (apos.endLine == cpos.line) = true := by rfl) (hs : starEach (e :: es) X.env = (false, eval e X.env) :: starEach es X.env := by rfl) (hplain : (backTo cpos (starEach es X.env)).any (·.1) = false := by rfl) :
    PE X (.Call (.Attribute o name apos) (e :: es) [] cpos) (tBM X.K T r to t) := by
  intro pins s σ H Q I h
  refine wpAny_Call_method_late hbase hfew hline rfl (thn (ho pins s σ H _ I h) fun v s1 ⟨x, H1, I1, r1, ty, q1⟩ => ?_)
  obtain ⟨h1, h2⟩ := tyV_is I1 r1 ty
  refine ⟨T, id, pa, slot, hty, h1, h2, ?_⟩
  have hA := ha cpos pins s1 σ H1 _ I1 q1
  rw [hs] at hA ⊢
  refine Calls.callWith_builtin (by show (false || (backTo cpos (starEach es X.env)).any (·.1)) = false; rw [hplain] <;> rfl) (Calls.evalArgs_plain ?_)
  exact thn hA fun us s2 ⟨vs, H2, I2, r2, q2⟩ => hm pins s2 σ H2 x vs v us Q I2 r1 r2 q2
/- xs.append(e), list.index on a module's tuple .. are MtR facts of 06m -/
end
end L2

namespace L2
open PySem PySem.Spec PyProof.Rows

def MtM (X : Cx) (id : String) (r : V → List V → Hp → VK → Prop) : Prop :=
  ∀ (pins : List (Addr × Obj)) (s : Shared) (σ : St) (H : Hp) (x : V) (xs : List V) (v : Value) (us : List Value) (Q : VK), Inv X pins σ H s → RelV x v → Vals xs us → r x xs H Q →
    wpAny (model X.prog X.w) X.A (call (.builtin id) (v :: us)) (EP X pins σ Q) X.xe s

/-! ### lists of values -/
theorem Vals.one : ∀ {x : V} {us : List Value}, Vals [x] us → ∃ u, us = [u] ∧ RelV x u
  | _, _, .cons r .nil => ⟨_, rfl, r⟩
theorem Vals.zero : ∀ {us : List Value}, Vals [] us → us = []
  | _, .nil => rfl
theorem Vals.dropLast {xs : List V} {us : List Value} (h : Vals xs us) : Vals xs.dropLast us.dropLast := by
  induction h with
  | nil => exact .nil
  | cons r t ih =>
    cases t with
    | nil => exact .nil
    | cons q t' => exact .cons r ih
theorem erase_last {α : Type} (l : List α) : l.eraseIdx (l.length - 1) = l.dropLast := by
  induction l with
  | nil => rfl
  | cons a r ih =>
    cases r with
    | nil => rfl
    | cons b r =>
      have e : (a :: b :: r).length - 1 = ((b :: r).length - 1) + 1 := by
        have h1 : (a :: b :: r).length = r.length + 2 := rfl
        have h2 : (b :: r).length = r.length + 1 := rfl
        omega
      rw [e, List.eraseIdx_cons_succ, ih]
      all_goals rfl
section
variable {X : Cx} {pins : List (Addr × Obj)} {σ : St} {H : Hp} {s : Shared} {l b : Addr} {xs ys zs : List V}

/-! ### the two steps: a tracked list is rewritten, a new list is laid -/
theorem Inv.lset {its its' : List Value} {n : Nat} {f : Array Value → Array Value} {t' : Nat} (I : Inv X pins σ H s) (hH : H l = some (.lst xs))
    (e : s.heap.get? l = some { cls := .type "list", data := .seq its.toArray n }) (hf : f its.toArray = its'.toArray) (hv : Vals ys its') (hz : ys.length ≤ sizeLine) :
    Inv X pins σ (upd H l (.lst ys)) { s with heap := s.heap.update l (Obj.mapSeq f), toks := t' } := by
  have q := PySem.IsL.update e f
  rw [hf] at q
  refine I.write (x := l) (e := l) (by rw [hH]; exact trivial) (.inl rfl) (fun b' u hb hu => (Heap.get?_update_other s.heap (Obj.mapSeq f) (Ne.symm hb)).trans hu) ⟨_, q⟩ ?_
  exact ⟨hz, its', _, hv, q⟩
theorem Inv.lnew {its : List Value} {t' : Nat} (I : Inv X pins σ H s) (hv : Vals ys its) (hz : ys.length ≤ sizeLine) :
    Inv X pins σ (upd H s.heap.objs.size (.lst ys)) { s with heap := s.heap.push { cls := .type "list", data := .seq its.toArray }, toks := t' } :=
  I.laid (fun _ _ q => Heap.get?_push_of_some _ q) (Nat.le_refl _) ⟨hz, its, 0, hv, Heap.get?_push_size _ rfl⟩
theorem Inv.fresh (I : Inv X pins σ H s) : H s.heap.objs.size = none := I.hok.fresh (Nat.le_refl _)
theorem Inv.lstM (I : Inv X pins σ H s) (hH : H l = some (.lst xs)) : xs.length ≤ sizeLine ∧ ∃ (its : List Value) (n : Nat), Vals xs its ∧ xs.length = its.length ∧ s.heap.get? l = some { cls := .type "list", data := .seq its.toArray n } := by
  obtain ⟨z, its, n, r, e⟩ := I.hok l _ hH
  exact ⟨z, its, n, r, r.length, e⟩

theorem notLongL {n : Nat} (h : n ≤ sizeLine) : Builtin.List.listTooLong n = false := by
  unfold Builtin.List.listTooLong
  exact decide_eq_false (by omega)
end

section
variable {X : Cx}

/-! ### methods -/
def rAppend : V → List V → Hp → VK → Prop := fun x vs H Q => ∃ l xs y, x = .ref l ∧ vs = [y] ∧ H l = some (.lst xs) ∧ xs.length < sizeLine ∧ Q .non (upd H l (.lst (xs ++ [y])))
theorem mt_append : MtM X "list.append" rAppend := by
  intro pins s σ H x vs v us Q I rx rv h
  obtain ⟨l, xs, y, rfl, rfl, hH, hz, q⟩ := h
  cases rx
  obtain ⟨u, rfl, ru⟩ := rv.one
  obtain ⟨z, its, n, r, hl, e⟩ := I.lstM hH
  refine call_meets F.slot_list_append ⟨_, e, rfl⟩ F.entry_list_append (F.args_list_append_2 _ _) (PySem.list_append l its.toArray n u (by rw [List.size_toArray]; omega)) ⟨e, ?_⟩
  refine ⟨.non, _, I.lset (its' := its ++ [u]) hH e (by simp) (r.append (.cons ru .nil)) ?_, rfl, q⟩
  rw [List.length_append, List.length_singleton]
  omega

def rExtend : V → List V → Hp → VK → Prop := fun x vs H Q => ∃ l b xs zs, x = .ref l ∧ vs = [.ref b] ∧ H l = some (.lst xs) ∧ H b = some (.lst zs) ∧ xs.length + zs.length ≤ sizeLine ∧ Q .non (upd H l (.lst (xs ++ zs)))
theorem mt_extend : MtM X "list.extend" rExtend := by
  intro pins s σ H x vs v us Q I rx rv h
  obtain ⟨l, b, xs, zs, rfl, rfl, hH, hB, hz, q⟩ := h
  cases rx
  obtain ⟨u, rfl, ru⟩ := rv.one
  cases ru
  obtain ⟨z, its, n, r, hl, e⟩ := I.lstM hH
  obtain ⟨z2, its2, n2, r2, hl2, e2⟩ := I.lstM hB
  have hsz : its.toArray.size + its2.toArray.size ≤ sizeLine := by rw [List.size_toArray, List.size_toArray]; omega
  have hlong : ¬ (!its.toArray.isEmpty && Builtin.List.listTooLong (its.toArray.size + its2.toArray.size)) = true := by
    rw [notLongL hsz, Bool.and_false]
    exact Bool.false_ne_true
  refine call_meets F.slot_list_extend ⟨_, e, rfl⟩ F.entry_list_extend (F.args_list_extend_2 _ _)
    (AutoSeq1.list_extend_list_list_0 l its.toArray n b its2.toArray n2 hlong (by rw [List.size_toArray]; omega) (by omega)) ⟨e, e2, ?_⟩
  refine ⟨.non, _, I.lset (its' := its ++ its2) hH e (by simp) (r.append r2) ?_, rfl, q⟩
  rw [List.length_append]
  omega

def rPop : V → List V → Hp → VK → Prop := fun x vs H Q => ∃ l xs y, x = .ref l ∧ vs = [] ∧ H l = some (.lst xs) ∧ xs[xs.length - 1]? = some y ∧ Q y (upd H l (.lst xs.dropLast))
theorem mt_pop : MtM X "list.pop" rPop := by
  intro pins s σ H x vs v us Q I rx rv h
  obtain ⟨l, xs, y, rfl, rfl, hH, hy, q⟩ := h
  cases rx
  have hus := rv.zero
  subst hus
  obtain ⟨z, its, n, r, hl, e⟩ := I.lstM hH
  obtain ⟨u, hu, ru⟩ := r.get hy
  have hy' : its.toArray[its.toArray.size - 1]? = some u := by
    show its.toArray[its.length - 1]? = some u
    rw [← Array.getElem?_toList, ← hl]
    exact hu
  refine call_meets F.slot_list_pop ⟨_, e, rfl⟩ F.entry_list_pop (F.args_list_pop_1 _) (MeetsSeq.list_pop_last l its.toArray n u hy' (by rw [List.size_toArray]; omega)) ⟨e, ?_⟩
  refine ⟨y, _, I.lset (its' := its.dropLast) hH e ?_ r.dropLast ?_, ru, q⟩
  · show its.toArray.eraseIdxIfInBounds (its.toArray.size - 1) = its.dropLast.toArray
    rw [List.size_toArray, List.eraseIdxIfInBounds_toArray, erase_last]
  · rw [List.length_dropLast]
    omega

/-! ### list + list, list += list, list * int -/
def rCat : R2 := fun x y H Q => ∃ l b xs zs, x = .ref l ∧ y = .ref b ∧ H l = some (.lst xs) ∧ H b = some (.lst zs) ∧ xs.length + zs.length ≤ sizeLine ∧ ∀ p, H p = none → Q (.ref p) (upd H p (.lst (xs ++ zs)))
theorem op_cat : OpR X (binaryOp .Add) rCat := by
  intro pins s σ H x y v u Q I rx ry h
  obtain ⟨l, b, xs, zs, rfl, rfl, hH, hB, hz, q⟩ := h
  cases rx
  cases ry
  obtain ⟨z, its, n, r, hl, e⟩ := I.lstM hH
  obtain ⟨z2, its2, n2, r2, hl2, e2⟩ := I.lstM hB
  refine PySem.P.add_list e e2 ?_ (by rw [List.size_toArray, List.size_toArray]; omega)
  have ea : its.toArray ++ its2.toArray = (its ++ its2).toArray := by simp
  rw [ea]
  exact ⟨.ref _, _, I.lnew (t' := s.toks) (r.append r2) (by rw [List.length_append]; omega), rfl, q _ I.fresh⟩
end

/-! ### xs[a:b] = ys -/
section
variable {prog : Program} {w : World} {A : Around} {E : Value → Shared → Prop} {s : Shared}
end

section
variable {X : Cx}
end
end L2

namespace Att
open PySem PySem.W PySem.Calls PyProof.Rows

/-! ### the script -/
theorem ints_of_wellAll {P : Params} {h : Heap} : ∀ (ns : List Int) (vs : List Value), WellAll P h vs (ns.map WData.int) → IntsAre vs ns := by
  intro ns
  induction ns with
  | nil =>
    intro vs w
    rw [List.map_nil] at w
    cases w
    exact .nil
  | cons n ns ih =>
    intro vs w
    rw [List.map_cons] at w
    cases w with
    | cons a b =>
      cases a
      exact .cons _ _ (ih _ b)

theorem script_of {l : OpenLaw} {n : Nat} (hn : l.most = some n) {P : Params} {h : Heap} {args : List WData} {vals : List Value}
    (hpre : l.row.toRowW.claim.pre args = true) (hwl : WellAll P h vals args) :
    ∃ a vs ns, vals = [Value.ref a] ∧ args = [WData.list (ns.map WData.int)] ∧ h.get? a = some { cls := .type "list", data := .seq vs.toArray } ∧ IntsAre vs ns ∧ ns.length ≤ n := by
  have hsh : WShape.hasAll [] args [.list .int] = true := (pre_splitW hpre).1
  have hc : l.pre.holds [] { args := args } = true := (pre_splitW hpre).2
  obtain ⟨d, r, rfl, h1, h2⟩ := hasAllW_cons hsh
  obtain rfl := hasAllW_nil h2
  obtain ⟨xs, rfl, h3⟩ := hasW_list h1
  obtain ⟨ns, rfl⟩ := items_int h3
  have hlen : ns.length ≤ n := by
    unfold OpenLaw.pre at hc
    have h4 : (WTm.not (.lt (.lit (.int (n : Int))) (.len (.arg 0)))).holds [] { args := [.list (ns.map .int)] } = true := by
      have h4 := (holds_andW hc).1
      rw [hn] at h4
      exact h4
    have h5 := condW_of h4 (w_not (w_lt w_lit (w_len_list (w_arg rfl))))
    rw [List.length_map] at h5
    refine Nat.le_of_not_lt fun q => ?_
    have q' : (n : Int) < ((ns.length : Nat) : Int) := by omega
    first
      | (rw [decide_eq_true q'] at h5; exact absurd h5 (by decide))
      | (simp at h5; omega)
  cases hwl with
  | cons w1 w2 =>
    cases w2
    cases w1 with
    | list ho hall => exact ⟨_, _, ns, rfl, rfl, ho, ints_of_wellAll ns _ hall, hlen⟩

theorem post_true (l : OpenLaw) (args : List WData) : l.row.toRowW.claim.post args (.bool true) args = true :=
  postW_of (r := l.row.toRowW) (X := (true == true))
    (show WShape.has [] (.bool true) .bool = true by first | rfl | decide | simp [WShape.has, WShape.arms, WShape.armsAll])
    (show (WTm.eq .res (.lit (.bool true))).value [] { args := args, res := some (.bool true), after := args } = some (.bool (true == true)) from w_eq_bool (w_res rfl) w_lit) rfl

/-- the same from a codeAny of the CALL (for a layer whose function contracts speak of calls) -/
theorem attach_call {l : OpenLaw} {n : Nat} {q : Program} {loose : List Str} {XP : (Str → Option Value) → Heap → Prop} {YP : World → Heap → Prop} {d : DefRec}
    (hn : l.most = some n) (hdf : d.params.defaults = [])
    (call : ∀ (w : World) (s₀ s₁ : Shared) (mg mb : Str → Option Value) (fa : Addr) (o : Obj) (pm cd doc : Value) (a : Addr) (vs : List Value) (ns : List Int),
      Ground q loose [] XP w s₀ mg mb s₁.heap → YP w s₁.heap →
      s₁.heap.get? fa = some o → o.data = .func (docDef d.name d.params d.body d.scope pm cd doc) → s₁.heap.CodeRec cd d.name → mg d.name = some (.ref fa) →
      s₁.heap.get? a = some { cls := .type "list", data := .seq vs.toArray } → IntsAre vs ns → ns.length ≤ n → s₁.gens = #[] →
      codeAny (model l.prog w) callerA (.call (.ref fa) ⟨[.ref a], []⟩) (fun r s' => r = .ok (.ret (.bool true)) ∧ OldK s₁.heap s'.heap ∧ s'.os = s₁.os ∧ AllBare s'.gens) s₁) :
    WalkO q loose XP YP l.row.toRowW d [] (fun f vs => PySem.call f vs) := by
  intro w s₀ s₁ mg mb G Y fa o pm cd doc dV kV ho hd hcd hD hmg hg args vals as hpre hlay hrd hwl hlo
  obtain rfl : dV = .none := Dflts.none hD hdf
  obtain rfl : kV = .none := Dflts.noKw hD
  obtain ⟨a, vs, ns, rfl, rfl, hobj, hints, hlen⟩ := script_of hn hpre hwl
  refine enter_call (codeAny_mono (call w s₀ s₁ mg mb fa o pm cd doc a vs ns G Y ho (fd_plain hd) hcd hmg hobj hints hlen hg) fun r s' hq => ?_)
  obtain ⟨rfl, h2, h3, h4⟩ := hq
  exact ⟨.inl ⟨.bool true, .bool true, [], rfl, fun _ => rfl, .bool true, post_true l _, fun _ => ⟨List.Pairwise.nil, fun _ hm => (nomatch hm)⟩⟩, h2, h3, h4⟩

/-! ### rules over ANY heap (no ledger) from facts about the written part K: the library's own take a ledger (News) for what they write -/
section
variable {prog : Program} {w : World} {A : Around} {E : Value → Shared → Prop} {s : Shared} {K : Frag}

end
end Att

namespace L2
open PySem PySem.Spec PyProof.Rows

theorem vals_ints : ∀ {vs : List Value} {ns : List Int}, IntsAre vs ns → Vals (ns.map V.int) vs
  | _, _, .nil => .nil
  | _, _, .cons n t h => .cons ⟨t, rfl⟩ (vals_ints h)

/-- nothing is tracked but the script, known to the object (or it is an object of the module) -/
def Only (H : Hp) : Prop := ∀ b, H b = none ∨ ∃ o xs, H b = some (.frz o (.lst xs))

/-- THE HEAD: the law's promise, at the heap behind the top. F, the promise of the law's def, may use that base is part of the heap (so K.In base, base.Ns mainGlobals mg stand in Mod) -/
theorem law_call {P : Program} {w : World} {K : PySem.W.Frag} {mg mb : Str → Option Value} {CX : CXT} {k : Nat} {fa a : Addr} {fd : FuncData} {x : Str} {sp : Sp} {s₁ : Shared} {vs : List Value} {ns : List Int}
    (KX : K.In s₁.heap) (hns : s₁.heap.Ns mainGlobals mg) (hb : s₁.heap.Ns builtinsNs mb) (hbb : ∀ x : Str, x ≠ "__name__" → mb x = bootBuiltins x) (hlim : s₁.heap.NoLimit) (hg : s₁.gens = #[])
    (ha : s₁.heap.get? a = some { cls := .type "list", data := .seq vs.toArray }) (hi : IntsAre vs ns) (hl : ns.length ≤ sizeLine) (hr : Room k callerA)
    (F : ∀ base : Heap, K.In base → base.Ns mainGlobals mg → FnOk P w K mg base CX k fa fd [x] sp) (hbind : ∀ (s : Shared) (u : Value), BindsTo s fd ⟨[u], []⟩ [(x, u)])
    (hsp : ∀ H : Hp, Only H → SqL K H a (ns.map V.int) → sp [.ref a] H (fun v _ => v = .bl true) fun _ _ _ => False)
    (hCX : ∀ H e s', CX [] H s₁ (fun _ _ _ => False) e s' → False) :
    codeAny (model P w) callerA (.call (.ref fa) ⟨[.ref a], []⟩) (fun r s' => r = .ok (.ret (.bool true)) ∧ OldK s₁.heap s'.heap ∧ s'.os = s₁.os ∧ AllBare s'.gens) s₁ := by
  have rv := vals_ints hi
  have lenV := hi.length
  -- from an abstract heap in which nothing but the script may be tracked
  have core : ∀ H : Hp, Only H → SqL K H a (ns.map V.int) → HOk P w H s₁.heap → (∀ b, H b ≠ none → b = a) → (H a ≠ none → K.lookup a = none) →
      codeAny (model P w) callerA (.call (.ref fa) ⟨[.ref a], []⟩) (fun r s' => r = .ok (.ret (.bool true)) ∧ OldK s₁.heap s'.heap ∧ s'.os = s₁.os ∧ AllBare s'.gens) s₁ := by
    intro H hO hS hok hA hK
    have base_of : ∀ {b : Addr} {o : Obj}, s₁.heap.get? b = some o → H b = none → (hidT s₁.heap H).get? b = some o := fun e n => hidT_get e n
    have noA : ∀ {b : Addr} {o : Obj} {es : Array DictEntry} {ep : Nat}, s₁.heap.get? b = some o → o.data = .dict es ep → H b = none := fun {b o es ep} e d => by
      cases q : H b with
      | none => rfl
      | some u =>
        have e' : b = a := hA b (by rw [q]; simp)
        subst e'
        rw [ha] at e; cases e
        have d' : Data.seq vs.toArray _ = Data.dict es ep := d
        cases d'
    have nsK : ∀ {b : Addr} {m : Str → Option Value}, s₁.heap.Ns b m → (hidT s₁.heap H).Ns b m := fun {b m} ⟨o, es, ep, e, d, r⟩ => ⟨o, es, ep, base_of e (noA e d), d, r⟩
    have hKb : K.In (hidT s₁.heap H) := fun b o e => base_of (KX b o e) (by
      cases q : H b with
      | none => rfl
      | some u =>
        have e' : b = a := hA b (by rw [q]; simp)
        subst e'
        rw [hK (by rw [q]; simp)] at e; cases e)
    have hM : Mod K mg (hidT s₁.heap H) := ⟨hKb, nsK hns, ⟨mb, nsK hb, hbb⟩, let ⟨mc, h1, h2⟩ := hlim; ⟨mc, nsK h1, h2⟩⟩
    have e0 : Env0 P w K mg (hidT s₁.heap H) callerA [] s₁ H := ⟨rfl, hM, fun b o e => of_hidT e, Nat.le_of_eq (hidT_size _ _), trivial, fun b hb => absurd (show b ∈ ([] : List Addr) from hb) (by simp), hok, .of_eq hg⟩
    refine codeAny_mono ((F _ hKb (nsK hns)).run callerA [] s₁ H ⟨[.ref a], []⟩ [.ref a] [.ref a] _ _ hr e0 (hbind s₁ (.ref a)) (.cons rfl .nil) (hsp H hO hS)) fun r s' h => ?_
    cases r with
    | error e => exact (hCX H e s' h).elim
    | ok fl =>
      cases fl with
      | next => exact False.elim h
      | brk => exact False.elim h
      | cont => exact False.elim h
      | ret u =>
        obtain ⟨v, H', os, bare, un, hok', r', q⟩ := h
        have q' : v = .bl true := q
        subst q'
        obtain rfl : u = Value.bool true := r'
        refine ⟨rfl, OldK.of_keep fun b o e => ?_, os, bare⟩
        cases q : H b with
        | none => exact un.keep b o e q (by intro z; exact absurd (show b ∈ ([] : List Addr) from z) (by simp)) (by simp)
        | some u =>
          rcases hO b with z | ⟨ob, xs, z⟩
          · rw [q] at z; cases z
          · have z2 := un.frzs b ob _ z
            obtain ⟨e1, _⟩ := hok b _ z
            obtain ⟨e2, _⟩ := hok' b _ z2
            rw [e] at e1; cases e1
            exact e2
  cases hk : K.lookup a with
  | some o =>
    -- the script is one of the module's own objects
    have e := KX a o hk
    rw [ha] at e
    cases e
    refine core (fun _ => none) (fun _ => .inl rfl) (.inr ⟨_, vs.toArray, _, hk, rfl, rfl, rfl, by rw [List.size_toArray, lenV]; exact hl, by simpa using rv⟩) (fun b u z => by have z' : (none : Option HO) = some u := z; cases z') (fun b z => absurd rfl z) fun z => absurd rfl z
  | none =>
    refine core (fun b => if b = a then some (.frz { cls := .type "list", data := .seq vs.toArray } (.lst (ns.map V.int))) else none) (fun b => ?_) (.inl (.inr ⟨{ cls := .type "list", data := .seq vs.toArray }, if_pos rfl⟩)) (fun b u z => ?_) (fun b z => ?_) fun _ => hk
    · by_cases hb : b = a
      · exact .inr ⟨_, _, if_pos hb⟩
      · exact .inl (if_neg hb)
    · by_cases hb : b = a
      · have z' := (if_pos hb).symm.trans z
        cases z'
        subst hb
        exact ⟨ha, by rw [List.length_map]; exact hl, vs, _, rv, ha⟩
      · have z' := (if_neg hb).symm.trans z
        cases z'
    · by_cases hb : b = a
      · exact hb
      · exact absurd (if_neg hb) z
end L2

namespace L2
open PySem PySem.Spec PyProof.Rows

/-- the goal that k_head leaves (case hc), from the law's promise. F gives the function object fd (K's own) once, then the promise over every base -/
theorem walk_of {l : PySem.W.OpenLaw} {n k : Nat} {q : Program} {loose : List Str} {XP : (Str → Option Value) → Heap → Prop} {YP : World → Heap → Prop} {d : DefRec} {K : Params → PySem.W.Frag} {CX : World → CXT} {sp : World → Sp} {x : Str}
    (hn : l.most = some n) (hn2 : n ≤ sizeLine) (hdf : d.params.defaults = []) (hr : Room k callerA)
    (hY : ∀ (w : World) (h : Heap), YP w h → (K w.params).In h)
    (F : ∀ (w : World) (mg : Str → Option Value) (fa : Addr) (h : Heap), (K w.params).In h → h.Ns mainGlobals mg → mg d.name = some (.ref fa) →
      ∃ fd : FuncData, (∀ (s : Shared) (u : Value), BindsTo s fd ⟨[u], []⟩ [(x, u)]) ∧
        ∀ base : Heap, (K w.params).In base → base.Ns mainGlobals mg → FnOk l.prog w (K w.params) mg base (CX w) k fa fd [x] (sp w))
    (hsp : ∀ (w : World) (H : Hp) (a : Addr) (ns : List Int), ns.length ≤ n → Only H → SqL (K w.params) H a (ns.map V.int) → sp w [.ref a] H (fun v _ => v = .bl true) fun _ _ _ => False)
    (hCX : ∀ (w : World) (H : Hp) (s : Shared) (e : Value) (s' : Shared), CX w [] H s (fun _ _ _ => False) e s' → False) :
    PySem.W.WalkO q loose XP YP l.row.toRowW d [] (fun f vs => PySem.call f vs) := by
  refine Att.attach_call hn hdf fun w s₀ s₁ mg mb fa o pm cd doc a vs ns G Y ho hd hcd hmg hobj hints hlen hg => ?_
  have KX := hY w _ Y
  obtain ⟨fd, hb, hF⟩ := F w mg fa _ KX G.T.g hmg
  exact law_call KX G.T.g G.T.b G.T.builtins G.T.nolimit hg hobj hints (Nat.le_trans hlen hn2) hr hF hb (fun H hO hS => hsp w H a ns hlen hO hS) fun H e s' => hCX w H s₁ e s'
end L2

/- THE LAST THEOREM (shape; LID, My.* are yours):
   My.Adr: a structure of the addresses that your layer names (classes, functions); My.Txt K t: a structure (Prop) of the equations over K;
   My.txt_mk : {K} {implicit addresses ..} (e1 : nsIn K mainGlobals "law" = some (some (.ref f))) (e2 : K.lookup f = some ⟨oc, od, .func (fnOf "law" "law" params body scope dV kV doc pm an cdv ct), sl⟩) (e3 : codeIn K cdv "law" = true) .. : ∃ t, My.Txt K t

set_option maxRecDepth 100000 in
set_option maxHeartbeats 0 in
theorem PySem.Challenge.cw_LID_holds : PySem.Challenge.rw_LID.Holds := by
  w_on; o_law; k_head; (case hw => w_witness2)
  k_fill
  refine L2.walk_of (l := PySem.Challenge.rw_LID) (n := 63) (k := 40) (x := "script") (CX := fun w => ..) (sp := fun _ => My.sp_law) rfl (by decide) rfl ⟨rfl, by decide, by decide⟩ (fun w h Y => PySem.W.kIn_of Y) ?F ?S ?C
  case F =>
    intro w mg fa h KX G hmg
    have T : ∃ t, My.Txt (L2.KOf KX) t := by
      dsimp only [L2.KOf]                          -- K must stand as «<heap const> w.params» for k_is
      refine' My.txt_mk ?e1 ?e2 ?e3 ..
      (case e1 => PySem.W.k_is)                    -- in the order: a name -> its address -> its object -> its parts
      (case e2 => PySem.W.k_is)
      ..
    obtain ⟨t, T⟩ := T
    have e0 := hmg.symm.trans (PySem.W.mg_of KX G T.law)
    cases e0                                       -- fa is the law's own address
    exact ⟨_, fun s u => .of_eq rfl, fun base kb nb => My.law_fn T kb nb⟩     -- if «.of_eq rfl» comes too early: refine' ⟨_, ?b, fun base kb nb => My.law_fn T kb nb⟩; exact fun s u => .of_eq rfl
  case S => exact fun w H a ns hl hO hS => ..
  case C => exact ..
(the tactic k_is has no namespace: write k_is) -/

/-! SHORT WORDS over the layer: a def of the text, its body, what a loop and a test want. -/
namespace L2
open PySem PySem.Spec PyProof.Rows

def defArgs (s : Stmt) : Arguments := match s with
  | .FunctionDef _ a _ _ _ _ _ _ _ _ => a
  | _ => { posonlyargs := [], args := [], vararg := none, kwonlyargs := [], kw_defaults := [], kwarg := none, defaults := [] }
def defBody (s : Stmt) : List Stmt := match s with
  | .FunctionDef _ _ b _ _ _ _ _ _ _ => b
  | _ => []
def defScope (s : Stmt) : Scope := match s with
  | .FunctionDef _ _ _ _ _ _ sc _ _ _ => sc
  | _ => { kind := .function, names := [], isGenerator := false, isCoroutine := false }

abbrev E0 : XK := fun _ _ _ => False
/-! ### a def (or method) of the text as it stands behind the top -/
structure Fun (K : PySem.W.Frag) (x qual : Str) (st : Stmt) (f : Addr) (fd : FuncData) : Prop where
  ex : ∃ (oc : Value) (od : Option Addr) (kV doc pm : Value) (an : Option Addr) (cdv ct : Value) (osl : Array (Option Value)),
    fd = PySem.W.fnOf x qual (defArgs st) (defBody st) (defScope st) .none kV doc pm an cdv ct ∧ K.lookup f = some ⟨oc, od, .func fd, osl⟩ ∧ PySem.W.codeIn K cdv qual = true
  kp : PySem.W.keepIn K (.ref f) = true
section
variable {P : Program} {w : World} {K : PySem.W.Frag} {mg : Str → Option Value} {base : Heap}
/-- how its arguments bind (no defaults): h is «fun _ _ _ _ _ _ us hl => match us, hl with | [_, _], _ => rfl», one _ a parameter -/
theorem Fun.binds {x qual : Str} {st : Stmt} {f : Addr} {fd : FuncData} {ps : List Str} (F : Fun K x qual st f fd)
    (h : ∀ (kV doc pm : Value) (an : Option Addr) (cdv ct : Value) (us : List Value), us.length = ps.length → bindArgs (PySem.W.fnOf x qual (defArgs st) (defBody st) (defScope st) .none kV doc pm an cdv ct) ⟨us, []⟩ = pure (ps.zip us)) : Binds K fd ps [] := by
  obtain ⟨oc, od, kV, doc, pm, an, cdv, ct, osl, rfl, lk, hcd⟩ := F.ex
  exact .all (h kV doc pm an cdv ct)
theorem fun_mk {x qual : Str} {st : Stmt} {f : Addr} {oc : Value} {od an : Option Addr} {osl : Array (Option Value)} {kV doc pm cdv ct : Value} (l : K.lookup f = some ⟨oc, od, .func (PySem.W.fnOf x qual (defArgs st) (defBody st) (defScope st) .none kV doc pm an cdv ct), osl⟩)
    (c : PySem.W.codeIn K cdv qual = true) (k : PySem.W.keepIn K (.ref f) = true) : Fun K x qual st f (PySem.W.fnOf x qual (defArgs st) (defBody st) (defScope st) .none kV doc pm an cdv ct) := ⟨⟨oc, od, kV, doc, pm, an, cdv, ct, osl, rfl, l, c⟩, k⟩
end
/-! ### expressions in short: the name that stands in the i-th slot -/
section
variable {X : Cx}
end

/-! ### tests -/
theorem iteF {A B : Prop} (h : B) : if false = true then A else B := by
  rw [if_neg Bool.false_ne_true]
  exact h
theorem iteT {A B : Prop} (h : A) : if true = true then A else B := by
  rw [if_pos rfl]
  exact h
theorem iteNS {c A B : Prop} [Decidable c] (hc : c) (h : B) : if (!decide c) = true then A else B := by
  rw [decide_eq_true hc]
  exact iteF h

end L2

namespace L2
open PySem PySem.Spec PyProof.Rows

/-! ### lists of pairs as tables -/
section
variable {κ : Type} [DecidableEq κ]
theorem RelO.getD {o : Option V} {u : Option Value} {d : V} {d' : Value} (r : RelO o u) (rd : RelV d d') : RelV (o.getD d) (u.getD d') := by
  cases o with
  | none => cases u with
    | none => exact rd
    | some _ => exact (show False from r).elim
  | some _ => cases u with
    | none => exact (show False from r).elim
    | some _ => exact r

theorem KV.length {kvs : List (κ × V)} {vs : List (κ × Value)} (r : KV kvs vs) : kvs.length = vs.length := Paired.length r
end


section
variable {P : Program} {w : World} {H : Hp} {h : Heap} {a : Addr}
end

section
variable {X : Cx} {pins : List (Addr × Obj)} {σ : St} {H : Hp} {s : Shared} {a : Addr} {y v : V} {u r : Value} {o : Option V} {A : Around} {E : Value → Shared → Prop}

end

section
variable {X : Cx} {pins : List (Addr × Obj)} {σ : St} {H : Hp} {s : Shared} {a : Addr} {kvs : List (Key × V)} {k : Key} {u : Value} {A : Around} {E : Value → Shared → Prop}
end


section
variable {X : Cx} {o i e value : Expr} {pos pos' tpos : Pos} {td ty tv : TE}
end


section
variable {X : Cx} {pos : Pos}
end

section
variable {X : Cx} {pins : List (Addr × Obj)} {σ : St} {H : Hp} {s : Shared} {a : Addr} {y d : V} {u r : Value} {o : Option V} {A : Around} {E : Value → Shared → Prop}
end

section
variable {X : Cx} {o e f : Expr} {apos cpos : Pos} {td ty tx : TE}
end

/-! ### dict(d): a copy -/
section
variable {X : Cx} {pins : List (Addr × Obj)} {σ : St} {H : Hp} {s : Shared} {a : Addr} {kvs : List (Key × V)} {A : Around} {E : Value → Shared → Prop}
end


section
variable {X : Cx} {pins : List (Addr × Obj)} {σ : St} {H : Hp} {s : Shared} {a : Addr} {y : V} {u : Value} {A : Around} {E : Value → Shared → Prop}
end
end L2

namespace L2
open PySem PySem.Spec PyProof.Rows
section
variable {X : Cx}
end
/-! ### a dict's pairs: keys that differ -/
section
variable {κ : Type} [DecidableEq κ]
end
end L2

namespace EE
open PySem PySem.Spec PyProof.Rows L2

structure Has (K : PySem.W.Frag) (mg : Str → Option Value) (x : Str) (st : Stmt) (ps : List Str) : Prop where
  ex : ∃ f fd, Fun K x x st f fd ∧ Binds K fd ps [] ∧ mg x = some (.ref f)
section
variable {P : Program} {w : World} {K : PySem.W.Frag} {mg : Str → Option Value} {base : Heap}
theorem has_mk {h : Heap} {x : Str} {st : Stmt} {ps : List Str} {f : Addr} {oc : Value} {od an : Option Addr} {osl : Array (Option Value)} {kV doc pm cdv ct : Value} (X : K.In h) (G : h.Ns mainGlobals mg)
    (a : PySem.W.nsIn K mainGlobals x = some (some (.ref f))) (l : K.lookup f = some ⟨oc, od, .func (PySem.W.fnOf x x (defArgs st) (defBody st) (defScope st) .none kV doc pm an cdv ct), osl⟩)
    (c : PySem.W.codeIn K cdv x = true) (k : PySem.W.keepIn K (.ref f) = true)
    (hb : ∀ (kV doc pm : Value) (an : Option Addr) (cdv ct : Value) (us : List Value), us.length = ps.length → bindArgs (PySem.W.fnOf x x (defArgs st) (defBody st) (defScope st) .none kV doc pm an cdv ct) ⟨us, []⟩ = pure (ps.zip us)) : Has K mg x st ps := by
  have F := fun_mk (st := st) l c k
  exact ⟨f, _, F, F.binds hb, PySem.W.mg_of X G a⟩
end
section
variable {X : Cx} {k : Nat} {ps : List Str} {sp : Sp} {x : Str} {p pos : Pos} {e : Expr} {es : List Expr} {t : TA}
theorem kit_same (K : PySem.W.Frag) (n : String) : PySem.W.kitOne K (.type n) (.type n) = some true := by
  unfold PySem.W.kitOne
  rw [if_pos (by simp)]
/-- xs.pop() of a list that ends in y -/
def rPopS : V → List V → Hp → VK → Prop := fun x vs H Q => ∃ l ys y, x = .ref l ∧ vs = [] ∧ H l = some (.lst (ys ++ [y])) ∧ Q y (upd H l (.lst ys))
theorem mt_popS : MtM X "list.pop" rPopS := by
  intro pins s σ H x vs v us Q I rx rv h
  obtain ⟨l, ys, y, rfl, rfl, hH, q⟩ := h
  refine mt_pop pins s σ H _ _ v us Q I rx rv ⟨l, ys ++ [y], y, rfl, rfl, hH, by simp, ?_⟩
  rw [List.dropLast_concat]
  exact q
end

/-! ### heaps -/
/-- the tuples stay -/
def Tk (H H' : Hp) : Prop := ∀ b xs, H b = some (.tup xs) → H' b = some (.tup xs)
theorem Tk.lst {H : Hp} {p : Addr} {o : HO} {ys : List V} (h : H p = some (.lst ys)) : Tk H (upd H p o) := fun b xs e => by
  rw [upd_ne (ne_of e h (by intro z; cases z))]; exact e
theorem iteN {c A B : Prop} [Decidable c] (hc : ¬ c) (h : A) : if (!decide c) = true then A else B := by
  rw [decide_eq_false hc]
  exact iteT h
theorem iteD {c A B : Prop} [Decidable c] (hc : c) (h : A) : if decide c = true then A else B := by
  rw [decide_eq_true hc]
  exact iteT h
theorem iteDN {c A B : Prop} [Decidable c] (hc : ¬ c) (h : B) : if decide c = true then A else B := by
  rw [decide_eq_false hc]
  exact iteF h
theorem iteD2 {c A B : Prop} [Decidable c] (h1 : c → A) (h2 : ¬ c → B) : if decide c = true then A else B := by
  by_cases h : c
  · exact iteD h (h1 h)
  · exact iteDN h (h2 h)
theorem snoc_cases {α : Type} (xs : List α) : xs = [] ∨ ∃ ys y, xs = ys ++ [y] := by
  cases xs with
  | nil => exact .inl rfl
  | cons a r => exact .inr ⟨(a :: r).dropLast, (a :: r).getLast (by simp), (List.dropLast_concat_getLast (by simp)).symm⟩
/-! ### trees -/
inductive Tre where
  | bud
  | pair (l r : Tre)
def Tre.size : Tre → Nat
  | .bud => 0
  | .pair l r => l.size + r.size + 1
end EE

namespace EE
open PySem PySem.Spec PyProof.Rows L2
/-! ### methods of texts -/
section
variable {X : Cx}
end
end EE

namespace EE
open PySem PySem.Spec PyProof.Rows L2 SeqAt
/-! ### data that hold data, and Python's == of them -/
inductive Dt where
  | non | bl (b : Bool) | int (i : Int) | str (x : Str) | tup (xs : List Dt) | lst (xs : List Dt)
mutual
def eqD : Dt → Dt → Bool
  | .non, .non => true
  | .bl a, .bl b => a == b
  | .bl a, .int b => (if a then 1 else 0) == b
  | .int a, .bl b => a == (if b then 1 else 0)
  | .int a, .int b => a == b
  | .str a, .str b => a == b
  | .tup xs, .tup ys => eqDs xs ys
  | .lst xs, .lst ys => eqDs xs ys
  | _, _ => false
def eqDs : List Dt → List Dt → Bool
  | [], [] => true
  | x :: xs, y :: ys => eqD x y && eqDs xs ys
  | _, _ => false
end
mutual
def deepD : Dt → Nat
  | .tup xs => deepDs xs + 1
  | .lst xs => deepDs xs + 1
  | _ => 0
def deepDs : List Dt → Nat
  | [] => 0
  | x :: xs => max (deepD x) (deepDs xs)
end
mutual
theorem eqD_refl : ∀ d : Dt, eqD d d = true
  | .non => rfl
  | .bl b => by simp [eqD]
  | .int i => by simp [eqD]
  | .str x => by simp [eqD]
  | .tup xs => by simp only [eqD]; exact eqDs_refl xs
  | .lst xs => by simp only [eqD]; exact eqDs_refl xs
theorem eqDs_refl : ∀ ds : List Dt, eqDs ds ds = true
  | [] => rfl
  | d :: ds => by simp only [eqDs, eqD_refl d, eqDs_refl ds, Bool.and_self]
end
mutual
/-- no bool in it: there == is equality -/
def plainD : Dt → Bool
  | .bl _ => false
  | .tup xs => plainDs xs
  | .lst xs => plainDs xs
  | _ => true
def plainDs : List Dt → Bool
  | [] => true
  | x :: xs => plainD x && plainDs xs
end
mutual
theorem eqD_eq : ∀ {d e : Dt}, plainD d = true → plainD e = true → eqD d e = true → d = e
  | .non, .non, _, _, _ => rfl
  | .int a, .int b, _, _, h => by simp only [eqD, beq_iff_eq] at h; rw [h]
  | .str a, .str b, _, _, h => by simp only [eqD, beq_iff_eq] at h; rw [h]
  | .tup xs, .tup ys, p, q, h => by
    simp only [eqD] at h
    simp only [plainD] at p q
    rw [eqDs_eq p q h]
  | .lst xs, .lst ys, p, q, h => by
    simp only [eqD] at h
    simp only [plainD] at p q
    rw [eqDs_eq p q h]
  | .bl _, _, p, _, _ => by simp [plainD] at p
  | _, .bl _, _, q, _ => by simp [plainD] at q
  | .non, .int _, _, _, h => by simp [eqD] at h
  | .non, .str _, _, _, h => by simp [eqD] at h
  | .non, .tup _, _, _, h => by simp [eqD] at h
  | .non, .lst _, _, _, h => by simp [eqD] at h
  | .int _, .non, _, _, h => by simp [eqD] at h
  | .int _, .str _, _, _, h => by simp [eqD] at h
  | .int _, .tup _, _, _, h => by simp [eqD] at h
  | .int _, .lst _, _, _, h => by simp [eqD] at h
  | .str _, .non, _, _, h => by simp [eqD] at h
  | .str _, .int _, _, _, h => by simp [eqD] at h
  | .str _, .tup _, _, _, h => by simp [eqD] at h
  | .str _, .lst _, _, _, h => by simp [eqD] at h
  | .tup _, .non, _, _, h => by simp [eqD] at h
  | .tup _, .int _, _, _, h => by simp [eqD] at h
  | .tup _, .str _, _, _, h => by simp [eqD] at h
  | .tup _, .lst _, _, _, h => by simp [eqD] at h
  | .lst _, .non, _, _, h => by simp [eqD] at h
  | .lst _, .int _, _, _, h => by simp [eqD] at h
  | .lst _, .str _, _, _, h => by simp [eqD] at h
  | .lst _, .tup _, _, _, h => by simp [eqD] at h
theorem eqDs_eq : ∀ {ds es : List Dt}, plainDs ds = true → plainDs es = true → eqDs ds es = true → ds = es
  | [], [], _, _, _ => rfl
  | d :: ds, e :: es, p, q, h => by
    simp only [plainDs, Bool.and_eq_true] at p q
    simp only [eqDs, Bool.and_eq_true] at h
    rw [eqD_eq p.1 q.1 h.1, eqDs_eq p.2 q.2 h.2]
  | [], _ :: _, _, _, h => by simp [eqDs] at h
  | _ :: _, [], _, _, h => by simp [eqDs] at h
end
mutual
/-- the datum stands at v -/
inductive DR (K : PySem.W.Frag) (H : Hp) : Dt → V → Prop where
  | non : DR K H .non .non
  | bl (b : Bool) : DR K H (.bl b) (.bl b)
  | int (i : Int) : DR K H (.int i) (.int i)
  | str (x : Str) : DR K H (.str x) (.str x)
  | tup {a : Addr} {xs : List V} {ds : List Dt} : SqT K H a xs → DRs K H ds xs → DR K H (.tup ds) (.ref a)
  | lst {a : Addr} {xs : List V} {ds : List Dt} : SqL K H a xs → DRs K H ds xs → DR K H (.lst ds) (.ref a)
inductive DRs (K : PySem.W.Frag) (H : Hp) : List Dt → List V → Prop where
  | nil : DRs K H [] []
  | cons {d : Dt} {v : V} {ds : List Dt} {vs : List V} : DR K H d v → DRs K H ds vs → DRs K H (d :: ds) (v :: vs)
end
section
variable {X : Cx} {pins : List (Addr × Obj)} {σ : L2.St} {H : Hp} {s : Shared}
theorem list_not_tuple {a : Addr} {xs ys : List V} (I : Inv X pins σ H s) (h : SqL X.K H a xs) (h' : SqT X.K H a ys) : False := by
  obtain ⟨its, _, p, _⟩ := I.list h
  obtain ⟨its', _, q, _⟩ := I.tuple h'
  exact ne_of_list_tuple p.isList (show s.heap.IsTuple a its'.toArray from q) rfl
mutual
theorem DR.inj (I : Inv X pins σ H s) : ∀ {d e : Dt} {v : V}, DR X.K H d v → DR X.K H e v → d = e
  | _, _, _, .non, h => by cases h; rfl
  | _, _, _, .bl _, h => by cases h; rfl
  | _, _, _, .int _, h => by cases h; rfl
  | _, _, _, .str _, h => by cases h; rfl
  | _, _, _, .tup p q, h => by
    cases h with
    | tup p' q' =>
      have e := I.tuple_inj p p'
      subst e
      rw [DRs.inj I q q']
    | lst p' q' => exact (list_not_tuple I p' p).elim
  | _, _, _, .lst p q, h => by
    cases h with
    | lst p' q' =>
      have e := I.list_inj p p'
      subst e
      rw [DRs.inj I q q']
    | tup p' q' => exact (list_not_tuple I p p').elim
theorem DRs.inj (I : Inv X pins σ H s) : ∀ {ds es : List Dt} {vs : List V}, DRs X.K H ds vs → DRs X.K H es vs → ds = es
  | _, _, _, .nil, h => by cases h; rfl
  | _, _, _, .cons p q, h => by
    cases h with
    | cons p' q' => rw [DR.inj I p p', DRs.inj I q q']
end
theorem DRs.len : ∀ {ds : List Dt} {vs : List V}, DRs X.K H ds vs → ds.length = vs.length
  | _, _, .nil => rfl
  | _, _, .cons _ q => by simp [DRs.len q]
theorem DRs.at : ∀ {ds : List Dt} {vs : List V} {i : Nat} {v : V}, DRs X.K H ds vs → vs[i]? = some v → ∃ d, ds[i]? = some d ∧ DR X.K H d v
  | _, _, _, _, .nil, e => by simp at e
  | _, _, 0, _, .cons r _, e => by simp at e; subst e; exact ⟨_, rfl, r⟩
  | _, _, i + 1, v, .cons _ q, e => by
    obtain ⟨d, h1, h2⟩ := DRs.at (i := i) (v := v) q (by simpa using e)
    exact ⟨d, by simpa using h1, h2⟩
/-- item by item -/
def eqAtI (ds es : List Dt) (i : Nat) : Bool := match ds[i]?, es[i]? with
  | some d, some e => eqD d e
  | _, _ => true
theorem all_shift (ds es : List Dt) (d e : Dt) (n : Nat) : (List.range (n + 1)).all (eqAtI (d :: ds) (e :: es)) = (eqD d e && (List.range n).all (eqAtI ds es)) := by
  rw [List.range_succ_eq_map, List.all_cons, List.all_map]
  rfl
theorem eqDs_all : ∀ ds es : List Dt, eqDs ds es = ((List.range (min ds.length es.length)).all (eqAtI ds es) && ds.length == es.length)
  | [], [] => rfl
  | [], _ :: _ => by simp [eqDs]
  | _ :: _, [] => by simp [eqDs]
  | d :: ds, e :: es => by
    have ih := eqDs_all ds es
    simp only [eqDs, List.length_cons]
    rw [Nat.succ_min_succ, all_shift, ih, Bool.and_assoc]
    congr 2
    rw [Bool.eq_iff_iff]
    simp
theorem deepDs_at : ∀ {ds : List Dt} {i : Nat} {d : Dt}, ds[i]? = some d → deepD d ≤ deepDs ds
  | [], _, _, e => by simp at e
  | x :: xs, 0, _, e => by simp at e; subst e; simp only [deepDs]; omega
  | x :: xs, i + 1, d, e => by
    have := deepDs_at (ds := xs) (i := i) (d := d) (by simpa using e)
    simp only [deepDs]
    omega
theorem vals_at {xs : List V} {us : List Value} {j : Nat} (r : Vals xs us) (h : j < us.toArray.size) : ∃ x, xs[j]? = some x ∧ RelV x us.toArray[j] := by
  have hl := r.length
  have hj : j < xs.length := by simpa [hl] using h
  have e : xs[j]? = some xs[j] := List.getElem?_eq_getElem hj
  obtain ⟨u, hu, ru⟩ := r.get e
  refine ⟨_, e, ?_⟩
  have : us.toArray[j] = u := by
    have z : us[j]? = some us[j] := List.getElem?_eq_getElem (by simpa using h)
    rw [z] at hu
    simpa using Option.some.inj hu
  rw [this]
  exact ru
theorem units_in1 {A : Around} : A.in1.units = A.units + 1 := rfl
/-- the comparison of two data, and of items that hold them -/
theorem eq_both (I : Inv X pins σ H s) : ∀ (n : Nat) (A : Around) (d e : Dt) (v v' : V) (u u' : Value), deepD d ≤ n → A.units + n < cLine → DR X.K H d v → DR X.K H e v' → RelV v u → RelV v' u' →
    RcAt A s u u' (eqD d e) ∧ EqAt A s u u' (eqD d e) := by
  intro n
  induction n with
  | zero =>
    intro A d e v v' u u' hn hu hd he r r'
    have hu' : A.units < cLine := by omega
    cases hd with
    | non =>
      cases r
      cases he with
      | non => cases r'; exact ⟨RcAt.none_none, EqAt.same _⟩
      | bl b => cases r'; exact ⟨RcAt.none_bool b, EqAt.none_bool b⟩
      | int b => obtain ⟨t, rfl⟩ := r'; exact ⟨RcAt.none_int b t, EqAt.none_int b t⟩
      | str b => obtain ⟨t, rfl⟩ := r'; exact ⟨RcAt.none_str b t, EqAt.none_str b t⟩
      | tup p q =>
        cases r'
        obtain ⟨its, _, ht, _⟩ := I.tuple p
        exact ⟨RcAt.none_tuple ht hu', EqAt.none_tuple ht hu'⟩
      | lst p q =>
        cases r'
        obtain ⟨its, _, ht, _⟩ := I.list p
        exact ⟨RcAt.none_list ht.isList hu', EqAt.none_list ht.isList hu'⟩
    | bl a =>
      cases r
      cases he with
      | non => cases r'; exact ⟨RcAt.bool_none a, EqAt.bool_none a⟩
      | bl b => cases r'; exact ⟨RcAt.bool_bool a b, EqAt.bool_bool a b⟩
      | int b => obtain ⟨t, rfl⟩ := r'; exact ⟨RcAt.bool_int a b t, EqAt.bool_int a b t⟩
      | str b => obtain ⟨t, rfl⟩ := r'; exact ⟨RcAt.bool_str a b t, EqAt.bool_str a b t⟩
      | tup p q =>
        cases r'
        obtain ⟨its, _, ht, _⟩ := I.tuple p
        exact ⟨RcAt.bool_tuple a ht hu', EqAt.bool_tuple a ht hu'⟩
      | lst p q =>
        cases r'
        obtain ⟨its, _, ht, _⟩ := I.list p
        exact ⟨RcAt.bool_list a ht.isList hu', EqAt.bool_list a ht.isList hu'⟩
    | int a =>
      obtain ⟨t0, rfl⟩ := r
      cases he with
      | non => cases r'; exact ⟨RcAt.int_none a t0, EqAt.int_none a t0⟩
      | bl b => cases r'; exact ⟨RcAt.int_bool a t0 b, EqAt.int_bool a t0 b⟩
      | int b => obtain ⟨t, rfl⟩ := r'; exact ⟨RcAt.int_int a t0 b t, EqAt.int_int a t0 b t⟩
      | str b => obtain ⟨t, rfl⟩ := r'; exact ⟨RcAt.int_str a t0 b t, EqAt.int_str a t0 b t⟩
      | tup p q =>
        cases r'
        obtain ⟨its, _, ht, _⟩ := I.tuple p
        exact ⟨RcAt.int_tuple a t0 ht hu', EqAt.int_tuple a t0 ht hu'⟩
      | lst p q =>
        cases r'
        obtain ⟨its, _, ht, _⟩ := I.list p
        exact ⟨RcAt.int_list a t0 ht.isList hu', EqAt.int_list a t0 ht.isList hu'⟩
    | str a =>
      obtain ⟨t0, rfl⟩ := r
      cases he with
      | non => cases r'; exact ⟨RcAt.str_none a t0, EqAt.str_none a t0⟩
      | bl b => cases r'; exact ⟨RcAt.str_bool a t0 b, EqAt.str_bool a t0 b⟩
      | int b => obtain ⟨t, rfl⟩ := r'; exact ⟨RcAt.str_int a t0 b t, EqAt.str_int a t0 b t⟩
      | str b => obtain ⟨t, rfl⟩ := r'; exact ⟨RcAt.str_str a t0 b t, EqAt.str_str a t0 b t⟩
      | tup p q =>
        cases r'
        obtain ⟨its, _, ht, _⟩ := I.tuple p
        exact ⟨RcAt.str_tuple a t0 ht hu', EqAt.str_tuple a t0 ht hu'⟩
      | lst p q =>
        cases r'
        obtain ⟨its, _, ht, _⟩ := I.list p
        exact ⟨RcAt.str_list a t0 ht.isList hu', EqAt.str_list a t0 ht.isList hu'⟩
    | tup p q => simp [deepD] at hn
    | lst p q => simp [deepD] at hn
  | succ n ih =>
    intro A d e v v' u u' hn hu hd he r r'
    by_cases h0 : deepD d ≤ n
    · exact ih A d e v v' u u' h0 (by omega) hd he r r'
    have hu' : A.units < cLine := by omega
    have items : ∀ {xs ys : List V} {ds es : List Dt} {its its2 : List Value}, deepDs ds ≤ n → DRs X.K H ds xs → DRs X.K H es ys → Vals xs its → Vals ys its2 →
        ∀ j (h1 : j < its.toArray.size) (h2 : j < its2.toArray.size), EqAt A.in1 s its.toArray[j] its2.toArray[j] (eqAtI ds es j) := fun {xs ys ds es its its2} hdd q q' rv rv' j h1 h2 => by
      obtain ⟨x, hx, rx⟩ := vals_at rv h1
      obtain ⟨y, hy, ry⟩ := vals_at rv' h2
      obtain ⟨dx, edx, rdx⟩ := q.at hx
      obtain ⟨dy, edy, rdy⟩ := q'.at hy
      have hdeep := deepDs_at edx
      have := (ih A.in1 dx dy x y _ _ (by omega) (by rw [units_in1]; omega) rdx rdy rx ry).2
      unfold eqAtI
      rw [edx, edy]
      exact this
    cases hd with
    | non => exact absurd (Nat.zero_le _) h0
    | bl _ => exact absurd (Nat.zero_le _) h0
    | int _ => exact absurd (Nat.zero_le _) h0
    | str _ => exact absurd (Nat.zero_le _) h0
    | @tup a xs ds p q =>
      cases r
      obtain ⟨its, rv, ht, _⟩ := I.tuple p
      cases he with
      | non => cases r'; exact ⟨RcAt.tuple_none ht hu', EqAt.tuple_none ht hu'⟩
      | bl b => cases r'; exact ⟨RcAt.tuple_bool b ht hu', EqAt.tuple_bool b ht hu'⟩
      | int b => obtain ⟨t, rfl⟩ := r'; exact ⟨RcAt.tuple_int b t ht hu', EqAt.tuple_int b t ht hu'⟩
      | str b => obtain ⟨t, rfl⟩ := r'; exact ⟨RcAt.tuple_str b t ht hu', EqAt.tuple_str b t ht hu'⟩
      | @tup b ys es p' q' =>
        cases r'
        obtain ⟨its2, rv2, ht2, _⟩ := I.tuple p'
        have hdd : deepDs ds ≤ n := by simp only [deepD] at hn; omega
        have e : ((List.range (min its.toArray.size its2.toArray.size)).all (eqAtI ds es) && its.toArray.size == its2.toArray.size) = eqD (.tup ds) (.tup es) := by
          simp only [eqD]
          rw [eqDs_all, q.len, q'.len, rv.length, rv2.length]
          simp
        have rc : RcAt A s (.ref a) (.ref b) (eqD (.tup ds) (.tup es)) := by
          rw [← e]
          exact RcAt.tuples ht ht2 hu' (items hdd q q' rv rv2)
        refine ⟨rc, ?_⟩
        by_cases hab : a = b
        · subst hab
          have ed : Dt.tup ds = Dt.tup es := DR.inj I (.tup p q) (.tup p' q')
          rw [← ed, eqD_refl]
          exact EqAt.same _
        · exact EqAt.of_refs hab rc
      | @lst b ys es p' q' =>
        cases r'
        obtain ⟨its2, _, ht2, _⟩ := I.list p'
        exact ⟨RcAt.tuple_list ht ht2.isList hu', EqAt.tuple_list ht ht2.isList hu'⟩
    | @lst a xs ds p q =>
      cases r
      obtain ⟨its, rv, ht, _⟩ := I.list p
      cases he with
      | non => cases r'; exact ⟨RcAt.list_none ht.isList hu', EqAt.list_none ht.isList hu'⟩
      | bl b => cases r'; exact ⟨RcAt.list_bool b ht.isList hu', EqAt.list_bool b ht.isList hu'⟩
      | int b => obtain ⟨t, rfl⟩ := r'; exact ⟨RcAt.list_int b t ht.isList hu', EqAt.list_int b t ht.isList hu'⟩
      | str b => obtain ⟨t, rfl⟩ := r'; exact ⟨RcAt.list_str b t ht.isList hu', EqAt.list_str b t ht.isList hu'⟩
      | @tup b ys es p' q' =>
        cases r'
        obtain ⟨its2, _, ht2, _⟩ := I.tuple p'
        exact ⟨RcAt.list_tuple ht.isList ht2 hu', EqAt.list_tuple ht.isList ht2 hu'⟩
      | @lst b ys es p' q' =>
        cases r'
        obtain ⟨its2, rv2, ht2, _⟩ := I.list p'
        have hdd : deepDs ds ≤ n := by simp only [deepD] at hn; omega
        have rc : RcAt A s (.ref a) (.ref b) (eqD (.lst ds) (.lst es)) := by
          simp only [eqD]
          rw [eqDs_all, q.len, q'.len, rv.length, rv2.length]
          by_cases hsz : its.length = its2.length
          · have e : ((List.range (min its.length its2.length)).all (eqAtI ds es) && its.length == its2.length) = (List.range its.toArray.size).all (eqAtI ds es) := by
              simp [hsz]
            rw [e]
            exact RcAt.lists ht.isList ht2.isList (by simpa using hsz) hu' (items hdd q q' rv rv2)
          · have e : ((List.range (min its.length its2.length)).all (eqAtI ds es) && its.length == its2.length) = false := by
              rw [beq_eq_false_iff_ne.mpr hsz, Bool.and_false]
            rw [e]
            exact RcAt.lists_lengths ht.isList ht2.isList (by simpa using hsz) hu'
        refine ⟨rc, ?_⟩
        by_cases hab : a = b
        · subst hab
          have ed : Dt.lst ds = Dt.lst es := DR.inj I (.lst p q) (.lst p' q')
          rw [← ed, eqD_refl]
          exact EqAt.same _
        · exact EqAt.of_refs hab rc
/-- x == y, data that hold data, at most n deep -/
theorem op_eq_deep {n : Nat} (hu : X.A.units + n < cLine) : OpR X (compareOp .Eq) (fun x y H Q => ∃ d e, DR X.K H d x ∧ DR X.K H e y ∧ deepD d ≤ n ∧ Q (.bl (eqD d e)) H) := by
  intro pins s σ H x y v u Q I rx ry h
  obtain ⟨d, e, hd, he, hn, q⟩ := h
  exact (eq_both I n X.A d e x y v u hn hu hd he rx ry).1 X.prog X.w X.xe _ ⟨.bl (eqD d e), H, I, rfl, q⟩
end
end EE

namespace EE
open PySem PySem.Spec PyProof.Rows L2
end EE

namespace EE
open PySem PySem.Spec PyProof.Rows L2
/-! ### the text of a tree -/
def Tre.codes : Tre → List Nat
  | .bud => [45]
  | .pair l r => 91 :: (l.codes ++ 32 :: (r.codes ++ [93]))
def textOf (cs : List Nat) : Str := ⟨cs.toArray⟩
abbrev Tre.text (t : Tre) : Str := textOf t.codes
theorem textOf_len (cs : List Nat) : (textOf cs).length = cs.length := by simp [textOf, Str.length]
theorem textOf_cat (a b : List Nat) : textOf a ++ textOf b = textOf (a ++ b) := by
  show Str.append (textOf a) (textOf b) = textOf (a ++ b)
  simp [textOf, Str.append]
end EE

namespace EE
open PySem PySem.Spec PyProof.Rows L2
/-- the signs of cs[lo:hi] -/
def cutT (cs : List Nat) (lo hi : Option Int) : List Nat := (cs.drop (HT.sIx cs.length 0 lo)).take (HT.sIx cs.length cs.length hi - HT.sIx cs.length 0 lo)
theorem idx_cut (lo hi : Option Int) (n : Nat) : Builtin.Str.strSliceIndices lo hi 1 n = sliceRange ((HT.sIx n 0 lo : Nat) : Int) ((HT.sIx n n hi : Nat) : Int) 1 := by
  have a : ∀ (i : Int) (d : Nat), max 0 (min (if i < 0 then i + (n : Int) else i) (n : Int)) = ((HT.sIx n d (some i) : Nat) : Int) := by
    intro i d
    simp only [HT.sIx]
    by_cases h : i < 0
    · simp only [h, if_true]; omega
    · simp only [h, if_false]; omega
  unfold Builtin.Str.strSliceIndices
  cases lo with
  | none =>
    cases hi with
    | none => rfl
    | some j =>
      show sliceRange (0 : Int) (max 0 (min (if j < 0 then j + (n : Int) else j) (n : Int))) 1 = _
      rw [a j n]
      rfl
  | some i =>
    cases hi with
    | none =>
      show sliceRange (max 0 (min (if i < 0 then i + (n : Int) else i) (n : Int))) (n : Int) 1 = _
      rw [a i 0]
      rfl
    | some j =>
      show sliceRange (max 0 (min (if i < 0 then i + (n : Int) else i) (n : Int))) (max 0 (min (if j < 0 then j + (n : Int) else j) (n : Int))) 1 = _
      rw [a i 0, a j n]
theorem slice_cut (x : Str) (lo hi : Option Int) : Txt.slice x lo hi = textOf (cutT x.cps.toList lo hi) := by
  have hl : x.cps.toList.length = x.length := by simp [Str.length]
  have l1 : HT.sIx x.length 0 lo ≤ x.length := HT.sIx_le _ _ (Nat.zero_le _) lo
  have l2 : HT.sIx x.length x.length hi ≤ x.length := HT.sIx_le _ _ (Nat.le_refl _) hi
  unfold Txt.slice cutT
  rw [idx_cut, sliceRange_one, hl, pick_run]
  by_cases h : ((1 : Int) == 1 && ((List.range (HT.sIx x.length x.length hi - HT.sIx x.length 0 lo)).map (HT.sIx x.length 0 lo + ·)).length == x.length) = true
  · rw [if_pos h]
    simp only [List.length_map, List.length_range, Bool.and_eq_true, beq_iff_eq] at h
    have h2 := h.2
    have e1 : HT.sIx x.length 0 lo = 0 := by omega
    have e2 : HT.sIx x.length x.length hi = x.length := by omega
    rw [e1, e2, List.drop_zero, Nat.sub_zero, ← hl, List.take_length]
    simp [textOf]
  · rw [if_neg h]
    rfl
def rSlS : V → Option Int → Option Int → Hp → VK → Prop := fun x lo hi H Q => ∃ z, x = .str z ∧ z.length ≤ sizeLine ∧ Q (.str (textOf (cutT z.cps.toList lo hi))) H
theorem sl_str {X : Cx} : SlR X rSlS := by
  intro pins s σ H x v vl vu lo hi sl Q I rx hs pl pu h
  obtain ⟨z, rfl, hz, q⟩ := h
  obtain ⟨t, rfl⟩ := rx
  refine ⟨"str", _, slot_str_getitem.lookup, typeIs_str s z t, ?_⟩
  have fin : ∀ t' k, EP X pins σ Q (.str (Txt.slice z lo hi) t') { s with toks := k } := fun t' k => ⟨.str _, H, I.tok _, ⟨_, rfl⟩, by rw [slice_cut]; exact q⟩
  have len : (Txt.slice z lo hi).length ≤ sizeLine := Nat.le_trans (Txt.slice_le z lo hi) hz
  obtain ⟨o, ho, hc, hd⟩ := hs
  cases pl with
  | none =>
    cases pu with
    | none => exact wpAny_getItem_str_slice (l := none) (u := none) (st := none) ⟨o, ho, hc, hd⟩ rfl (post_val_or_str ⟨len, fin⟩)
    | int j tj => exact wpAny_getItem_str_slice (l := none) (u := some (j, tj)) (st := none) ⟨o, ho, hc, hd⟩ rfl (post_val_or_str ⟨len, fin⟩)
  | int i ti =>
    cases pu with
    | none => exact wpAny_getItem_str_slice (l := some (i, ti)) (u := none) (st := none) ⟨o, ho, hc, hd⟩ rfl (post_val_or_str ⟨len, fin⟩)
    | int j tj => exact wpAny_getItem_str_slice (l := some (i, ti)) (u := some (j, tj)) (st := none) ⟨o, ho, hc, hd⟩ rfl (post_val_or_str ⟨len, fin⟩)
end EE

namespace EE
open PySem PySem.Spec PyProof.Rows L2
/-! ### a list comprehension: its names -/
theorem forIn_go {α β : Type} (f : α → β → Sem (ForInStep β)) (g : β → α → β) : ∀ (l : List α) (b : β), (∀ x ∈ l, ∀ b, f x b = pure (.yield (g b x))) → forIn l b f = pure (l.foldl g b)
  | [], b, _ => rfl
  | x :: l, b, h => by
    rw [List.forIn_cons, h x List.mem_cons_self b]
    exact forIn_go f g l (g b x) fun y hy => h y (List.mem_cons_of_mem _ hy)
def clGo (env : Env) (acc : List (Str × Addr)) (y : Str × NameKind) : List (Str × Addr) := if y.2 == .free then (y.1, (env.cells.lookup y.1).getD 0) :: acc else acc
def clOf (scope : Scope) (env : Env) : List (Str × Addr) := scope.names.foldl (clGo env) []
theorem clos_ok {scope : Scope} {env : Env} (h : ∀ y ∈ scope.names, y.2 = .free → ∃ c, env.cells.lookup y.1 = some c) : closureFor scope env = pure (clOf scope env) := by
  simp only [closureFor]
  rw [forIn_go _ (clGo env) scope.names [] (fun y hy b => ?_)]
  · rfl
  · obtain ⟨n, k⟩ := y
    by_cases hk : k = .free
    · subst hk
      obtain ⟨c, e⟩ := h _ hy rfl
      have e' : env.cells.lookup n = some c := e
      simp only [clGo, beq_self_eq_true, if_true, cellOf, e', Option.getD_some]
      rfl
    · have : (k == NameKind.free) = false := by simpa using hk
      simp only [clGo, this, Bool.false_eq_true, if_false]
theorem cl_sub {env : Env} : ∀ (names : List (Str × NameKind)) (acc : List (Str × Addr)), (∀ y ∈ names, y.2 = .free → ∃ c, env.cells.lookup y.1 = some c) → (∀ y c, acc.lookup y = some c → env.cells.lookup y = some c) →
    ∀ y c, (names.foldl (clGo env) acc).lookup y = some c → env.cells.lookup y = some c
  | [], acc, _, h, y, c, e => h y c e
  | (n, k) :: r, acc, hf, h, y, c, e => by
    rw [List.foldl_cons] at e
    refine cl_sub r _ (fun z hz => hf z (List.mem_cons_of_mem _ hz)) (fun y c e => ?_) y c e
    unfold clGo at e
    by_cases hk : k = .free
    · subst hk
      obtain ⟨c0, e0⟩ := hf _ List.mem_cons_self rfl
      have e0' : env.cells.lookup n = some c0 := e0
      simp only [beq_self_eq_true, if_true, e0', Option.getD_some, List.lookup_cons] at e
      by_cases hy : y = n
      · subst hy
        simp at e
        rw [← e]; exact e0'
      · have hb : (y == n) = false := by simpa using hy
        simp only [hb] at e
        exact h y c e
    · have hb : (k == NameKind.free) = false := by simpa using hk
      simp only [hb, Bool.false_eq_true, if_false] at e
      exact h y c e
theorem cl_has {env : Env} : ∀ (names : List (Str × NameKind)) (acc : List (Str × Addr)) (y : Str), (y, NameKind.free) ∈ names ∨ (∃ c, acc.lookup y = some c) → ∃ c, (names.foldl (clGo env) acc).lookup y = some c
  | [], acc, y, h => by
    rcases h with h | h
    · simp at h
    · exact h
  | (n, k) :: r, acc, y, h => by
    rw [List.foldl_cons]
    refine cl_has r _ y ?_
    rcases h with h | ⟨c, h⟩
    · rcases List.mem_cons.mp h with h | h
      · cases h
        exact .inr ⟨(env.cells.lookup n).getD 0, by simp [clGo]⟩
      · exact .inl h
    · refine .inr ?_
      unfold clGo
      by_cases hk : k = .free
      · subst hk
        simp only [beq_self_eq_true, if_true, List.lookup_cons]
        by_cases hy : y = n
        · subst hy; simp
        · have hb : (y == n) = false := by simpa using hy
          simp only [hb]
          exact ⟨c, h⟩
      · have hb : (k == NameKind.free) = false := by simpa using hk
        simp only [hb, Bool.false_eq_true, if_false]
        exact ⟨c, h⟩
theorem relabel_mem {scope : Scope} {env : Env} {y : Str} {k : NameKind} (h : (relabel scope env).names.lookup y = some k) : ∃ k', (y, k') ∈ scope.names ∧ (k = k' ∨ (k' = .free ∧ k = .cell)) := by
  have go : ∀ (l : List (Str × NameKind)), (l.map fun (n, k) => if (k == .free && env.scope.kind == .function && env.kindOf n == some .cell) then (n, NameKind.cell) else (n, k)).lookup y = some k → ∃ k', (y, k') ∈ l ∧ (k = k' ∨ (k' = .free ∧ k = .cell)) := by
    intro l
    induction l with
    | nil => intro h; simp at h
    | cons a r ih =>
      obtain ⟨n, k0⟩ := a
      intro h
      rw [List.map_cons] at h
      by_cases hc : (k0 == NameKind.free && env.scope.kind == .function && env.kindOf n == some .cell) = true
      · simp only [hc, if_true, List.lookup_cons] at h
        by_cases hy : y = n
        · subst hy
          simp only [beq_self_eq_true] at h
          refine ⟨k0, List.mem_cons_self, .inr ⟨?_, by simpa using h.symm⟩⟩
          simp only [Bool.and_eq_true] at hc
          simpa using hc.1.1
        · have hb : (y == n) = false := by simpa using hy
          simp only [hb] at h
          obtain ⟨k', m, q⟩ := ih h
          exact ⟨k', List.mem_cons_of_mem _ m, q⟩
      · dsimp only at h
        rw [if_neg hc] at h
        by_cases hy : y = n
        · subst hy
          simp at h
          exact ⟨k0, List.mem_cons_self, .inl h.symm⟩
        · have hb : (y == n) = false := by simpa using hy
          simp only [List.lookup_cons, hb] at h
          obtain ⟨k', m, q⟩ := ih h
          exact ⟨k', List.mem_cons_of_mem _ m, q⟩
  exact go scope.names h
theorem relabel_free {scope : Scope} {env : Env} {y : Str} (hk : env.scope.kind = .function) (hc : env.kindOf y = some .cell) (h : scope.names.lookup y = some .free) : (relabel scope env).names.lookup y = some .cell := by
  have go : ∀ (l : List (Str × NameKind)), l.lookup y = some .free → (l.map fun (n, k) => if (k == .free && env.scope.kind == .function && env.kindOf n == some .cell) then (n, NameKind.cell) else (n, k)).lookup y = some .cell := by
    intro l
    induction l with
    | nil => intro h; simp at h
    | cons a r ih =>
      obtain ⟨n, k0⟩ := a
      intro h
      rw [List.map_cons]
      by_cases hy : y = n
      · subst hy
        simp only [List.lookup_cons, beq_self_eq_true, Option.some.injEq] at h
        subst h
        simp [hk, hc]
      · have hb : (y == n) = false := by simpa using hy
        simp only [List.lookup_cons, hb] at h
        by_cases hcc : (k0 == NameKind.free && env.scope.kind == .function && env.kindOf n == some .cell) = true
        · simp only [hcc, if_true, List.lookup_cons, hb]
          exact ih h
        · dsimp only
          rw [if_neg hcc]
          simp only [List.lookup_cons, hb]
          exact ih h
  exact go scope.names h
/-- the names of a comprehension: x its own, M those of the def around it (osc: that def's scope) -/
structure CompScope (osc : Scope) (x : Str) (M : List Str) (scope : Scope) : Prop where
  kind : scope.kind = .function
  nocell : ∀ y ∈ scope.names, y.2 ≠ .cell
  names : ∀ y ∈ scope.names, y.2 = .local → scope.names.lookup y.1 = some .local
  own : scope.names.lookup x = some .local
  free : ∀ y ∈ scope.names, y.2 = .free → osc.names.lookup y.1 = some .cell
  nd : (x :: M).Nodup
  mine : ∀ y ∈ M, scope.names.lookup y = some .free
/-- the context of a comprehension's block -/
def cxComp (X : Cx) (scope : Scope) (C : Addr) (N : List Str) (fp : List Addr) (pins : List (Addr × Obj)) (s : Shared) (H : Hp) : Cx where
  prog := X.prog
  w := X.w
  K := X.K
  mg := X.mg
  base := X.base
  A := X.A
  N := N
  s₀ := s
  H₀ := H
  env := compEnvC scope (clOf scope X.env) C X.env
  outer := X.stack
  stack := X.stack
  ex := fp
  fn := fun _ => false
  calm := true
  pn := X.pn ++ pins
  xe := fun _ _ => False
/-- the values of the names around it -/
def pick (σ : L2.St) (js : List Nat) : L2.St := js.map fun j => (σ[j]?).getD none
section
variable {X : Cx} {pins : List (Addr × Obj)} {σ : L2.St} {H : Hp} {s : Shared} {scope : Scope} {x : Str} {M : List Str} {js : List Nat} {C : Addr} {fp : List Addr}
theorem CompScope.cells (S : CompScope X.env.scope x M scope) (I : Inv X pins σ H s) : ∀ y ∈ scope.names, y.2 = .free → ∃ c, X.env.cells.lookup y.1 = some c := fun y hy hk => I.ok.has y.1 (.inl (S.free y hy hk))
theorem CompScope.sub (S : CompScope X.env.scope x M scope) (I : Inv X pins σ H s) {y : Str} {c : Addr} (e : (clOf scope X.env).lookup y = some c) : X.env.cells.lookup y = some c :=
  cl_sub scope.names [] (S.cells I) (fun _ _ h => by simp at h) y c e
theorem inv_comp {s1 : Shared} {m : Str → Option Value} (S : CompScope X.env.scope x M scope) (hc : X.calm = true) (I : Inv X pins σ H s) (hjs : ∀ (k : Nat) (y : Str), M[k]? = some y → ∃ j : Nat, js[k]? = some j ∧ X.N[j]? = some y) (hlen : js.length = M.length)
    (hf : ∀ b ∈ fp, FpOk X pins H b) (hfl : ∀ b ∈ fp, b < s.heap.objs.size) (hC : s.heap.objs.size ≤ C) (hn : s1.heap.Ns C m) (hk : ∀ b o, s.heap.get? b = some o → s1.heap.get? b = some o) (hos : s1.os = s.os) (hg : AllBare s1.gens) :
    Inv (cxComp X scope C (x :: M) fp pins s H) [] (none :: pick σ js) H s1 := by
  have nst : ∀ b ∈ fp, b ∉ frs X.stack := fun b hb z => by
    obtain ⟨f0, f1, f2, _⟩ := hf b hb
    rcases List.mem_cons.mp (I.stkSub b z) with e | e
    · exact f1 e
    · exact f2 e
  have cellK : ∀ (c : Addr) (v : Option Value), s.heap.IsCell c v → s1.heap.IsCell c v := fun c v ⟨o, e, d⟩ => ⟨o, hk c o e, d⟩
  refine ⟨⟨I.ok.mod, S.kind, I.ok.glob, I.ok.blt, hC, fun y z c h1 h2 => I.ok.inj y z c (S.sub I h1) (S.sub I h2), fun y hy => ?_, fun y c h _ => (by cases (show false = true from h)), fun _ => I.ok.hd hc, I.ok.frames, .inl rfl, fun b hb => ?_, I.bs,
    Nat.le_trans I.ok.bsz I.sz, fun b o e hb => ?_, nst, I.stack, I.stkFree⟩, hos, hg, Un.kept hk, ⟨m, hn, fun i y v h1 h2 h3 => ?_⟩, fun y c e => ?_, I.hok.fresh hC, fun y c e => I.freeC y c (S.sub I e), fun p hp => ?_, I.hok.kept hk, ?_⟩
  · have hy' : (relabel scope X.env).names.lookup y = some .cell ∨ (relabel scope X.env).names.lookup y = some .free := hy
    have fr : (y, NameKind.free) ∈ scope.names := by
      rcases hy' with h | h
      · obtain ⟨k', mm, e | e⟩ := relabel_mem h
        · exact absurd e.symm (S.nocell _ mm)
        · rw [e.1] at mm; exact mm
      · obtain ⟨k', mm, e | e⟩ := relabel_mem h
        · rw [← e] at mm; exact mm
        · exact absurd e.2 (by intro z; cases z)
    exact cl_has scope.names [] y (.inl fr)
  · obtain ⟨f0, f1, f2, f3, f4, f5⟩ := hf b hb
    exact ⟨Nat.ne_of_lt (Nat.lt_of_lt_of_le (hfl b hb) hC), fun y c e => f4 y c (S.sub I e)⟩
  · obtain ⟨f0, f1, f2, f3, f4, f5⟩ := hf b hb
    rcases f3 with f3 | f3
    · exact I.ok.noex b o e f3
    · exact absurd (Heap.lt_size e) (Nat.not_lt.mpr (Nat.le_trans I.ok.bsz f3))
  · cases i with
    | zero =>
      have h2' : (none : Option V) = some v := by simpa using h2
      cases h2'
    | succ k =>
      have h1' : M[k]? = some y := by
        have z : (x :: M)[k + 1]? = some y := h1
        simpa using z
      have h2' : (pick σ js)[k]? = some (some v) := by simpa using h2
      obtain ⟨j, ej, eN⟩ := hjs k y h1'
      have eσ : σ[j]? = some (some v) := by
        unfold pick at h2'
        rw [List.getElem?_map, ej] at h2'
        have z : (σ[j]?).getD none = some v := by simpa using h2'
        cases q : σ[j]? with
        | none => rw [q] at z; cases z
        | some o => rw [q] at z; rw [show o = some v from z]
      have hfree := S.mine y (List.mem_of_getElem? h1')
      have hcell : X.env.kindOf y = some .cell := S.free (y, .free) (PySem.mem_of_lookup hfree) rfl
      obtain ⟨m0, _, hl0⟩ := I.loc
      obtain ⟨u, r, l⟩ := hl0 j y v eN eσ (.inr (.inl hcell))
      refine ⟨u, r, .inr ⟨.inl (relabel_free I.ok.kind hcell hfree), ?_⟩⟩
      obtain ⟨c', e'⟩ := cl_has (env := X.env) scope.names [] y (.inl (PySem.mem_of_lookup hfree))
      have e2 := S.sub I (show (clOf scope X.env).lookup y = some c' from e')
      rcases l with ⟨z, _⟩ | ⟨_, c, hcc, hic⟩
      · rw [hcell] at z; cases z
      · rw [hcc] at e2
        have : c = c' := Option.some.inj e2
        subst this
        exact ⟨c, e', cellK c _ hic⟩
  · obtain ⟨v, h⟩ := I.cell y c (S.sub I e)
    exact ⟨v, cellK c v h⟩
  · have hp' : p ∈ X.pn ++ pins := by simpa [cxComp] using hp
    obtain ⟨e, n, ne, nf, d⟩ := I.pin p hp'
    refine ⟨hk _ _ e, n, Nat.ne_of_lt (Nat.lt_of_lt_of_le (Heap.lt_size e) hC), fun z => ?_, d⟩
    rcases List.mem_cons.mp (I.stkSub p.1 z) with q | q
    · exact ne q
    · exact nf q
  · show (none :: pick σ js).length = (x :: M).length
    simp [pick, hlen]
theorem comp_end {N : List Str} {pins' : List (Addr × Obj)} {σ' : L2.St} {H' : Hp} {s' : Shared} {h' : Heap} (I : Inv X pins σ H s) (hf : ∀ b ∈ fp, FpOk X pins H b) (J : Inv (cxComp X scope C N fp pins s H) pins' σ' H' s')
    (hC : s.heap.objs.size ≤ C) (hs : Heap.SameBut C s'.heap h') : Inv X pins σ H' { s' with heap := h' } := by
  have u0 : Un (frs X.stack) fp H H' s.heap s'.heap := J.base
  have nC : ∀ b o, s.heap.get? b = some o → b ≠ C := fun b o e z => absurd (Heap.lt_size e) (by rw [z]; exact Nat.not_lt.mpr hC)
  have u : Un (frs X.stack) fp H H' s.heap h' := ⟨fun b o e n hb hx => (hs.2 b (nC b o e)).trans (u0.keep b o e n hb hx), fun b o e n hb hx => let ⟨sl, q⟩ := u0.slot b o e n hb hx; ⟨sl, (hs.2 b (nC b o e)).trans q⟩, u0.free,
    fun b o e hx => let ⟨o', q⟩ := u0.there b o e hx; ⟨o', (hs.2 b (nC b o e)).trans q⟩, u0.tups, u0.frzs, u0.tbls⟩
  have fC : H' C = none := J.free
  have hok : HOk X.prog X.w H' h' := fun b ob e => (J.hok b ob e).stay (fun c w hc q => (hs.2 c (fun z => by
    subst z
    rcases hc with z | z
    · rw [← z, fC] at e; cases e
    · rw [fC] at z; cases z)).trans q) (fun _ q => q) fun _ _ q => q
  exact I.call' (s' := { s' with heap := h' }) (ch := fp) J.os u hok J.bare fun b hb => by
    obtain ⟨f0, f1, f2, f3, f4, f5⟩ := hf b hb
    exact ⟨f3, f1, f4, f5⟩
end
/-- the items of a comprehension, one after another: D the new list, W what holds ahead of turn i, with a measure -/
def tComp (wi : TI) (te : TE) (js : List Nat) : TE := fun σ H Q => wi σ H fun J H1 => ∀ D, H1 D = none → ∃ W : Nat → Nat → Hp → Prop, (∃ m, W 0 m (upd H1 D (.lst []))) ∧ ∀ i m H2, W i m H2 →
  (J.stop i H2 ∧ Q (.ref D) H2) ∨ (J.go i H2 ∧ ∃ N : Hp → Prop, (∀ H', N H' → ∃ m', m' < m ∧ W (i + 1) m' H') ∧ ∀ v H', J.yld i H2 v H' →
    te (some v :: pick σ js) H' fun y H3 => ∃ ys, H3 D = some (.lst ys) ∧ ys.length < sizeLine ∧ N (upd H3 D (.lst (ys ++ [y]))))
section
variable {X : Cx} {elt iter : Expr} {x : Str} {px pos : Pos} {scope : Scope} {M : List Str} {js : List Nat} {wi : TI} {te : TE}
/-- the loop of a comprehension without a test -/
theorem compLoop_all {prog : Program} {w : World} {A : Around} {R : Result → Shared → Prop} {s : Shared} {target : Expr} {it acc : Value} {env : Env} (I : Nat → Shared → Prop)
    (turn : ∀ n s, I n s → wpAny (model prog w) A (pyNext it) (fun r s₁ => match r with
      | none => R (.ok .next) s₁
      | some v => wpAny (model prog w) A (letOwnedTupleGo target it v) (fun _ s₂ => wpAny (model prog w) A (assign target env v) (fun _ s₃ => wpAny (model prog w) A (eval elt env) (fun y s₄ =>
          wpAny (model prog w) A (call (.builtin "list.append") [acc, y]) (fun _ s₅ => ∃ m, m < n ∧ I m s₅) (fun _ _ => False) s₄) (fun _ _ => False) s₃) (fun _ _ => False) s₂) (fun _ _ => False) s₁) (fun _ _ => False) s)
    (n : Nat) (h : I n s) : codeAny (model prog w) A (.compLoop (.ListComp elt [⟨target, iter, [], 0⟩] scope pos) 0 it acc env) R s := by
  refine codeAny_loop rfl I (fun n s hI => ?_) n h
  show wpAny _ _ ((compTurn (.ListComp elt [⟨target, iter, [], 0⟩] scope pos) 0 it acc env).onRaise (fun x => do noteFrame x env; theTreesLotGoes x)) _ _ s
  refine wpAny_noted ?_
  rw [compTurn_list1]
  refine wpAny_bind (wpAny_standAt (wpAny_bind (wpAny_mono (turn n s hI) (fun r s₁ h₁ => ?_) fun _ _ z => z.elim)))
  cases r with
  | none => exact wpAny_pure h₁
  | some v =>
    exact wpAny_bind (wpAny_mono h₁ (fun _ s₂ h₂ => wpAny_bind (wpAny_mono h₂ (fun _ s₃ h₃ => wpAny_bind (wpAny_bind (wpAny_mono h₃ (fun y s₄ h₄ => wpAny_bind (wpAny_mono h₄
      (fun _ s₅ h₅ => wpAny_pure (wpAny_pure ⟨rfl, h₅⟩)) fun _ _ z => z.elim)) fun _ _ z => z.elim))) fun _ _ z => z.elim)) fun _ _ z => z.elim)
/-- the block's run: R is asked at its end, for the state there -/
theorem comp_block {pins : List (Addr × Obj)} {σ : L2.St} {H2 : Hp} {s2 : Shared} {it D : Addr} {fp : List Addr} {tn : Nat → Heap → Prop} {J : It} {W : Nat → Nat → Hp → Prop} {Qe : Hp → Prop} {R : Addr → Result → Shared → Prop} {E : Value → Shared → Prop} {m0 : Nat}
    (S : CompScope X.env.scope x M scope) (hc : X.calm = true) (hjs : ∀ (k : Nat) (y : Str), M[k]? = some y → ∃ j : Nat, js[k]? = some j ∧ X.N[j]? = some y) (hlen : js.length = M.length)
    (he : ∀ (C : Addr) (fp : List Addr) (pins : List (Addr × Obj)) (s : Shared) (H : Hp), PE (cxComp X scope C (x :: M) fp pins s H) elt te)
    (I : Inv X pins σ H2 s2) (T : Turn X.prog X.w X.K (.Name x px) J fp it tn) (st : tn 0 s2.heap) (hf : ∀ b ∈ fp, FpOk X pins H2 b) (w0 : W 0 m0 H2)
    (turn : ∀ i m H3, W i m H3 → (J.stop i H3 ∧ Qe H3) ∨ (J.go i H3 ∧ ∃ N : Hp → Prop, (∀ H', N H' → ∃ m', m' < m ∧ W (i + 1) m' H') ∧ ∀ v H', J.yld i H3 v H' →
      te (some v :: pick σ js) H' fun y H4 => ∃ ys, H4 D = some (.lst ys) ∧ ys.length < sizeLine ∧ N (upd H4 D (.lst (ys ++ [y])))))
    (fin : ∀ (C : Addr) (s' : Shared) (H' : Hp) (pins' : List (Addr × Obj)) (σ' : L2.St), s2.heap.objs.size ≤ C → Inv (cxComp X scope C (x :: M) fp pins s2 H2) pins' σ' H' s' → Qe H' → R C (.ok .next) s') :
    wpAny (model X.prog X.w) X.A (newFunctionEnv scope X.env.globals (clOf scope X.env) [] X.env.qual none .none (some X.env)) (fun cenv s4 =>
      codeAny (model X.prog X.w) X.A (.compStart (.ListComp elt [⟨.Name x px, iter, [], 0⟩] scope pos) 0 (.ref it) (.ref D) { cenv with scope := relabel scope X.env }) (R cenv.locals) s4) E s2 := by
  refine wpAny_newFunctionEnv S.nocell (by intro y hy; simp at hy) (fun h1 hns hsb => ?_) S.kind
  have hfl : ∀ b ∈ fp, b < s2.heap.objs.size := fun b hb => by
    obtain ⟨o, e, _⟩ := T.obj 0 _ st b hb
    exact Heap.lt_size e
  have old : ∀ b o, s2.heap.get? b = some o → h1.get? b = some o := fun b o e => (hsb.2 b (Nat.ne_of_lt (Heap.lt_size e))).trans (Heap.get?_push_of_some _ e)
  have I4 : Inv (cxComp X scope s2.heap.objs.size (x :: M) fp pins s2 H2) [] (none :: pick σ js) H2 { s2 with heap := h1, toks := s2.toks + ([] : List (Str × Value)).length } :=
    inv_comp S hc I hjs hlen hf hfl (Nat.le_refl _) hns old rfl I.bare
  have st4 : tn 0 h1 := T.keep _ _ _ st fun b hb o e => old b o e
  have stat : ∀ {H' : Hp}, (∀ b ∈ fp, H' b = none) → ∀ b ∈ fp, FpOk (cxComp X scope s2.heap.objs.size (x :: M) fp pins s2 H2) [] H' b := fun {H'} hn b hb => by
    obtain ⟨f0, f1, f2, f3, f4, f5⟩ := hf b hb
    refine ⟨hn b hb, Nat.ne_of_lt (hfl b hb), I4.ok.exfs b hb, .inl hb, fun y c e => f4 y c (S.sub I e), fun p hp => f5 p ?_⟩
    simpa [cxComp] using hp
  have loop : ∀ s3 : Shared, s3 = { s2 with heap := h1, toks := s2.toks + ([] : List (Str × Value)).length } →
      codeAny (model X.prog X.w) X.A (.compLoop (.ListComp elt [⟨.Name x px, iter, [], 0⟩] scope pos) 0 (.ref it) (.ref D) (compEnvC scope (clOf scope X.env) s2.heap.objs.size X.env)) (R s2.heap.objs.size) s3 := by
    rintro s3 rfl
    refine compLoop_all (fun n s' => ∃ i x0 H', Inv (cxComp X scope s2.heap.objs.size (x :: M) fp pins s2 H2) [] (x0 :: pick σ js) H' s' ∧ tn i s'.heap ∧ (∀ b ∈ fp, H' b = none) ∧ W i n H') ?_ m0 ⟨0, none, H2, I4, st4, fun b hb => (hf b hb).1, w0⟩
    rintro n s5 ⟨i, x0, H5, I5, st5, fr5, w5⟩
    rcases turn i n H5 w5 with ⟨stop, qe⟩ | ⟨go, N, hN, step⟩
    · refine thn (T.done (cxComp X scope s2.heap.objs.size (x :: M) fp pins s2 H2) rfl rfl rfl rfl i [] s5 _ H5 (fun _ _ => False) I5 (stat fr5) st5 stop) fun r s6 ⟨hr, I6⟩ => ?_
      subst hr
      exact fin _ s6 H5 [] _ (Nat.le_refl _) I6 qe
    · refine thn (T.item (cxComp X scope s2.heap.objs.size (x :: M) fp pins s2 H2) rfl rfl rfl rfl i [] s5 _ H5 (fun _ _ => False) I5 (stat fr5) st5 go) fun r s6 ⟨u, hr, h6⟩ => ?_
      subst hr
      refine thn h6 fun _ s7 ⟨v, H7, I7, r7, y7, st7, fr7⟩ => ?_
      have I7' := I7.pinned (stat fr7) (T.obj _ _ st7)
      have hg : PG (cxComp X scope s2.heap.objs.size (x :: M) fp pins s2 H2) (.Name x px) (gName 0) := pg_name (i := 0) S.nd rfl (.inl (lookup_relabel_local S.own)) (.inr (lookup_relabel_local S.own))
      refine thn (hg _ s7 _ H7 v u (fun σ' H' => σ' = some v :: pick σ js ∧ H' = H7) I7' r7 ⟨rfl, rfl⟩) fun _ s8 ⟨σ8, H8, I8, e8, e8'⟩ => ?_
      subst e8 e8'
      refine thn (he s2.heap.objs.size fp pins s2 H2 _ s8 _ H8 _ I8 (step v H8 y7)) fun yv s9 ⟨y, H9, I9, r9, ys, hD, hz, n9⟩ => ?_
      refine thn (mt_append (X := cxComp X scope s2.heap.objs.size (x :: M) fp pins s2 H2) _ s9 _ H9 (.ref D) [y] (.ref D) [yv] (fun _ H' => N H') I9 rfl (.cons r9 .nil) ⟨D, ys, y, rfl, rfl, hD, hz, n9⟩) fun _ s10 ⟨_, H10, I10, _, n10⟩ => ?_
      obtain ⟨m', hm, w10⟩ := hN H10 n10
      refine ⟨m', hm, i + 1, _, H10, I10.unpinned, T.keep _ _ _ st7 fun b hb o e => (I10.pin (b, o) (List.mem_append_right _ (List.mem_append_right _ (mem_pinsAt hb e)))).1, fun b hb => ?_, w10⟩
      obtain ⟨o, e, d⟩ := T.obj _ _ st7 b hb
      exact (I10.pin (b, o) (List.mem_append_right _ (List.mem_append_right _ (mem_pinsAt hb e)))).2.1
  exact codeAny_compStart_list (loop _ rfl) (wpAny_mono (T.self X.A 0 _ _ _ st4 (loop _ rfl)) (fun _ _ z => z) fun _ _ z => z)
theorem pe_comp (S : CompScope X.env.scope x M scope) (hc : X.calm = true) (hjs : ∀ (k : Nat) (y : Str), M[k]? = some y → ∃ j : Nat, js[k]? = some j ∧ X.N[j]? = some y) (hlen : js.length = M.length) (hi : PI X (.Name x px) iter wi)
    (he : ∀ (C : Addr) (fp : List Addr) (pins : List (Addr × Obj)) (s : Shared) (H : Hp), PE (cxComp X scope C (x :: M) fp pins s H) elt te) (hs : ∀ v, foldedSetIterable iter X.env v = pure v := by intro _; rfl) :
    PE X (.ListComp elt [⟨.Name x px, iter, [], 0⟩] scope pos) (tComp wi te js) := by
  intro pins s σ H Q I h
  rw [eval_ListComp]
  refine wpAny_comprehension_free (use := none) rfl hs (clos_ok (S.cells I)) S.kind S.names (thn (hi pins s σ H _ I h) fun xv s1 h1 => thn h1 fun itv s2 h2 => ?_)
  obtain ⟨it, fp, tn, J, H1, rfl, I2, T, st2, f2, q⟩ := h2
  refine wpAny_newObj_type ?_ (by show 0 ≤ sizeLine; decide)
  have hD : H1 s2.heap.objs.size = none := I2.hok.fresh (Nat.le_refl _)
  obtain ⟨W, ⟨m0, w0⟩, turn⟩ := q _ hD
  have I3 : Inv X pins σ (upd H1 s2.heap.objs.size (.lst [])) { s2 with heap := s2.heap.push { cls := .type "list", data := .seq ([] : List Value).toArray } } := I2.lnew (t' := s2.toks) .nil (Nat.zero_le _)
  have fr3 : ∀ b ∈ fp, FpOk X pins (upd H1 s2.heap.objs.size (.lst [])) b := fun b hb => by
    obtain ⟨f0, f⟩ := f2 b hb
    obtain ⟨o, e, _⟩ := T.obj 0 _ st2 b hb
    exact ⟨by rw [upd_ne (Nat.ne_of_lt (Heap.lt_size e))]; exact f0, f⟩
  refine comp_block (Qe := fun H' => Q (.ref s2.heap.objs.size) H') (R := fun C => compPost (model X.prog X.w) X.A X.xe none (EP X pins σ Q) (.ref s2.heap.objs.size) C) S hc hjs hlen he I3 T (T.keep _ _ _ st2 fun b hb o e => Heap.get?_push_of_some _ e) fr3 w0 turn ?_
  intro C s' H' pins' σ' hC Jv qe
  obtain ⟨m, hn, _⟩ := Jv.loc
  exact ⟨m, hn, fun h' hs' => ⟨.ref _, H', comp_end I3 fr3 Jv hC hs', rfl, qe⟩⟩
/-- y = [..], y a plain local of the def -/
theorem ps_comp {i : Nat} {y : Str} {py spos : Pos} (S : CompScope X.env.scope x M scope) (hc : X.calm = true) (hjs : ∀ (k : Nat) (y : Str), M[k]? = some y → ∃ j : Nat, js[k]? = some j ∧ X.N[j]? = some y) (hlen : js.length = M.length) (hi : PI X (.Name x px) iter wi)
    (he : ∀ (C : Addr) (fp : List Addr) (pins : List (Addr × Obj)) (s : Shared) (H : Hp), PE (cxComp X scope C (x :: M) fp pins s H) elt te)
    (hN : X.N.Nodup) (hy : X.N[i]? = some y) (hl : X.env.scope.names.lookup y = some .local)
    (hsw : swapsWith (.ListComp elt [⟨.Name x px, iter, [], 0⟩] scope pos) (some (.Name y py)) spos.line X.env = pure true := by rfl) (hs : ∀ v, foldedSetIterable iter X.env v = pure v := by intro _; rfl) :
    PS X (.Assign [.Name y py] (.ListComp elt [⟨.Name x px, iter, [], 0⟩] scope pos) spos) (tAsg (tComp wi te js) (gName i)) := by
  intro pins s σ H D0 I h
  rw [exec_Assign_Name_used _ _ _ _ hsw]
  refine wpAny_bind (wpAny_standAt (wpAny_bind ?_))
  show wpAny _ X.A (do let _ ← comprehension (.ListComp elt [⟨.Name x px, iter, [], 0⟩] scope pos) scope X.env _ (newList []) false (eval iter X.env) (some (assign (.Name y py) X.env))) _ _ s
  refine wpAny_bind (wpAny_mono (wpAny_comprehension_free (use := some (assign (.Name y py) X.env)) (Q := fun _ s' => SP X pins D0 .next s') rfl hs (clos_ok (S.cells I)) S.kind S.names
    (thn (hi pins s σ H _ I h) fun xv s1 h1 => thn h1 fun itv s2 h2 => ?_)) (fun _ s' hq => wpAny_pure (wpAny_pure hq)) fun _ _ e => e)
  obtain ⟨it, fp, tn, J, H1, rfl, I2, T, st2, f2, q⟩ := h2
  refine wpAny_newObj_type ?_ (by show 0 ≤ sizeLine; decide)
  have hD : H1 s2.heap.objs.size = none := I2.hok.fresh (Nat.le_refl _)
  obtain ⟨W, ⟨m0, w0⟩, turn⟩ := q _ hD
  have I3 : Inv X pins σ (upd H1 s2.heap.objs.size (.lst [])) { s2 with heap := s2.heap.push { cls := .type "list", data := .seq ([] : List Value).toArray } } := I2.lnew (t' := s2.toks) .nil (Nat.zero_le _)
  have fr3 : ∀ b ∈ fp, FpOk X pins (upd H1 s2.heap.objs.size (.lst [])) b := fun b hb => by
    obtain ⟨f0, f⟩ := f2 b hb
    obtain ⟨o, e, _⟩ := T.obj 0 _ st2 b hb
    exact ⟨by rw [upd_ne (Nat.ne_of_lt (Heap.lt_size e))]; exact f0, f⟩
  refine comp_block (Qe := fun H' => gName i (.ref s2.heap.objs.size) σ H' D0.nx) (R := fun C => compPost (model X.prog X.w) X.A X.xe (some (assign (.Name y py) X.env)) (fun _ s' => SP X pins D0 .next s') (.ref s2.heap.objs.size) C) S hc hjs hlen he I3 T
    (T.keep _ _ _ st2 fun b hb o e => Heap.get?_push_of_some _ e) fr3 w0 turn ?_
  intro C s' H' pins' σ' hC Jv qe
  have Ie : Inv X pins σ H' s' := comp_end I3 fr3 Jv hC (Heap.SameBut.refl ..)
  obtain ⟨m, hn, _⟩ := Jv.loc
  have fC := I3.fpOk (H' := H') hC Jv.free
  obtain ⟨c0, c1, c2, c3, c4, c5⟩ := fC
  show wpAny _ X.A (assign (.Name y py) X.env (.ref s2.heap.objs.size)) (fun _ s'' => ∃ m, s''.heap.Ns C m ∧ ∀ h', Heap.SameBut C s''.heap h' → SP X pins D0 .next { s'' with heap := h' }) X.xe s'
  refine wpAny_assign_Name (store_ok2 Ie hN hy (.inl hl) (show RelV (.ref s2.heap.objs.size) (.ref s2.heap.objs.size) from rfl) (fun s'' I'' ⟨a, hsb, ha⟩ => ?_) (.inr hl))
  have hCa : C ≠ a := by
    rcases ha with rfl | ha
    · exact c1
    · exact Ne.symm (c4 _ _ ha)
  exact ⟨m, hn.sameBut hsb hCa, fun h' hs' => ⟨_, H', I''.turned (t' := s''.toks) (fun b o hb e => (hs'.2 b hb).trans e) c0 c1 c3 c4 c5, qe⟩⟩
end
end EE

namespace EE
open PySem PySem.Spec PyProof.Rows L2
section
variable {X : Cx} {elt iter : Expr} {x : Str} {px pos : Pos} {scope osc : Scope} {M N : List Str} {js : List Nat} {wi : TI} {te : TE}
theorem js_of (hjs : M.map some = js.map fun j => N[j]?) : (∀ (k : Nat) (y : Str), M[k]? = some y → ∃ j : Nat, js[k]? = some j ∧ N[j]? = some y) ∧ js.length = M.length := by
  constructor
  · intro k y h
    have e : (M.map some)[k]? = some (some y) := by rw [List.getElem?_map, h]; rfl
    rw [hjs, List.getElem?_map] at e
    cases q : js[k]? with
    | none => rw [q] at e; cases e
    | some j =>
      rw [q] at e
      exact ⟨j, rfl, by simpa using e⟩
  · have := congrArg List.length hjs
    simpa using this.symm
theorem pe_compr (S : CompScope osc x M scope) (hjs : M.map some = js.map fun j => N[j]?) (hc : X.calm = true) (hi : PI X (.Name x px) iter wi)
    (he : ∀ (C : Addr) (fp : List Addr) (pins : List (Addr × Obj)) (s : Shared) (H : Hp), PE (cxComp X scope C (x :: M) fp pins s H) elt te)
    (hosc : X.env.scope = osc := by rfl) (hN : X.N = N := by rfl) (hs : ∀ v, foldedSetIterable iter X.env v = pure v := by intro _; rfl) :
    PE X (.ListComp elt [⟨.Name x px, iter, [], 0⟩] scope pos) (tComp wi te js) := by
  subst hosc hN
  exact pe_comp S hc (js_of hjs).1 (js_of hjs).2 hi he hs
theorem ps_compr {i : Nat} {y : Str} {py spos : Pos} (S : CompScope osc x M scope) (hjs : M.map some = js.map fun j => N[j]?) (hc : X.calm = true) (hi : PI X (.Name x px) iter wi)
    (he : ∀ (C : Addr) (fp : List Addr) (pins : List (Addr × Obj)) (s : Shared) (H : Hp), PE (cxComp X scope C (x :: M) fp pins s H) elt te)
    (hNd : X.N.Nodup) (hy : X.N[i]? = some y) (hl : X.env.scope.names.lookup y = some .local)
    (hosc : X.env.scope = osc := by rfl) (hN : X.N = N := by rfl)
    (hsw : swapsWith (.ListComp elt [⟨.Name x px, iter, [], 0⟩] scope pos) (some (.Name y py)) spos.line X.env = pure true := by rfl) (hs : ∀ v, foldedSetIterable iter X.env v = pure v := by intro _; rfl) :
    PS X (.Assign [.Name y py] (.ListComp elt [⟨.Name x px, iter, [], 0⟩] scope pos) spos) (tAsg (tComp wi te js) (gName i)) := by
  subst hosc hN
  exact ps_comp S hc (js_of hjs).1 (js_of hjs).2 hi he hNd hy hl hsw hs
end
/-- the script: frozen, or the module's own -/
def ScR (K : PySem.W.Frag) (H : Hp) (a : Addr) (xs : List V) : Prop := (∃ o, H a = some (.frz o (.lst xs))) ∨
    ∃ (o : Obj) (its : Array Value) (n : Nat), K.lookup a = some o ∧ o.cls = .type "list" ∧ o.dict = none ∧ o.data = .seq its n ∧ its.size ≤ sizeLine ∧ Vals xs its.toList
theorem ScR.sq {K : PySem.W.Frag} {H : Hp} {a : Addr} {xs : List V} (h : ScR K H a xs) : SqL K H a xs := by
  rcases h with ⟨o, h⟩ | h
  · exact .inl (.inr ⟨o, h⟩)
  · exact .inr h
theorem ScR.of {K : PySem.W.Frag} {H : Hp} {a : Addr} {xs : List V} (h : SqL K H a xs) (o : Only H) : ScR K H a xs := by
  rcases h with (h | h) | h
  · rcases o a with e | ⟨ob, ys, e⟩
    · rw [e] at h; cases h
    · rw [e] at h; cases h
  · exact .inl h
  · exact .inr h
end EE

namespace EE
open PySem PySem.Spec PyProof.Rows L2
section
variable {prog : Program} {w : World} {A : Around} {E : Value → Shared → Prop} {s : Shared}
end
theorem boot_rev : bootBuiltins "reversed" = some (.type "reversed") := by decide +kernel
end EE

namespace E3
open PySem PySem.Spec PyProof.Rows L2 EE
/-! ## pure tuples, lists and dicts by address, and a frame: what a piece of code does not name stays as it is -/
inductive D where
  | non | bl (b : Bool) | int (i : Int) | str (x : Str) | tup (xs : List D) | rol (xs : List D) | ref (a : Addr) | ty (n : String)
inductive O where
  | lst (xs : List D) | dic (kvs : List (Key × D)) | exc (C : Addr)
abbrev Hp3 := Addr → Option O
abbrev St3 := List (Option D)
abbrev K3 := D → Hp3 → Prop
abbrev X3 := Addr → Addr → Hp3 → Prop
/-- .. by the locals -/
abbrev W3T := St3 → X3
def up (S : Hp3) (a : Addr) (o : O) : Hp3 := fun b => if b = a then some o else S b
def emp : Hp3 := fun _ => none
theorem up_same {S : Hp3} {a : Addr} {o : O} : up S a o a = some o := if_pos rfl
theorem up_ne {S : Hp3} {a b : Addr} {o : O} (h : b ≠ a) : up S a o b = S b := if_neg h
theorem up_up {S : Hp3} {a : Addr} {o u : O} : up (up S a o) a u = up S a u := by
  funext b; unfold up; split <;> rfl
theorem ne3 {S : Hp3} {a b : Addr} {o : O} (h : S a = some o) (h' : S b = none) : a ≠ b := by
  intro e; subst e; rw [h] at h'; cases h'
theorem up_get {S : Hp3} {a b : Addr} {o u : O} (h : S b = some u) (h' : S a = none) : up S a o b = some u := by rw [up_ne (ne3 h h')]; exact h
/-- what is hidden, and the heap at the entry -/
structure Zt where
  p : Addr → Prop
  base : Hp
instance : CoeFun Zt (fun _ => Addr → Prop) := ⟨Zt.p⟩
/-- an exception's object -/
def ExcOf (a C : Addr) : Heap → Prop := fun h => ∃ o, h.get? a = some o ∧ o.cls = .ref C ∧ ∃ xs n, o.data = .fields xs ∧ n = xs.size
mutual
inductive Rp (K : PySem.W.Frag) (H : Hp) : D → V → Prop where
  | non : Rp K H .non .non
  | bl (b : Bool) : Rp K H (.bl b) (.bl b)
  | int (i : Int) : Rp K H (.int i) (.int i)
  | str (x : Str) : Rp K H (.str x) (.str x)
  | ref (a : Addr) : Rp K H (.ref a) (.ref a)
  | ty (n : String) : Rp K H (.ty n) (.ty n)
  | tup {a : Addr} {xs : List V} {ds : List D} : SqT K H a xs → Rps K H ds xs → Rp K H (.tup ds) (.ref a)
  | rol {a : Addr} {xs : List V} {ds : List D} : ScR K H a xs → Rps K H ds xs → Rp K H (.rol ds) (.ref a)
inductive Rps (K : PySem.W.Frag) (H : Hp) : List D → List V → Prop where
  | nil : Rps K H [] []
  | cons {d : D} {v : V} {ds : List D} {vs : List V} : Rp K H d v → Rps K H ds vs → Rps K H (d :: ds) (v :: vs)
end
/-- what stays: tuples, frozen things, and the hidden ones -/
structure Kp (Z : Zt) (H H' : Hp) : Prop where
  tup : ∀ b xs, H b = some (.tup xs) → H' b = some (.tup xs)
  frz : ∀ b o u, H b = some (.frz o u) → H' b = some (.frz o u)
  hid : ∀ b, Z b → H' b = H b
theorem Kp.refl (Z : Zt) (H : Hp) : Kp Z H H := ⟨fun _ _ h => h, fun _ _ _ h => h, fun _ _ => rfl⟩
theorem Kp.trans {Z : Zt} {H H1 H2 : Hp} (a : Kp Z H H1) (b : Kp Z H1 H2) : Kp Z H H2 :=
  ⟨fun c xs h => b.tup _ _ (a.tup _ _ h), fun c o u h => b.frz _ _ _ (a.frz _ _ _ h), fun c z => (b.hid c z).trans (a.hid c z)⟩
theorem Kp.sqT {K : PySem.W.Frag} {Z : Zt} {H H' : Hp} {a : Addr} {xs : List V} (k : Kp Z H H') (h : SqT K H a xs) : SqT K H' a xs := by
  rcases h with (h | ⟨o, h⟩) | h
  · exact .inl (.inl (k.tup _ _ h))
  · exact .inl (.inr ⟨o, k.frz _ _ _ h⟩)
  · exact .inr h
theorem Kp.scR {K : PySem.W.Frag} {Z : Zt} {H H' : Hp} {a : Addr} {xs : List V} (k : Kp Z H H') (h : ScR K H a xs) : ScR K H' a xs := by
  rcases h with ⟨o, h⟩ | h
  · exact .inl ⟨o, k.frz _ _ _ h⟩
  · exact .inr h
mutual
theorem Rp.mono {K : PySem.W.Frag} {Z : Zt} {H H' : Hp} (k : Kp Z H H') : ∀ {d : D} {v : V}, Rp K H d v → Rp K H' d v
  | _, _, .non => .non
  | _, _, .bl b => .bl b
  | _, _, .int i => .int i
  | _, _, .str x => .str x
  | _, _, .ref a => .ref a
  | _, _, .ty n => .ty n
  | _, _, .tup h r => .tup (k.sqT h) (Rps.mono k r)
  | _, _, .rol h r => .rol (k.scR h) (Rps.mono k r)
theorem Rps.mono {K : PySem.W.Frag} {Z : Zt} {H H' : Hp} (k : Kp Z H H') : ∀ {ds : List D} {vs : List V}, Rps K H ds vs → Rps K H' ds vs
  | _, _, .nil => .nil
  | _, _, .cons h r => .cons (Rp.mono k h) (Rps.mono k r)
end
section
variable {K : PySem.W.Frag} {H : Hp}
theorem Rps.len : ∀ {ds : List D} {vs : List V}, Rps K H ds vs → ds.length = vs.length
  | _, _, .nil => rfl
  | _, _, .cons _ r => by simp [Rps.len r]
theorem Rps.at : ∀ {ds : List D} {vs : List V} {i : Nat} {d : D}, Rps K H ds vs → ds[i]? = some d → ∃ v, vs[i]? = some v ∧ Rp K H d v
  | _, _, _, _, .nil, e => by simp at e
  | _, _, 0, _, .cons r _, e => by simp at e; subst e; exact ⟨_, rfl, r⟩
  | _, _, i + 1, d, .cons _ q, e => by
    obtain ⟨v, h1, h2⟩ := Rps.at (i := i) (d := d) q (by simpa using e)
    exact ⟨v, by simpa using h1, h2⟩
theorem Rps.append : ∀ {ds es : List D} {vs ws : List V}, Rps K H ds vs → Rps K H es ws → Rps K H (ds ++ es) (vs ++ ws)
  | _, _, _, _, .nil, s => s
  | _, _, _, _, .cons r t, s => .cons r (Rps.append t s)
theorem Rps.take : ∀ {ds : List D} {vs : List V} (n : Nat), Rps K H ds vs → Rps K H (ds.take n) (vs.take n)
  | _, _, 0, _ => .nil
  | _, _, _ + 1, .nil => .nil
  | _, _, n + 1, .cons r t => .cons r (Rps.take n t)
theorem Rps.drop : ∀ {ds : List D} {vs : List V} (n : Nat), Rps K H ds vs → Rps K H (ds.drop n) (vs.drop n)
  | _, _, 0, r => r
  | _, _, _ + 1, .nil => .nil
  | _, _, n + 1, .cons _ t => Rps.drop n t
theorem Rps.set {d : D} {v : V} (r : Rp K H d v) : ∀ {ds : List D} {vs : List V} (i : Nat), Rps K H ds vs → Rps K H (ds.set i d) (vs.set i v)
  | _, _, _, .nil => .nil
  | _, _, 0, .cons _ t => .cons r t
  | _, _, i + 1, .cons q t => .cons q (Rps.set r i t)
theorem Rps.snoc_inv : ∀ {ds : List D} {d : D} {vs : List V}, Rps K H (ds ++ [d]) vs → ∃ ws w, vs = ws ++ [w] ∧ Rps K H ds ws ∧ Rp K H d w
  | [], d, _, .cons r .nil => ⟨[], _, rfl, .nil, r⟩
  | _ :: ds, d, _, .cons r q => by
    obtain ⟨ws, w, rfl, a, b⟩ := Rps.snoc_inv (ds := ds) q
    exact ⟨_ :: ws, w, rfl, .cons r a, b⟩
theorem Rps.ints : ∀ (ns : List Int), Rps K H (ns.map D.int) (ns.map V.int)
  | [] => .nil
  | n :: ns => .cons (.int n) (Rps.ints ns)
end
/-- what stands at an address -/
def OR (K : PySem.W.Frag) (H : Hp) (a : Addr) : O → Prop
  | .lst ds => ∃ vs, H a = some (.lst vs) ∧ Rps K H ds vs
  | .dic kvs => ∃ ws, H a = some (.dK ws) ∧ Paired (fun (p : Key × D) (q : Key × V) => p.1 = q.1 ∧ Rp K H p.2 q.2) kvs ws
  | .exc C => H a = some (.ext (ExcOf a C))
/-- the heap bears S; the hidden ones Z are there, and not in S -/
structure Rl (K : PySem.W.Frag) (Z : Zt) (S : Hp3) (H : Hp) : Prop where
  obj : ∀ a o, S a = some o → OR K H a o
  hid : ∀ a, Z a → S a = none ∧ H a ≠ none
  old : Kp Z Z.base H
theorem OR.there {K : PySem.W.Frag} {H : Hp} {a : Addr} {o : O} (h : OR K H a o) : H a ≠ none := by
  cases o with
  | lst ds => obtain ⟨vs, e, _⟩ := h; rw [e]; simp
  | dic ds => obtain ⟨vs, e, _⟩ := h; rw [e]; simp
  | exc C => have e : H a = _ := h; rw [e]; simp
theorem OR.nofrz {K : PySem.W.Frag} {H : Hp} {a : Addr} {o : O} (h : OR K H a o) : (∀ xs, H a ≠ some (.tup xs)) ∧ ∀ q u, H a ≠ some (.frz q u) := by
  cases o with
  | lst ds => obtain ⟨vs, e, _⟩ := h; rw [e]; exact ⟨fun _ z => (nomatch z), fun _ _ z => (nomatch z)⟩
  | dic ds => obtain ⟨vs, e, _⟩ := h; rw [e]; exact ⟨fun _ z => (nomatch z), fun _ _ z => (nomatch z)⟩
  | exc C => have e : H a = _ := h; rw [e]; exact ⟨fun _ z => (nomatch z), fun _ _ z => (nomatch z)⟩
theorem Rl.fresh {K : PySem.W.Frag} {Z : Zt} {S : Hp3} {H : Hp} {p : Addr} (r : Rl K Z S H) (h : H p = none) : S p = none ∧ ¬ Z p := by
  constructor
  · cases e : S p with
    | none => rfl
    | some o => exact absurd h (r.obj p o e).there
  · exact fun z => (r.hid p z).2 h
/-- a write at an address of S, or at a new one -/
theorem Kp.new {Z : Zt} {H : Hp} {p : Addr} {o : HO} (h : H p = none) (hz : ¬ Z p) : Kp Z H (upd H p o) :=
  ⟨fun b xs e => by rw [upd_ne (ne_of_none e h)]; exact e, fun b q u e => by rw [upd_ne (ne_of_none e h)]; exact e, fun b z => upd_ne fun e => hz (e ▸ z)⟩
theorem Kp.at {K : PySem.W.Frag} {Z : Zt} {S : Hp3} {H : Hp} {p : Addr} {o : O} {q : HO} (r : Rl K Z S H) (h : S p = some o) : Kp Z H (upd H p q) := by
  have n := (r.obj p o h).nofrz
  refine ⟨fun b xs e => ?_, fun b q u e => ?_, fun b z => ?_⟩
  · rw [upd_ne]; exact e
    rintro rfl; exact n.1 _ e
  · rw [upd_ne]; exact e
    rintro rfl; exact n.2 _ _ e
  · rw [upd_ne]
    rintro rfl
    rw [(r.hid _ z).1] at h
    cases h
theorem OR.keep {K : PySem.W.Frag} {Z : Zt} {H H' : Hp} {a : Addr} {o : O} (h : OR K H a o) (k : Kp Z H H') (e : H' a = H a) : OR K H' a o := by
  cases o with
  | lst ds => obtain ⟨vs, h1, h2⟩ := h; exact ⟨vs, e.trans h1, h2.mono k⟩
  | dic ds => obtain ⟨vs, h1, h2⟩ := h; exact ⟨vs, e.trans h1, Paired.mapP h2 fun p q z => ⟨z.1, z.2.mono k⟩⟩
  | exc C => exact e.trans h
theorem Rl.put {K : PySem.W.Frag} {Z : Zt} {S : Hp3} {H : Hp} {p : Addr} {o : O} {q : HO} (r : Rl K Z S H) (k : Kp Z H (upd H p q)) (hz : ¬ Z p) (h : OR K (upd H p q) p o) : Rl K Z (up S p o) (upd H p q) := by
  refine ⟨fun b u e => ?_, fun b z => ?_, r.old.trans k⟩
  · by_cases hb : b = p
    · subst hb
      rw [up_same] at e
      cases e
      exact h
    · rw [up_ne hb] at e
      exact (r.obj b u e).keep k (upd_ne hb)
  · have hb : b ≠ p := fun e => hz (e ▸ z)
    rw [up_ne hb, upd_ne hb]
    exact r.hid b z
theorem Rl.notZ {K : PySem.W.Frag} {Z : Zt} {S : Hp3} {H : Hp} {p : Addr} {o : O} (r : Rl K Z S H) (h : S p = some o) : ¬ Z p := fun z => by
  rw [(r.hid _ z).1] at h
  cases h
/-- something untracked is laid -/
theorem Rl.lay {K : PySem.W.Frag} {Z : Zt} {S : Hp3} {H : Hp} {p : Addr} {q : HO} (r : Rl K Z S H) (h : H p = none) : Rl K Z S (upd H p q) := by
  obtain ⟨hs, hz⟩ := r.fresh h
  refine ⟨fun b u e => (r.obj b u e).keep (Kp.new h hz) (upd_ne (ne3 e hs)), fun b z => ?_, r.old.trans (Kp.new h hz)⟩
  have hb : b ≠ p := fun e => hz (e ▸ z)
  rw [upd_ne hb]
  exact r.hid b z
/-- locals -/
def RO (K : PySem.W.Frag) (H : Hp) (o : Option D) (p : Option V) : Prop := ∀ d, o = some d → ∃ v, p = some v ∧ Rp K H d v
abbrev SR (K : PySem.W.Frag) (H : Hp) : St3 → L2.St → Prop := Paired (RO K H)
theorem RO.mono {K : PySem.W.Frag} {Z : Zt} {H H' : Hp} (k : Kp Z H H') {o : Option D} {p : Option V} (h : RO K H o p) : RO K H' o p := fun d e => by
  obtain ⟨v, h1, h2⟩ := h d e
  exact ⟨v, h1, h2.mono k⟩
theorem SR.mono {K : PySem.W.Frag} {Z : Zt} {H H' : Hp} (k : Kp Z H H') {σ : St3} {τ : L2.St} (h : SR K H σ τ) : SR K H' σ τ := Paired.mapP h fun _ _ q => q.mono k
theorem SR.at {K : PySem.W.Frag} {H : Hp} : ∀ {σ : St3} {τ : L2.St} {i : Nat} {d : D}, SR K H σ τ → σ[i]? = some (some d) → ∃ v, τ[i]? = some (some v) ∧ Rp K H d v
  | _, _, _, _, .nil, e => by simp at e
  | _, _, 0, _, .cons r _, e => by
    simp at e
    obtain ⟨v, h1, h2⟩ := r _ e
    exact ⟨v, by simp [h1], h2⟩
  | _, _, i + 1, d, .cons _ q, e => by
    obtain ⟨v, h1, h2⟩ := SR.at (i := i) (d := d) q (by simpa using e)
    exact ⟨v, by simpa using h1, h2⟩
theorem SR.set {K : PySem.W.Frag} {H : Hp} {d : D} {v : V} (r : Rp K H d v) : ∀ {σ : St3} {τ : L2.St} (i : Nat), SR K H σ τ → SR K H (σ.set i (some d)) (τ.set i (some v))
  | _, _, _, .nil => .nil
  | _, _, 0, .cons _ t => .cons (fun e he => by cases he; exact ⟨v, rfl, r⟩) t
  | _, _, i + 1, .cons q t => .cons q (SR.set r i t)
theorem SR.ofRps {K : PySem.W.Frag} {H : Hp} : ∀ {ds : List D} {vs : List V}, Rps K H ds vs → SR K H (ds.map some) (vs.map some)
  | _, _, .nil => .nil
  | _, _, .cons r t => .cons (fun e he => by cases he; exact ⟨_, rfl, r⟩) (SR.ofRps t)
theorem SR.nones {K : PySem.W.Frag} {H : Hp} : ∀ n : Nat, SR K H (List.replicate n none) (List.replicate n none)
  | 0 => .nil
  | n + 1 => .cons (fun d e => by cases e) (SR.nones n)
theorem paired_append {α β : Type} {F : α → β → Prop} : ∀ {a b : List α} {c d : List β}, Paired F a c → Paired F b d → Paired F (a ++ b) (c ++ d)
  | _, _, _, _, .nil, s => s
  | _, _, _, _, .cons r t, s => .cons r (paired_append t s)
/-! ### the judgements -/
abbrev TE3 := St3 → Hp3 → K3 → Prop
abbrev TT3 := St3 → Hp3 → (Bool → Hp3 → Prop) → Prop
abbrev TA3 := St3 → Hp3 → (List D → Hp3 → Prop) → Prop
structure Ends3 where
  nx : St3 → Hp3 → Prop
  rt : K3
  bk : St3 → Hp3 → Prop := fun _ _ => False
  ct : St3 → Hp3 → Prop := fun _ _ => False
abbrev TS3 := Ends3 → St3 → Hp3 → Prop
section
variable (K : PySem.W.Frag) (Z : Zt)
/-- a wish about a value, carried down -/
def CK (H : Hp) (Q3 : K3) (Q : VK) : Prop := ∀ d S v H', Kp Z H H' → Rp K H' d v → Rl K Z S H' → Q3 d S → Q v H'
def CT (H : Hp) (Q3 : Bool → Hp3 → Prop) (Q : Bool → Hp → Prop) : Prop := ∀ b S H', Kp Z H H' → Rl K Z S H' → Q3 b S → Q b H'
def CA (H : Hp) (Q3 : List D → Hp3 → Prop) (Q : List V → Hp → Prop) : Prop := ∀ ds S vs H', Kp Z H H' → Rps K H' ds vs → Rl K Z S H' → Q3 ds S → Q vs H'
def CS (H : Hp) (Q3 : St3 → Hp3 → Prop) (Q : L2.St → Hp → Prop) : Prop := ∀ σ S τ H', Kp Z H H' → SR K H' σ τ → Rl K Z S H' → Q3 σ S → Q τ H'
structure CD (H : Hp) (D3 : Ends3) (D : Ends) : Prop where
  nx : CS K Z H D3.nx D.nx
  bk : CS K Z H D3.bk D.bk
  ct : CS K Z H D3.ct D.ct
  rt : CK K Z H D3.rt D.rt
def lE (t : TE3) : TE := fun τ H Q => ∃ σ S Q3, SR K H σ τ ∧ Rl K Z S H ∧ t σ S Q3 ∧ CK K Z H Q3 Q
def lT (t : TT3) : TT := fun τ H Q => ∃ σ S Q3, SR K H σ τ ∧ Rl K Z S H ∧ t σ S Q3 ∧ CT K Z H Q3 Q
def lA (t : TA3) : TA := fun τ H Q => ∃ σ S Q3, SR K H σ τ ∧ Rl K Z S H ∧ t σ S Q3 ∧ CA K Z H Q3 Q
def lS (t : TS3) : TS := fun D τ H => ∃ D3 σ S, SR K H σ τ ∧ Rl K Z S H ∧ t D3 σ S ∧ CD K Z H D3 D
end
variable {K : PySem.W.Frag} {Z : Zt}
theorem CK.mono {H H' : Hp} {Q3 : K3} {Q : VK} (k : Kp Z H H') (h : CK K Z H Q3 Q) : CK K Z H' Q3 Q := fun d S v H2 k2 => h d S v H2 (k.trans k2)
theorem CT.mono {H H' : Hp} {Q3 : Bool → Hp3 → Prop} {Q : Bool → Hp → Prop} (k : Kp Z H H') (h : CT K Z H Q3 Q) : CT K Z H' Q3 Q := fun d S H2 k2 => h d S H2 (k.trans k2)
theorem CS.mono {H H' : Hp} {Q3 : St3 → Hp3 → Prop} {Q : L2.St → Hp → Prop} (k : Kp Z H H') (h : CS K Z H Q3 Q) : CS K Z H' Q3 Q := fun d S v H2 k2 => h d S v H2 (k.trans k2)
theorem CD.mono {H H' : Hp} {D3 : Ends3} {D : Ends} (k : Kp Z H H') (h : CD K Z H D3 D) : CD K Z H' D3 D := ⟨h.nx.mono k, h.bk.mono k, h.ct.mono k, h.rt.mono k⟩
/-- an exception in flight: its object, its class, its traceback -/
structure FlyT (h : Heap) (a C T : Addr) : Prop where
  ne : T ≠ a
  exc : ∃ oe vs a0, h.get? a = some oe ∧ oe.cls = .ref C ∧ oe.data = .fields vs ∧ vs[0]? = some a0 ∧ vs[1]? = some (.ref T)
  tb : ∃ oT ts, h.get? T = some oT ∧ oT.data = .fields ts ∧ ts[3]? = some .none
/-- an exception behind a call -/
def CX1 (P : Program) (w : World) : CXT := fun outer H s E e s' => ∃ (a C T : Addr) (H' : Hp), e = .ref a ∧ s'.os = s.os ∧ AllBare s'.gens ∧ Un (frs outer) [] H H' s.heap s'.heap ∧ HOk P w H' s'.heap ∧
  FlyT s'.heap a C T ∧ H' a = none ∧ H' T = none ∧ s.heap.get? a = none ∧ s.heap.get? T = none ∧ E (.ref C) (some a) H'
def PassesAt (CX : CXT) (X : Cx) (E : XK) (τ : L2.St) : Prop := ∀ (pins : List (Addr × Obj)) (H : Hp) (s : Shared) (e : Value) (s' : Shared), Inv X pins τ H s → CX X.stack H s E e s' → X.xe e s'
/-- an exception just made -/
def RaisesAt (X : Cx) (E : XK) (τ : L2.St) : Prop := ∀ (pins : List (Addr × Obj)) (H : Hp) (s s3 : Shared) (e C : Addr) (args : List Value), Inv X pins τ H s → Heap.MadeExcOf s.heap s3.heap e (.ref C) args → s3.os = s.os → s3.gens = s.gens → E (.ref C) (some e) H → X.xe (.ref e) s3
theorem pass1 {P : Program} {w : World} {X : Cx} {τ : L2.St} : PassesAt (CX1 P w) X E0 τ := fun _ _ _ _ _ _ h => by
  obtain ⟨a, C, T, H', _, _, _, _, _, _, _, _, _, _, z⟩ := h
  exact z.elim
abbrev NoX : W3T := fun _ _ _ _ => False
def CE3 (K : PySem.W.Frag) (Z : Zt) (H : Hp) (W3 : X3) (E : XK) : Prop := ∀ C a S H', Kp Z H H' → Rl K Z S H' → H' a = none → W3 C a S → E (.ref C) (some a) H'
/-- .. as a context takes it -/
structure ZX (X : Cx) (W3 : W3T) where
  z : Zt
  E : L2.St → XK
  pass : ∀ τ, PassesAt (CX1 X.prog X.w) X (E τ) τ
  rz : ∀ τ, RaisesAt X (E τ) τ
  ce : ∀ σ τ C a S H, SR X.K H σ τ → Rl X.K z S H → H a = none → W3 σ C a S → E τ (.ref C) (some a) H
def ZX.no (X : Cx) (z : Zt) : ZX X NoX := ⟨z, fun _ => E0, fun _ => pass1, fun _ _ _ _ _ _ _ _ _ _ _ _ z => z.elim, fun _ _ _ _ _ _ _ _ _ z => z.elim⟩
def PE3 (X : Cx) (W3 : W3T) (e : Expr) (t : TE3) : Prop := ∀ Z : ZX X W3, PE X e (lE X.K Z.z t)
def PT3 (X : Cx) (W3 : W3T) (e : Expr) (t : TT3) : Prop := ∀ Z : ZX X W3, PT X e (lT X.K Z.z t)
def PW3 (X : Cx) (W3 : W3T) (e : Expr) (t : TT3) : Prop := ∀ Z : ZX X W3, PW X e (lT X.K Z.z t)
def PA3 (X : Cx) (W3 : W3T) (es : List Expr) (t : TA3) : Prop := ∀ Z : ZX X W3, PA X es (lA X.K Z.z t)
def PS3 (X : Cx) (W3 : W3T) (st : Stmt) (t : TS3) : Prop := ∀ Z : ZX X W3, PS X st (lS X.K Z.z t)
def PSs3 (X : Cx) (W3 : W3T) (st : List Stmt) (t : TS3) : Prop := ∀ Z : ZX X W3, PSs X st (lS X.K Z.z t)
theorem PE.imp {X : Cx} {e : Expr} {t u : TE} (h : PE X e t) (f : ∀ σ H Q, u σ H Q → t σ H Q) : PE X e u := fun pins s σ H Q I q => h pins s σ H Q I (f _ _ _ q)
theorem PT.imp {X : Cx} {e : Expr} {t u : TT} (h : PT X e t) (f : ∀ σ H Q, u σ H Q → t σ H Q) : PT X e u := fun pins s σ H Q I q => h pins s σ H Q I (f _ _ _ q)
theorem PW.imp {X : Cx} {e : Expr} {t u : TT} (h : PW X e t) (f : ∀ σ H Q, u σ H Q → t σ H Q) : PW X e u := fun w pins s σ H Q I q => h w pins s σ H Q I (f _ _ _ q)
theorem PA.imp {X : Cx} {e : List Expr} {t u : TA} (h : PA X e t) (f : ∀ σ H Q, u σ H Q → t σ H Q) : PA X e u := fun p pins s σ H Q I q => h p pins s σ H Q I (f _ _ _ q)
theorem PS.imp {X : Cx} {st : Stmt} {t u : TS} (h : PS X st t) (f : ∀ D σ H, u D σ H → t D σ H) : PS X st u := fun pins s σ H D I q => h pins s σ H D I (f _ _ _ q)
theorem PSs.imp {X : Cx} {st : List Stmt} {t u : TS} (h : PSs X st t) (f : ∀ D σ H, u D σ H → t D σ H) : PSs X st u := fun pins s σ H D I q => h pins s σ H D I (f _ _ _ q)
end E3

namespace E3
open PySem PySem.Spec PyProof.Rows L2 EE
/-! ### rules: expressions -/
section
variable {X : Cx} {W3 : W3T} {a b c e : Expr} {es : List Expr} {pos : Pos}
def v3 (i : Nat) : TE3 := fun σ S Q => ∃ d, σ[i]? = some (some d) ∧ Q d S
def c3 (d : D) : TE3 := fun _ S Q => Q d S
theorem e_var {i : Nat} (h : PE X e (tVar i)) : PE3 X W3 e (v3 i) := fun Z => PE.imp h fun τ H Q ⟨σ, S, Q3, hs, hr, ⟨d, e, q⟩, c⟩ => by
  obtain ⟨v, h1, h2⟩ := hs.at e
  exact ⟨v, h1, c d S v H (Kp.refl _ _) h2 hr q⟩
theorem e_v (i : Nat) {x : Str} {pos : Pos} (hN : X.N[i]? = some x := by rfl) (hv : Vis X.env.scope x := by first | exact Or.inl rfl | exact Or.inr (Or.inl rfl) | exact Or.inr (Or.inr rfl)) (hd : (x == ("__debug__" : Str)) = false := by decide)
    (hcd : (x == ("__classdict__" : Str)) = false := by decide) : PE3 X W3 (.Name x pos) (v3 i) := e_var (pe_var hN hv hd hcd)
theorem e_con {v : V} {d : D} (h : PE X e (tC v)) (r : ∀ H, Rp X.K H d v) : PE3 X W3 e (c3 d) := fun Z => PE.imp h fun τ H Q ⟨σ, S, Q3, hs, hr, q, c⟩ => c d S v H (Kp.refl _ _) (r H) hr q
theorem e_int {i j} : PE3 X W3 (.Constant (.int i) j pos) (c3 (.int i)) := e_con pe_int fun _ => .int _
theorem e_bl {b j} : PE3 X W3 (.Constant (.bool b) j pos) (c3 (.bl b)) := e_con pe_bl fun _ => .bl _
theorem e_non {j} : PE3 X W3 (.Constant .none j pos) (c3 .non) := e_con pe_non fun _ => .non
theorem e_str {x j} : PE3 X W3 (.Constant (.str x) j pos) (c3 (.str x)) := e_con pe_str fun _ => .str _
theorem e_bltn {x : Str} {n : String} (hg : Gl X x) (hm : X.mg x = none) (hv : bootBuiltins x = some (.type n)) (hn : x ≠ "__name__" := by decide) (hd : (x == ("__debug__" : Str)) = false := by decide) : PE3 X W3 (.Name x pos) (c3 (.ty n)) :=
  e_con (pe_bltn (v := .ty n) hg hm hv rfl hn hd) fun _ => .ty _
/-! two values -/
abbrev R3 := D → D → Hp3 → K3 → Prop
def Dn2 (K : PySem.W.Frag) (r3 : R3) (r : R2) : Prop := ∀ (Z : Zt) x y S Q3 v w H Q, Rp K H x v → Rp K H y w → Rl K Z S H → r3 x y S Q3 → CK K Z H Q3 Q → r v w H Q
def o3 (r : R3) (ta tb : TE3) : TE3 := fun σ S Q => ta σ S fun x S1 => tb σ S1 fun y S2 => r x y S2 Q
def test3 (t : TE3) : TT3 := fun σ S Q => t σ S fun x S' => ∃ k, x = .bl k ∧ Q k S'
variable {ta tb tc : TE3} {tA tB : TT3} {t : TA3}
theorem op_down {K : PySem.W.Frag} {Z : Zt} {r3 : R3} {r : R2} (hd : Dn2 K r3 r) {τ : L2.St} {H : Hp} {Q : VK} (h : lE K Z (o3 r3 ta tb) τ H Q) : tOp r (lE K Z ta) (lE K Z tb) τ H Q := by
  obtain ⟨σ, S, Q3, hs, hr, ht, hc⟩ := h
  refine ⟨σ, S, _, hs, hr, ht, fun x S1 v H1 k1 r1 l1 q1 => ?_⟩
  refine ⟨σ, S1, _, hs.mono k1, l1, q1, fun y S2 w H2 k2 r2 l2 q2 => ?_⟩
  exact hd Z x y S2 Q3 v w H2 Q (r1.mono k2) r2 l2 q2 (hc.mono (k1.trans k2))
theorem e_op {op : Operator} {r3 : R3} {r : R2} (ho : OpR X (binaryOp op) r) (hd : Dn2 X.K r3 r) (ha : PE3 X W3 a ta) (hb : PE3 X W3 b tb) : PE3 X W3 (.BinOp a op b pos) (o3 r3 ta tb) :=
  fun Z => PE.imp (pe_op ho (ha Z) (hb Z)) fun _ _ _ h => op_down hd h
theorem e_cmp {op : CmpOp} {r3 : R3} {r : R2} (ho : OpR X (compareOp op) r) (hd : Dn2 X.K r3 r) (ha : PE3 X W3 a ta) (hb : PE3 X W3 b tb) (hm : behindInMarks op b = false) : PE3 X W3 (.Compare a [op] [b] pos) (o3 r3 ta tb) :=
  fun Z => PE.imp (pe_cmpR ho (ha Z) (hb Z) hm) fun _ _ _ h => op_down hd h
theorem test_down {K : PySem.W.Frag} {Z : Zt} {t3 : TE3} {t2 : TE} (hd : ∀ τ H Q, lE K Z t3 τ H Q → t2 τ H Q) {τ : L2.St} {H : Hp} {Q : Bool → Hp → Prop} (h : lT K Z (test3 t3) τ H Q) : tTest t2 τ H Q := by
  obtain ⟨σ, S, Q3, hs, hr, ht, hc⟩ := h
  refine hd τ H _ ⟨σ, S, _, hs, hr, ht, fun x S1 v H1 k1 r1 l1 q1 => ?_⟩
  obtain ⟨k, rfl, q⟩ := q1
  cases r1
  exact ⟨k, rfl, hc k S1 H1 k1 l1 q⟩
theorem t_cmp {op : CmpOp} {r3 : R3} {r : R2} (ho : OpR X (compareOp op) r) (hd : Dn2 X.K r3 r) (ha : PE3 X W3 a ta) (hb : PE3 X W3 b tb) (hm : behindInMarks op b = false) : PT3 X W3 (.Compare a [op] [b] pos) (test3 (o3 r3 ta tb)) :=
  fun Z => PT.imp (pt_cmpR ho (ha Z) (hb Z) hm) fun _ _ _ h => test_down (fun _ _ _ h => op_down hd h) h
theorem e_ix {r3 : R3} {r : R2} (ho : IxR X r) (hd : Dn2 X.K r3 r) (ha : PE3 X W3 a ta) (hb : PE3 X W3 b tb) (hs : PlainIx b) : PE3 X W3 (.Subscript a b pos) (o3 r3 ta tb) :=
  fun Z => PE.imp (pe_ix ho (ha Z) (hb Z) hs) fun _ _ _ h => op_down hd h
theorem t_val (h : PE3 X W3 e ta) (he : ∀ whole, isTrue e X.env whole = (do let v ← whole; standAt e.pos; holding [v] (truthy v)) := by intro _; rfl) : PT3 X W3 e (test3 ta) :=
  fun Z => PT.imp (pt_val (h Z) he) fun _ _ _ q => test_down (t2 := lE X.K Z.z ta) (fun _ _ _ z => z) q
def u3 (r : D → Hp3 → K3 → Prop) (ta : TE3) : TE3 := fun σ S Q => ta σ S fun x S1 => r x S1 Q
theorem e_neg (ha : PE3 X W3 a ta) : PE3 X W3 (.UnaryOp .USub a pos) (u3 (fun x S Q => ∃ i, x = .int i ∧ Q (.int (-i)) S) ta) := fun Z => PE.imp (pe_un un_neg (ha Z)) fun τ H Q ⟨σ, S, Q3, hs, hr, ht, hc⟩ => by
  refine ⟨σ, S, _, hs, hr, ht, fun x S1 v H1 k1 r1 l1 q1 => ?_⟩
  obtain ⟨i, rfl, q⟩ := q1
  cases r1
  exact ⟨i, rfl, hc _ S1 _ H1 k1 (.int _) l1 q⟩
/-! and, or, not, if-else -/
def and3 (t u : TT3) : TT3 := fun σ S Q => t σ S fun c S1 => if c = true then u σ S1 Q else Q false S1
def or3 (t u : TT3) : TT3 := fun σ S Q => t σ S fun c S1 => if c = true then Q true S1 else u σ S1 Q
def not3 (t : TT3) : TT3 := fun σ S Q => t σ S fun c S1 => Q (!c) S1
def andv3 (ta tb : TE3) : TE3 := fun σ S Q => ta σ S fun x S1 => ∃ c, x = .bl c ∧ if c = true then tb σ S1 Q else Q (.bl false) S1
def if3 (t : TT3) (ta tb : TE3) : TE3 := fun σ S Q => t σ S fun c S1 => if c = true then ta σ S1 Q else tb σ S1 Q
variable {rest : List Expr}
theorem w_and1 (ha : PT3 X W3 a tA) : PW3 X W3 (.BoolOp .And [a] pos) tA := fun Z => pw_and1 (ha Z)
theorem w_or1 (ha : PT3 X W3 a tA) : PW3 X W3 (.BoolOp .Or [a] pos) tA := fun Z => pw_or1 (ha Z)
theorem w_and (ha : PT3 X W3 a tA) (hb : PW3 X W3 (.BoolOp .And (b :: rest) pos) tB) : PW3 X W3 (.BoolOp .And (a :: b :: rest) pos) (and3 tA tB) := fun Z => PW.imp (pw_and (ha Z) (hb Z)) fun τ H Q ⟨σ, S, Q3, hs, hr, ht, hc⟩ => by
  refine ⟨σ, S, _, hs, hr, ht, fun c S1 H1 k1 l1 q1 => ?_⟩
  cases c with
  | true => exact ⟨σ, S1, Q3, hs.mono k1, l1, q1, hc.mono k1⟩
  | false => exact hc false S1 H1 k1 l1 q1
theorem w_or (ha : PT3 X W3 a tA) (hb : PW3 X W3 (.BoolOp .Or (b :: rest) pos) tB) : PW3 X W3 (.BoolOp .Or (a :: b :: rest) pos) (or3 tA tB) := fun Z => PW.imp (pw_or (ha Z) (hb Z)) fun τ H Q ⟨σ, S, Q3, hs, hr, ht, hc⟩ => by
  refine ⟨σ, S, _, hs, hr, ht, fun c S1 H1 k1 l1 q1 => ?_⟩
  cases c with
  | true => exact hc true S1 H1 k1 l1 q1
  | false => exact ⟨σ, S1, Q3, hs.mono k1, l1, q1, hc.mono k1⟩
theorem PW3.pt (h : PW3 X W3 e tA) : PT3 X W3 e tA := fun Z => (h Z).pt
theorem t_not (ha : PT3 X W3 a tA) : PT3 X W3 (.UnaryOp .Not a pos) (not3 tA) := fun Z => PT.imp (pt_not (ha Z)) fun τ H Q ⟨σ, S, Q3, hs, hr, ht, hc⟩ => ⟨σ, S, _, hs, hr, ht, fun c S1 H1 k1 l1 q1 => hc (!c) S1 H1 k1 l1 q1⟩
theorem e_one {op} (h : PE3 X W3 a ta) : PE3 X W3 (.BoolOp op [a] pos) ta := fun Z => pe_one (h Z)
theorem e_and (ha : PE3 X W3 a ta) (hb : PE3 X W3 (.BoolOp .And (b :: rest) pos) tb) : PE3 X W3 (.BoolOp .And (a :: b :: rest) pos) (andv3 ta tb) := fun Z => PE.imp (pe_and (ha Z) (hb Z)) fun τ H Q ⟨σ, S, Q3, hs, hr, ht, hc⟩ => by
  refine ⟨σ, S, _, hs, hr, ht, fun x S1 v H1 k1 r1 l1 q1 => ?_⟩
  obtain ⟨c, rfl, q1⟩ := q1
  cases r1
  refine ⟨c, rfl, ?_⟩
  cases c with
  | true => exact ⟨σ, S1, Q3, hs.mono k1, l1, q1, hc.mono k1⟩
  | false => exact hc _ S1 _ H1 k1 (.bl _) l1 q1
theorem e_ifExp (hc : PT3 X W3 c tA) (ha : PE3 X W3 a ta) (hb : PE3 X W3 b tb) : PE3 X W3 (.IfExp c a b pos) (if3 tA ta tb) := fun Z => PE.imp (pe_ifExp (hc Z) (ha Z) (hb Z)) fun τ H Q ⟨σ, S, Q3, hs, hr, ht, hc⟩ => by
  refine ⟨σ, S, _, hs, hr, ht, fun c S1 H1 k1 l1 q1 => ?_⟩
  cases c with
  | true => exact ⟨σ, S1, Q3, hs.mono k1, l1, q1, hc.mono k1⟩
  | false => exact ⟨σ, S1, Q3, hs.mono k1, l1, q1, hc.mono k1⟩
/-! truth -/
def IsL (S : Hp3) (x : D) (ds : List D) : Prop := (∃ a, x = .ref a ∧ S a = some (.lst ds)) ∨ x = .rol ds
theorem IsL.down {K : PySem.W.Frag} {Z : Zt} {S : Hp3} {H : Hp} {x : D} {ds : List D} {v : V} (h : IsL S x ds) (r : Rp K H x v) (l : Rl K Z S H) : ∃ a vs, v = .ref a ∧ SqL K H a vs ∧ Rps K H ds vs := by
  rcases h with ⟨a, rfl, e⟩ | rfl
  · cases r
    obtain ⟨vs, h1, h2⟩ := l.obj a _ e
    exact ⟨a, vs, rfl, SqL.of h1, h2⟩
  · cases r with
    | rol h1 h2 => exact ⟨_, _, rfl, h1.sq, h2⟩
def Tru (S : Hp3) : D → Bool → Prop
  | .non, k => k = false
  | .bl b, k => k = b
  | .int i, k => k = (i != 0)
  | .str y, k => y.length ≤ sizeLine ∧ k = ((y.length : Int) != 0)
  | .tup ds, k => k = !ds.isEmpty
  | .rol ds, k => k = !ds.isEmpty
  | .ref a, k => (∃ ds, S a = some (.lst ds) ∧ k = !ds.isEmpty) ∨ ∃ kvs, S a = some (.dic kvs) ∧ k = !kvs.isEmpty
  | .ty _, _ => False
theorem Rps.empty {K : PySem.W.Frag} {H : Hp} {ds : List D} {vs : List V} (r : Rps K H ds vs) : ds.isEmpty = vs.isEmpty := by cases r <;> rfl
theorem Tru.down {K : PySem.W.Frag} {Z : Zt} {S : Hp3} {H : Hp} {x : D} {v : V} {k : Bool} (h : Tru S x k) (r : Rp K H x v) (l : Rl K Z S H) : TruV K v H k := by
  cases r with
  | non => exact h
  | bl b => exact h
  | int i => exact h
  | str x => exact h
  | ty n => exact h
  | tup h1 h2 => exact .inr (.inl ⟨_, h1, by rw [← h2.empty]; exact h⟩)
  | rol h1 h2 => exact .inl ⟨_, h1.sq, by rw [← h2.empty]; exact h⟩
  | ref a =>
    rcases h with ⟨ds, e, q⟩ | ⟨kvs, e, q⟩
    · obtain ⟨vs, h1, h2⟩ := l.obj a _ e
      exact .inl ⟨vs, SqL.of h1, by rw [← h2.empty]; exact q⟩
    · obtain ⟨ws, h1, h2⟩ := l.obj a _ e
      refine .inr (.inr ⟨ws, h1, ?_⟩)
      cases h2 <;> exact q
def truth3 (ta : TE3) : TT3 := fun σ S Q => ta σ S fun x S1 => ∃ k, Tru S1 x k ∧ Q k S1
theorem t_truth (ha : PE3 X W3 a ta) (he : ∀ whole, isTrue a X.env whole = (do let v ← whole; standAt a.pos; holding [v] (truthy v))) : PT3 X W3 a (truth3 ta) := fun Z => PT.imp (pt_truth (ha Z) he) fun τ H Q ⟨σ, S, Q3, hs, hr, ht, hc⟩ => by
  refine ⟨σ, S, _, hs, hr, ht, fun x S1 v H1 k1 r1 l1 q1 => ?_⟩
  obtain ⟨k, h, q⟩ := q1
  exact ⟨k, h.down r1 l1, hc k S1 H1 k1 l1 q⟩
/-! argument lists and displays -/
def nil3 : TA3 := fun _ S Q => Q [] S
def cons3 (ta : TE3) (tr : TA3) : TA3 := fun σ S Q => ta σ S fun x S1 => tr σ S1 fun xs S2 => Q (x :: xs) S2
theorem a_nil : PA3 X W3 [] nil3 := fun Z => PA.imp pa_nil fun τ H Q ⟨σ, S, Q3, hs, hr, ht, hc⟩ => hc [] S [] H (Kp.refl _ _) .nil hr ht
theorem a_cons (ha : PE3 X W3 e ta) (hr : PA3 X W3 es t) (hs : starEach (e :: es) X.env = (false, eval e X.env) :: starEach es X.env := by rfl) : PA3 X W3 (e :: es) (cons3 ta t) := fun Z => PA.imp (pa_cons (ha Z) (hr Z) hs) fun τ H Q ⟨σ, S, Q3, hs, hr, ht, hc⟩ => by
  refine ⟨σ, S, _, hs, hr, ht, fun x S1 v H1 k1 r1 l1 q1 => ?_⟩
  exact ⟨σ, S1, _, hs.mono k1, l1, q1, fun xs S2 vs H2 k2 r2 l2 q2 => hc (x :: xs) S2 (v :: vs) H2 (k1.trans k2) (.cons (r1.mono k2) r2) l2 q2⟩
/-- a new list -/
def newL (S : Hp3) (ds : List D) (Q : K3) : Prop := ∀ p, S p = none → Q (.ref p) (up S p (.lst ds))
theorem newL.down {K : PySem.W.Frag} {Z : Zt} {S : Hp3} {H : Hp} {ds : List D} {vs : List V} {Q3 : K3} {Q : VK} (h : newL S ds Q3) (r : Rps K H ds vs) (l : Rl K Z S H) (c : CK K Z H Q3 Q) : ∀ p, H p = none → Q (.ref p) (upd H p (.lst vs)) := fun p hp => by
  obtain ⟨hs, hz⟩ := l.fresh hp
  have k := Kp.new (o := HO.lst vs) hp hz
  exact c _ _ _ _ k (.ref p) (l.put (o := .lst ds) k hz ⟨vs, upd_same, r.mono k⟩) (h p hs)
theorem tup.down {K : PySem.W.Frag} {Z : Zt} {S : Hp3} {H : Hp} {ds : List D} {vs : List V} {Q3 : K3} {Q : VK} (h : Q3 (.tup ds) S) (r : Rps K H ds vs) (l : Rl K Z S H) (c : CK K Z H Q3 Q) : ∀ p, H p = none → Q (.ref p) (upd H p (.tup vs)) := fun p hp => by
  obtain ⟨hs, hz⟩ := l.fresh hp
  have k := Kp.new (o := HO.tup vs) hp hz
  exact c _ _ _ _ k (.tup (SqT.of upd_same) (r.mono k)) (l.lay hp) h
def tup3 (t : TA3) : TE3 := fun σ S Q => t σ S fun xs S1 => xs.length ≤ sizeLine ∧ Q (.tup xs) S1
def lst3 (t : TA3) : TE3 := fun σ S Q => t σ S fun xs S1 => xs.length ≤ sizeLine ∧ newL S1 xs Q
theorem e_tup {x1} (h : PA3 X W3 es t) : PE3 X W3 (.Tuple es x1 pos) (tup3 t) := fun Z => PE.imp (pe_tup (h Z)) fun τ H Q ⟨σ, S, Q3, hs, hr, ht, hc⟩ =>
  ⟨σ, S, _, hs, hr, ht, fun xs S1 vs H1 k1 r1 l1 ⟨z, q⟩ => ⟨by rw [← r1.len]; exact z, tup.down q r1 l1 (hc.mono k1)⟩⟩
theorem e_lst (h : PA3 X W3 es t) : PE3 X W3 (.List es pos) (lst3 t) := fun Z => PE.imp (pe_lst (h Z)) fun τ H Q ⟨σ, S, Q3, hs, hr, ht, hc⟩ =>
  ⟨σ, S, _, hs, hr, ht, fun xs S1 vs H1 k1 r1 l1 ⟨z, q⟩ => ⟨by rw [← r1.len]; exact z, newL.down q r1 l1 (hc.mono k1)⟩⟩
/-! calls of Python's own -/
def DnC (K : PySem.W.Frag) (r3 : List D → Hp3 → K3 → Prop) (r : List V → Hp → VK → Prop) : Prop := ∀ (Z : Zt) ds S Q3 vs H Q, Rps K H ds vs → Rl K Z S H → r3 ds S Q3 → CK K Z H Q3 Q → r vs H Q
def cb3 (r : List D → Hp3 → K3 → Prop) (t : TA3) : TE3 := fun σ S Q => t σ S fun vs S1 => r vs S1 Q
variable {x : Str} {p : Pos} {id T : String} {r3 : List D → Hp3 → K3 → Prop} {r : List V → Hp → VK → Prop}
theorem cb_down {K : PySem.W.Frag} {Z : Zt} (hd : DnC K r3 r) {τ : L2.St} {H : Hp} {Q : VK} (h : lE K Z (cb3 r3 t) τ H Q) : tCB r (lA K Z t) τ H Q := by
  obtain ⟨σ, S, Q3, hs, hr, ht, hc⟩ := h
  exact ⟨σ, S, _, hs, hr, ht, fun ds S1 vs H1 k1 r1 l1 q1 => hd Z ds S1 Q3 vs H1 Q r1 l1 q1 (hc.mono k1)⟩
theorem e_callB (hc : CallR X (.builtin id) r) (hd : DnC X.K r3 r) (hg : Gl X x) (hm : X.mg x = none) (hv : bootBuiltins x = some (.builtin id)) (ha : PA3 X W3 (e :: es) t) (hn : x ≠ "__name__" := by decide) (hdb : (x == ("__debug__" : Str)) = false := by decide)
    (he : starEach (e :: es) X.env = (false, eval e X.env) :: starEach es X.env := by rfl) (hpl : (backTo pos (starEach es X.env)).any (·.1) = false := by rfl) : PE3 X W3 (.Call (.Name x p) (e :: es) [] pos) (cb3 r3 t) :=
  fun Z => PE.imp (pe_callB hc hg hm hv (ha Z) hn hdb he hpl) fun _ _ _ h => cb_down hd h
theorem e_callTy (hc : CallR X (.type T) r) (hd : DnC X.K r3 r) (hg : Gl X x) (hm : X.mg x = none) (hv : bootBuiltins x = some (.type T)) (ha : PA3 X W3 (e :: es) t) (hn : x ≠ "__name__" := by decide) (hdb : (x == ("__debug__" : Str)) = false := by decide)
    (he : starEach (e :: es) X.env = (false, eval e X.env) :: starEach es X.env := by rfl) (hpl : (backTo pos (starEach es X.env)).any (·.1) = false := by rfl) : PE3 X W3 (.Call (.Name x p) (e :: es) [] pos) (cb3 r3 t) :=
  fun Z => PE.imp (pe_callTy hc hg hm hv (ha Z) hn hdb he hpl) fun _ _ _ h => cb_down hd h
/-! methods of Python's own values -/
def DnM (K : PySem.W.Frag) (r3 : D → List D → Hp3 → K3 → Prop) (r : V → List V → Hp → VK → Prop) : Prop := ∀ (Z : Zt) x ds S Q3 v vs H Q, Rp K H x v → Rps K H ds vs → Rl K Z S H → r3 x ds S Q3 → CK K Z H Q3 Q → r v vs H Q
def TyD (T : String) (x : D) (S : Hp3) : Prop := (T = "str" ∧ ∃ z, x = .str z) ∨ (T = "list" ∧ ∃ ds, IsL S x ds) ∨ (T = "dict" ∧ ∃ a kvs, x = .ref a ∧ S a = some (.dic kvs))
theorem TyD.down {K : PySem.W.Frag} {Z : Zt} {S : Hp3} {H : Hp} {T : String} {x : D} {v : V} (h : TyD T x S) (r : Rp K H x v) (l : Rl K Z S H) : tyV K T v H := by
  rcases h with ⟨rfl, z, rfl⟩ | ⟨rfl, ds, h⟩ | ⟨rfl, a, kvs, rfl, e⟩
  · cases r; rfl
  · obtain ⟨a, vs, rfl, h1, _⟩ := h.down r l
    exact .inl ⟨rfl, vs, h1⟩
  · cases r
    obtain ⟨ws, h1, _⟩ := l.obj a _ e
    exact .inr (.inr (.inl ⟨rfl, .inl ⟨ws, h1⟩⟩))
def bm03 (T : String) (r : D → List D → Hp3 → K3 → Prop) (to : TE3) : TE3 := fun σ S Q => to σ S fun x S1 => TyD T x S1 ∧ r x [] S1 Q
def bm3 (T : String) (r : D → List D → Hp3 → K3 → Prop) (to : TE3) (t : TA3) : TE3 := fun σ S Q => to σ S fun x S1 => TyD T x S1 ∧ t σ S1 fun xs S2 => r x xs S2 Q
variable {o : Expr} {to : TE3} {name : Str} {apos cpos : Pos} {m3 : D → List D → Hp3 → K3 → Prop} {m : V → List V → Hp → VK → Prop}
theorem e_bm0 (pa : PlainAttrs T) (slot : Slot T name id) (hty : typeOf (.builtin id) = pure (.type "method_descriptor")) (hm : MtR X id m) (hd : DnM X.K m3 m) (ho : PE3 X W3 o to)
    (hbase : attributeBase o name X.env (eval o X.env) = eval o X.env := by rfl) (hline : (apos.endLine == cpos.line) = true := by rfl) : PE3 X W3 (.Call (.Attribute o name apos) [] [] cpos) (bm03 T m3 to) :=
  fun Z => PE.imp (pe_bm0 pa slot hty hm (ho Z) hbase hline) fun τ H Q ⟨σ, S, Q3, hs, hr, ht, hc⟩ =>
    ⟨σ, S, _, hs, hr, ht, fun x S1 v H1 k1 r1 l1 ⟨ty, q⟩ => ⟨ty.down r1 l1, hd Z.z x [] S1 Q3 v [] H1 Q r1 .nil l1 q (hc.mono k1)⟩⟩
theorem e_bm (pa : PlainAttrs T) (slot : Slot T name id) (hty : typeOf (.builtin id) = pure (.type "method_descriptor")) (hm : MtR X id m) (hd : DnM X.K m3 m) (ho : PE3 X W3 o to) (ha : PA3 X W3 (e :: es) t)
    (hbase : attributeBase o name X.env (eval o X.env) = eval o X.env := by rfl)
    (hfew : ((backTo cpos (starEach (e :: es) X.env)).all (fun x => !x.1) && (backToKw cpos (keywordEach [] X.env)).all (fun x => x.1.isSome)
      && decide ((e :: es).length + ([] : List Keyword).length + (if ([] : List Keyword).isEmpty then 0 else 1) < 30)) = true := by rfl)
    (hline : (apos.endLine == cpos.line) = true := by rfl) (hs : starEach (e :: es) X.env = (false, eval e X.env) :: starEach es X.env := by rfl) (hplain : (backTo cpos (starEach es X.env)).any (·.1) = false := by rfl) :
    PE3 X W3 (.Call (.Attribute o name apos) (e :: es) [] cpos) (bm3 T m3 to t) :=
  fun Z => PE.imp (pe_bm pa slot hty hm (ho Z) (ha Z) hbase hfew hline hs hplain) fun τ H Q ⟨σ, S, Q3, hs, hr, ht, hc⟩ =>
    ⟨σ, S, _, hs, hr, ht, fun x S1 v H1 k1 r1 l1 ⟨ty, q⟩ => ⟨ty.down r1 l1, σ, S1, _, hs.mono k1, l1, q, fun ds S2 vs H2 k2 r2 l2 q2 => hd Z.z x ds S2 Q3 v vs H2 Q (r1.mono k2) r2 l2 q2 (hc.mono (k1.trans k2))⟩⟩
/-! slices -/
abbrev TO3 := St3 → Hp3 → (Option Int → Hp3 → Prop) → Prop
def CO (K : PySem.W.Frag) (Z : Zt) (H : Hp) (Q3 : Option Int → Hp3 → Prop) (Q : Option Int → Hp → Prop) : Prop := ∀ d S H', Kp Z H H' → Rl K Z S H' → Q3 d S → Q d H'
def lO (K : PySem.W.Frag) (Z : Zt) (t : TO3) : TO := fun τ H Q => ∃ σ S Q3, SR K H σ τ ∧ Rl K Z S H ∧ t σ S Q3 ∧ CO K Z H Q3 Q
def PO3 (X : Cx) (W3 : W3T) (e : Option Expr) (t : TO3) : Prop := ∀ Z : ZX X W3, PO X e (lO X.K Z.z t)
def nopart3 : TO3 := fun _ S Q => Q none S
def part3 (t : TE3) : TO3 := fun σ S Q => t σ S fun x S1 => ∃ i, x = .int i ∧ Q (some i) S1
theorem PO.imp {X : Cx} {e : Option Expr} {t u : TO} (h : PO X e t) (f : ∀ σ H Q, u σ H Q → t σ H Q) : PO X e u := fun pins s σ H Q I q => h pins s σ H Q I (f _ _ _ q)
theorem p_none : PO3 X W3 none nopart3 := fun Z => PO.imp po_none fun τ H Q ⟨σ, S, Q3, hs, hr, ht, hc⟩ => hc none S H (Kp.refl _ _) hr ht
theorem p_some (h : PE3 X W3 e ta) : PO3 X W3 (some e) (part3 ta) := fun Z => PO.imp (po_some (h Z)) fun τ H Q ⟨σ, S, Q3, hs, hr, ht, hc⟩ => by
  refine ⟨σ, S, _, hs, hr, ht, fun x S1 v H1 k1 r1 l1 q1 => ?_⟩
  obtain ⟨i, rfl, q⟩ := q1
  cases r1
  exact ⟨i, rfl, hc _ S1 H1 k1 l1 q⟩
def DnS (K : PySem.W.Frag) (r3 : D → Option Int → Option Int → Hp3 → K3 → Prop) (r : V → Option Int → Option Int → Hp → VK → Prop) : Prop := ∀ (Z : Zt) x lo hi S Q3 v H Q, Rp K H x v → Rl K Z S H → r3 x lo hi S Q3 → CK K Z H Q3 Q → r v lo hi H Q
def sl3 (r : D → Option Int → Option Int → Hp3 → K3 → Prop) (te : TE3) (tl th : TO3) : TE3 := fun σ S Q => te σ S fun x S1 => tl σ S1 fun l S2 => th σ S2 fun u S3 => r x l u S3 Q
theorem e_slice {lo hi : Option Expr} {tl th : TO3} {p2 : Pos} {s3 : D → Option Int → Option Int → Hp3 → K3 → Prop} {s2 : V → Option Int → Option Int → Hp → VK → Prop} (hr : SlR X s2) (hd : DnS X.K s3 s2) (he : PE3 X W3 e ta) (hl : PO3 X W3 lo tl) (hu : PO3 X W3 hi th) :
    PE3 X W3 (.Subscript e (.Slice lo hi none p2) pos) (sl3 s3 ta tl th) := fun Z => PE.imp (pe_slice hr (he Z) (hl Z) (hu Z)) fun τ H Q ⟨σ, S, Q3, hs, hr, ht, hc⟩ =>
  ⟨σ, S, _, hs, hr, ht, fun x S1 v H1 k1 r1 l1 q1 => ⟨σ, S1, _, hs.mono k1, l1, q1, fun l S2 H2 k2 l2 q2 => ⟨σ, S2, _, hs.mono (k1.trans k2), l2, q2, fun u S3 H3 k3 l3 q3 =>
    hd Z.z x l u S3 Q3 v H3 Q (r1.mono (k2.trans k3)) l3 q3 (hc.mono (k1.trans (k2.trans k3)))⟩⟩⟩
end
end E3

namespace E3
open PySem PySem.Spec PyProof.Rows L2 EE
/-! ### rules: statements -/
section
variable {X : Cx} {W3 : W3T} {st : Stmt} {rest : List Stmt} {t u : TS3} {e : Expr} {te : TE3} {pos : Pos}
def next3 : TS3 := fun D σ S => D.nx σ S
def seq3 (t u : TS3) : TS3 := fun D σ S => t { D with nx := u D } σ S
theorem s_nil : PSs3 X W3 [] next3 := fun Z => PSs.imp pss_nil fun D τ H ⟨D3, σ, S, hs, hr, ht, hc⟩ => hc.nx σ S τ H (Kp.refl _ _) hs hr ht
theorem s_cons (h1 : PS3 X W3 st t) (h2 : PSs3 X W3 rest u) : PSs3 X W3 (st :: rest) (seq3 t u) := fun Z => PSs.imp (pss_cons (h1 Z) (h2 Z)) fun D τ H ⟨D3, σ, S, hs, hr, ht, hc⟩ =>
  ⟨_, σ, S, hs, hr, ht, ⟨fun σ' S' τ' H' k r l q => ⟨D3, σ', S', r, l, q, hc.mono k⟩, hc.bk, hc.ct, hc.rt⟩⟩
theorem s_one (h1 : PS3 X W3 st t) : PSs3 X W3 [st] t := fun Z => pss_one (h1 Z)
def drop3 (te : TE3) : TS3 := fun D σ S => te σ S fun _ S1 => D.nx σ S1
theorem s_expr (he : PE3 X W3 e te) (hs : swapsWith e none pos.line X.env = pure false := by rfl) : PS3 X W3 (.Expr e pos) (drop3 te) := fun Z => PS.imp (ps_expr (he Z) hs) fun D τ H ⟨D3, σ, S, hs, hr, ht, hc⟩ =>
  ⟨σ, S, _, hs, hr, ht, fun d S' v H' k r l q => hc.nx σ S' τ H' k (hs.mono k) l q⟩
def ret3 (te : TE3) : TS3 := fun D σ S => te σ S D.rt
theorem s_ret (he : PE3 X W3 e te) : PS3 X W3 (.Return (some e) pos) (ret3 te) := fun Z => PS.imp (ps_ret (he Z)) fun D τ H ⟨D3, σ, S, hs, hr, ht, hc⟩ => ⟨σ, S, _, hs, hr, ht, hc.rt⟩
def ifs3 (c : TT3) (t u : TS3) : TS3 := fun D σ S => c σ S fun b S1 => if b = true then t D σ S1 else u D σ S1
theorem s_if {c : Expr} {a b : List Stmt} {tc : TT3} (hc : PT3 X W3 c tc) (ha : PSs3 X W3 a t) (hb : PSs3 X W3 b u) : PS3 X W3 (.If c a b pos) (ifs3 tc t u) := fun Z => PS.imp (ps_if (hc Z) (ha Z) (hb Z)) fun D τ H ⟨D3, σ, S, hs, hr, ht, hc⟩ => by
  refine ⟨σ, S, _, hs, hr, ht, fun b S' H' k l q => ?_⟩
  cases b with
  | true => exact ⟨D3, σ, S', hs.mono k, l, q, hc.mono k⟩
  | false => exact ⟨D3, σ, S', hs.mono k, l, q, hc.mono k⟩
/-! targets -/
abbrev TG3 := D → St3 → Hp3 → (St3 → Hp3 → Prop) → Prop
def lG (K : PySem.W.Frag) (Z : Zt) (t : TG3) : TG := fun v τ H Q => ∃ d σ S Q3, Rp K H d v ∧ SR K H σ τ ∧ Rl K Z S H ∧ t d σ S Q3 ∧ CS K Z H Q3 Q
def PG3 (X : Cx) (W3 : W3T) (tg : Expr) (t : TG3) : Prop := ∀ Z : ZX X W3, PG X tg (lG X.K Z.z t)
theorem PG.imp {X : Cx} {e : Expr} {t u : TG} (h : PG X e t) (f : ∀ v σ H Q, u v σ H Q → t v σ H Q) : PG X e u := fun pins s σ H v w Q I r q => h pins s σ H v w Q I r (f _ _ _ _ q)
def name3 (i : Nat) : TG3 := fun v σ S Q => Q (σ.set i (some v)) S
theorem g_name {i : Nat} {x : Str} (hN : X.N.Nodup) (hi : X.N[i]? = some x) (hx : Loc X.env.scope x) (hf : X.fn x = true ∨ X.env.scope.names.lookup x = some .local := by first | exact .inl rfl | exact .inr rfl | assumption) : PG3 X W3 (.Name x pos) (name3 i) :=
  fun Z => PG.imp (pg_name hN hi hx hf) fun v τ H Q ⟨d, σ, S, Q3, r, hs, hr, ht, hc⟩ => hc _ S _ H (Kp.refl _ _) (hs.set r i) hr ht
def asg3 (te : TE3) (g : TG3) : TS3 := fun D σ S => te σ S fun x S1 => g x σ S1 D.nx
theorem asg_down {K : PySem.W.Frag} {Z : Zt} {g : TG3} {D : Ends} {τ : L2.St} {H : Hp} (h : lS K Z (asg3 te g) D τ H) : tAsg (lE K Z te) (lG K Z g) D τ H := by
  obtain ⟨D3, σ, S, hs, hr, ht, hc⟩ := h
  exact ⟨σ, S, _, hs, hr, ht, fun d S' v H' k r l q => ⟨d, σ, S', _, r, hs.mono k, l, q, hc.nx.mono k⟩⟩
theorem s_asg {tg : Expr} {g : TG3} (he : PE3 X W3 e te) (hg : PG3 X W3 tg g) (hs : swapsWithSole [tg] e pos.line X.env = pure false := by rfl) (hw : swappedStores [tg] e X.env = pure none := by rfl)
    (h1 : (assignEach [tg] X.env).map (·.2) = [assign tg X.env] := by rfl) : PS3 X W3 (.Assign [tg] e pos) (asg3 te g) := fun Z => PS.imp (ps_asg (he Z) (hg Z) hs hw h1) fun D τ H h => asg_down h
def set3 (i : Nat) (te : TE3) : TS3 := fun D σ S => te σ S fun x S1 => D.nx (σ.set i (some x)) S1
theorem s_set {i : Nat} {x : Str} {pos' : Pos} (hN : X.N.Nodup) (hi : X.N[i]? = some x) (hx : Loc X.env.scope x) (he : PE3 X W3 e te) (hs : swapsWith e (some (.Name x pos')) pos.line X.env = pure false := by rfl) (hf : X.fn x = true ∨ X.env.scope.names.lookup x = some .local := by first | exact .inl rfl | exact .inr rfl | assumption) :
    PS3 X W3 (.Assign [.Name x pos'] e pos) (set3 i te) := fun Z => PS.imp (ps_set hN hi hx (he Z) hs hf) fun D τ H ⟨D3, σ, S, hs, hr, ht, hc⟩ =>
  ⟨σ, S, _, hs, hr, ht, fun d S' v H' k r l q => hc.nx _ S' _ H' k ((hs.mono k).set r i) l q⟩
/-- o[i] = v of a list -/
def setL3 (to ti : TE3) : TG3 := fun v σ S Q => to σ S fun o S1 => ti σ S1 fun i S2 => ∃ p xs k j, o = .ref p ∧ i = .int k ∧ S2 p = some (.lst xs) ∧ ixN xs.length k = some j ∧ Q σ (up S2 p (.lst (xs.set j v)))
theorem g_sub {o i : Expr} {to ti : TE3} (ho : PE3 X W3 o to) (hi : PE3 X W3 i ti)
    (ha : ∀ v, assign (.Subscript o i pos) X.env v = (do
      let ov ← holding [v] (eval o X.env)
      let iv ← holding [v, ov] (eval i X.env)
      standAt pos
      holding [v, ov, iv] (setItem ov iv v)
      release [v, ov, iv] []) := by intro _; rfl) : PG3 X W3 (.Subscript o i pos) (setL3 to ti) := fun Z => PG.imp (pg_sub (ho Z) (hi Z) set_list ha) fun v τ H Q ⟨d, σ, S, Q3, r, hs, hr, ht, hc⟩ => by
  refine ⟨σ, S, _, hs, hr, ht, fun x1 S1 v1 H1 k1 r1 l1 q1 => ⟨σ, S1, _, hs.mono k1, l1, q1, fun x2 S2 v2 H2 k2 r2 l2 q2 => ?_⟩⟩
  obtain ⟨p, xs, k, j, rfl, rfl, e, hj, q⟩ := q2
  cases r1
  cases r2
  obtain ⟨vs, h1, h2⟩ := l2.obj p _ e
  have kk : Kp Z.z H2 (upd H2 p (.lst (vs.set j v))) := Kp.at l2 e
  refine ⟨p, vs, k, j, rfl, rfl, h1, by rw [← h2.len]; exact hj, ?_⟩
  have k12 := k1.trans (k2.trans kk)
  exact hc σ _ τ _ k12 (hs.mono k12) (l2.put (o := .lst (xs.set j d)) kk (l2.notZ e) ⟨_, upd_same, (h2.mono kk).set (r.mono k12) j⟩) q
/-! while -/
def while3 (c : TT3) (tb : TS3) : TS3 := fun D σ S => ∃ W : Nat → St3 → Hp3 → Prop, (∃ m, W m σ S) ∧ ∀ m σ S, W m σ S →
  c σ S fun b S1 => if b = true then tb { D with nx := fun σ' S' => ∃ m', m' < m ∧ W m' σ' S', ct := fun σ' S' => ∃ m', m' < m ∧ W m' σ' S', bk := D.nx } σ S1 else D.nx σ S1
theorem s_while {c : Expr} {body : List Stmt} {tc : TT3} {tb : TS3} (hp : PassesOwn (model X.prog X.w) X.A X.env X.xe) (hc : PT3 X W3 c tc) (hb : PSs3 X W3 body tb) : PS3 X W3 (.While c body [] pos) (while3 tc tb) := fun Z => PS.imp (ps_while hp (hc Z) (hb Z)) fun D τ H ⟨D3, σ, S, hs, hr, ⟨W, ⟨m0, w0⟩, turn⟩, hc⟩ => by
  refine ⟨fun m τ' H' => ∃ σ' S', Kp Z.z H H' ∧ SR X.K H' σ' τ' ∧ Rl X.K Z.z S' H' ∧ W m σ' S', ⟨m0, σ, S, Kp.refl _ _, hs, hr, w0⟩, ?_⟩
  rintro m τ1 H1 ⟨σ1, S1, k1, s1, l1, w1⟩
  refine ⟨σ1, S1, _, s1, l1, turn m σ1 S1 w1, fun b S2 H2 k2 l2 q2 => ?_⟩
  cases b with
  | true =>
    rw [if_pos rfl] at q2 ⊢
    refine ⟨fun τ' H' => ∃ m', m' < m ∧ ∃ σ' S', Kp Z.z H H' ∧ SR X.K H' σ' τ' ∧ Rl X.K Z.z S' H' ∧ W m' σ' S', fun τ' H' z => z, _, σ1, S2, s1.mono k2, l2, q2, ⟨?_, ?_, ?_, ?_⟩⟩
    · exact fun σ' S' τ' H' k r l ⟨m', hm, w⟩ => ⟨m', hm, σ', S', k1.trans (k2.trans k), r, l, w⟩
    · exact hc.nx.mono (k1.trans k2)
    · exact fun σ' S' τ' H' k r l ⟨m', hm, w⟩ => ⟨m', hm, σ', S', k1.trans (k2.trans k), r, l, w⟩
    · exact hc.rt.mono (k1.trans k2)
  | false =>
    rw [if_neg Bool.false_ne_true] at q2 ⊢
    exact hc.nx σ1 S2 τ1 H2 (k1.trans k2) (s1.mono k2) l2 q2
end
/-! ### what a loop walks: its items, and a condition under which they are still the same -/
abbrev TI3 := St3 → Hp3 → (List D → (Hp3 → Prop) → Hp3 → Prop) → Prop
/-- the items ds, walked by J, while Al holds -/
structure Wk (K : PySem.W.Frag) (Z : Zt) (J : It) (ds : List D) (Al : Hp3 → Prop) (H0 : Hp) : Prop where
  go : ∀ i d S H, Kp Z H0 H → Rl K Z S H → Al S → ds[i]? = some d → J.go i H ∧ ∀ v H', J.yld i H v H' → Kp Z H H' ∧ Rp K H' d v ∧ (∀ S', Rl K Z S' H → Rl K Z S' H') ∧ ∀ b, H b ≠ none → H' b = H b
  stop : ∀ S H, Kp Z H0 H → Rl K Z S H → Al S → J.stop ds.length H
def lI (K : PySem.W.Frag) (Z : Zt) (t : TI3) : TI := fun τ H R => ∃ σ S R3, SR K H σ τ ∧ Rl K Z S H ∧ t σ S R3 ∧ ∀ ds Al S' J H', Kp Z H H' → Rl K Z S' H' → R3 ds Al S' → Wk K Z J ds Al H' → R J H'
def PI3 (X : Cx) (W3 : W3T) (tg iter : Expr) (t : TI3) : Prop := ∀ Z : ZX X W3, PI X tg iter (lI X.K Z.z t)
theorem PI.imp {X : Cx} {tg e : Expr} {t u : TI} (h : PI X tg e t) (f : ∀ σ H R, u σ H R → t σ H R) : PI X tg e u := fun pins s σ H Q I q => h pins s σ H Q I (f _ _ _ q)
section
variable {X : Cx} {W3 : W3T} {tg l : Expr} {tl : TE3} {pos : Pos}
def iL3 (tl : TE3) : TI3 := fun σ S R => tl σ S fun x S1 => (∃ a ds, x = .ref a ∧ S1 a = some (.lst ds) ∧ R ds (fun S => S a = some (.lst ds)) S1) ∨ ∃ ds, x = .rol ds ∧ R ds (fun _ => True) S1
theorem i_list (hl : PE3 X W3 l tl) : PI3 X W3 tg l (iL3 tl) := fun Z => PI.imp (pi_list (hl Z)) fun τ H R ⟨σ, S, R3, hs, hr, ht, hc⟩ => by
  refine ⟨σ, S, _, hs, hr, ht, fun x S1 v H1 k1 r1 l1 q1 => ?_⟩
  rcases q1 with ⟨a, ds, rfl, e, q⟩ | ⟨ds, rfl, q⟩
  · cases r1
    obtain ⟨vs, h1, h2⟩ := l1.obj a _ e
    refine ⟨a, rfl, ⟨vs, SqL.of h1⟩, hc ds _ S1 _ H1 k1 l1 q ⟨fun i d S2 H2 k2 l2 al hd => ?_, fun S2 H2 k2 l2 al => ?_⟩⟩
    · obtain ⟨ws, h3, h4⟩ := l2.obj a _ al
      obtain ⟨v, hv, rv⟩ := h4.at hd
      refine ⟨⟨ws, v, SqL.of h3, hv⟩, fun v' H' y => ?_⟩
      obtain ⟨rfl, y⟩ := y
      have := y ws (SqL.of h3)
      rw [hv] at this
      cases this
      exact ⟨Kp.refl _ _, rv, fun _ z => z, fun _ _ => rfl⟩
    · obtain ⟨ws, h3, h4⟩ := l2.obj a _ al
      exact ⟨ws, SqL.of h3, by rw [h4.len]; exact Nat.le_refl _⟩
  · cases r1 with
    | @rol a vs _ h1 h2 =>
      refine ⟨a, rfl, ⟨vs, h1.sq⟩, hc ds _ S1 _ H1 k1 l1 q ⟨fun i d S2 H2 k2 l2 al hd => ?_, fun S2 H2 k2 l2 al => ?_⟩⟩
      · obtain ⟨v, hv, rv⟩ := h2.at hd
        have h3 := (k2.scR h1).sq
        refine ⟨⟨vs, v, h3, hv⟩, fun v' H' y => ?_⟩
        obtain ⟨rfl, y⟩ := y
        have := y vs h3
        rw [hv] at this
        cases this
        exact ⟨Kp.refl _ _, rv.mono k2, fun _ z => z, fun _ _ => rfl⟩
      · exact ⟨vs, (k2.scR h1).sq, by rw [h2.len]; exact Nat.le_refl _⟩
def iT3 (tl : TE3) : TI3 := fun σ S R => tl σ S fun x S1 => ∃ ds, x = .tup ds ∧ R ds (fun _ => True) S1
theorem i_tup (hl : PE3 X W3 l tl) : PI3 X W3 tg l (iT3 tl) := fun Z => PI.imp (pi_tup (hl Z)) fun τ H R ⟨σ, S, R3, hs, hr, ht, hc⟩ => by
  refine ⟨σ, S, _, hs, hr, ht, fun x S1 v H1 k1 r1 l1 q1 => ?_⟩
  obtain ⟨ds, rfl, q⟩ := q1
  cases r1 with
  | @tup a vs _ h1 h2 =>
    refine ⟨a, rfl, ⟨vs, h1⟩, hc ds _ S1 _ H1 k1 l1 q ⟨fun i d S2 H2 k2 l2 al hd => ?_, fun S2 H2 k2 l2 al => ?_⟩⟩
    · obtain ⟨v, hv, rv⟩ := h2.at hd
      have h3 := k2.sqT h1
      refine ⟨⟨vs, v, h3, hv⟩, fun v' H' y => ?_⟩
      obtain ⟨rfl, y⟩ := y
      have := y vs h3
      rw [hv] at this
      cases this
      exact ⟨Kp.refl _ _, rv.mono k2, fun _ z => z, fun _ _ => rfl⟩
    · exact ⟨vs, k2.sqT h1, by rw [h2.len]; exact Nat.le_refl _⟩
def nums (lo : Int) (n : Nat) : List D := (List.range n).map fun i : Nat => .int (lo + (i : Int))
theorem nums_at {lo : Int} {n i : Nat} {d : D} (h : (nums lo n)[i]? = some d) : i < n ∧ d = .int (lo + (i : Int)) := by
  unfold nums at h
  rw [List.getElem?_map] at h
  cases e : (List.range n)[i]? with
  | none => rw [e] at h; cases h
  | some c =>
    rw [e] at h
    cases h
    obtain ⟨h1, h2⟩ := List.getElem?_eq_some_iff.mp e
    rw [List.getElem_range] at h2
    subst h2
    exact ⟨by simpa using h1, rfl⟩
theorem nums_len {lo : Int} {n : Nat} : (nums lo n).length = n := by simp [nums]
def iR1 (ta : TA3) : TI3 := fun σ S R => ta σ S fun vs S1 => ∃ j : Int, vs = [.int j] ∧ -(2 ^ 62) ≤ j ∧ j < 2 ^ 62 ∧ R (nums 0 j.toNat) (fun _ => True) S1
def iR2 (ta : TA3) : TI3 := fun σ S R => ta σ S fun vs S1 => ∃ i j : Int, vs = [.int i, .int j] ∧ (-(2 ^ 62) ≤ i ∧ i < 2 ^ 62 ∧ -(2 ^ 62) ≤ j ∧ j < 2 ^ 62) ∧ R (nums i (j - i).toNat) (fun _ => True) S1
theorem wk_rng {K : PySem.W.Frag} {Z : Zt} {lo : Int} {n : Nat} {H : Hp} : Wk K Z (Itr lo n) (nums lo n) (fun _ => True) H := by
  refine ⟨fun i d S2 H2 k2 l2 al hd => ?_, fun S2 H2 k2 l2 al => ?_⟩
  · obtain ⟨hi, rfl⟩ := nums_at hd
    refine ⟨hi, fun v' H' y => ?_⟩
    obtain ⟨rfl, rfl⟩ := y
    exact ⟨Kp.refl _ _, .int _, fun _ z => z, fun _ _ => rfl⟩
  · show n ≤ (nums lo n).length
    rw [nums_len]
    exact Nat.le_refl _
theorem i_range1 {a : Expr} {ta : TA3} {p : Pos} (hg : Gl X "range") (hm : X.mg "range" = none) (ha : PA3 X W3 [a] ta) (hs : starEach [a] X.env = [(false, eval a X.env)] := by rfl) : PI3 X W3 tg (.Call (.Name "range" p) [a] [] pos) (iR1 ta) :=
  fun Z => PI.imp (pi_range1 hg hm (ha Z) hs) fun τ H R ⟨σ, S, R3, hs, hr, ht, hc⟩ => by
  refine ⟨σ, S, _, hs, hr, ht, fun xs S1 vs0 H1 k1 r1 l1 q1 => ?_⟩
  obtain ⟨j, rfl, h1, h2, q⟩ := q1
  cases r1 with
  | cons r1 rr =>
    cases rr
    cases r1
    exact ⟨j, rfl, h1, h2, hc _ _ S1 _ H1 k1 l1 q wk_rng⟩
theorem i_range2 {a b : Expr} {ta : TA3} {p : Pos} (hg : Gl X "range") (hm : X.mg "range" = none) (ha : PA3 X W3 [a, b] ta) (hs : starEach [a, b] X.env = [(false, eval a X.env), (false, eval b X.env)] := by rfl) (hs2 : starEach [b] X.env = [(false, eval b X.env)] := by rfl) :
    PI3 X W3 tg (.Call (.Name "range" p) [a, b] [] pos) (iR2 ta) := fun Z => PI.imp (pi_range2 hg hm (ha Z) hs hs2) fun τ H R ⟨σ, S, R3, hs, hr, ht, hc⟩ => by
  refine ⟨σ, S, _, hs, hr, ht, fun xs S1 vs0 H1 k1 r1 l1 q1 => ?_⟩
  obtain ⟨i, j, rfl, h1, q⟩ := q1
  cases r1 with
  | cons r1 rr =>
    cases rr with
    | cons r2 rr =>
      cases rr
      cases r1
      cases r2
      exact ⟨i, j, rfl, h1, hc _ _ S1 _ H1 k1 l1 q wk_rng⟩
/-! for -/
/-- W i: what holds ahead of turn i -/
def for3 (wi : TI3) (g : TG3) (tb : TS3) : TS3 := fun D σ S => wi σ S fun ds Al S1 => ∃ W : Nat → St3 → Hp3 → Prop, W 0 σ S1 ∧ (∀ i σ S, W i σ S → Al S) ∧
  (∀ i d σ S, ds[i]? = some d → W i σ S → g d σ S fun σ2 S2 => tb { D with nx := W (i + 1), ct := W (i + 1), bk := D.nx } σ2 S2) ∧ ∀ σ S, W ds.length σ S → D.nx σ S
theorem s_for {iter : Expr} {body : List Stmt} {wi : TI3} {g : TG3} {tb : TS3} (hp : PassesOwn (model X.prog X.w) X.A X.env X.xe) (hc : X.calm = true) (hi : PI3 X W3 tg iter wi) (hg : PG3 X W3 tg g) (hb : PSs3 X W3 body tb)
    (hs : ∀ x, foldedSetIterable iter X.env x = pure x := by intro _; rfl) : PS3 X W3 (.For tg iter body [] pos) (for3 wi g tb) := fun Z => PS.imp (ps_for hp hc (hi Z) (hg Z) (hb Z) hs) fun D τ H ⟨D3, σ, S, hs, hr, ht, hc⟩ => by
  refine ⟨σ, S, _, hs, hr, ht, fun ds Al S1 J H1 k1 l1 q1 wk => ?_⟩
  obtain ⟨W, w0, al, turn, done⟩ := q1
  refine ⟨fun i m τ' H' => m = ds.length - i ∧ i ≤ ds.length ∧ ∃ σ' S', Kp Z.z H1 H' ∧ SR X.K H' σ' τ' ∧ Rl X.K Z.z S' H' ∧ W i σ' S', ⟨ds.length, by simp, Nat.zero_le _, σ, S1, Kp.refl _ _, hs.mono k1, l1, w0⟩, ?_⟩
  rintro i m τ2 H2 ⟨rfl, hi, σ2, S2, k2, s2, l2, w2⟩
  by_cases hlt : i < ds.length
  · have hd : ds[i]? = some ds[i] := List.getElem?_eq_getElem hlt
    obtain ⟨go, yl⟩ := wk.go i _ S2 H2 k2 l2 (al _ _ _ w2) hd
    refine .inr ⟨go, fun τ' H' => i < ds.length ∧ ∃ σ' S', Kp Z.z H1 H' ∧ SR X.K H' σ' τ' ∧ Rl X.K Z.z S' H' ∧ W (i + 1) σ' S', fun τ' H' z => ⟨ds.length - (i + 1), by omega, rfl, z.1, z.2⟩, fun v H3 y => ?_⟩
    obtain ⟨k3, rv, l3, _⟩ := yl v H3 y
    refine ⟨_, σ2, S2, _, rv, s2.mono k3, l3 _ l2, turn i _ σ2 S2 hd w2, fun σ4 S4 τ4 H4 k4 s4 l4 q4 => ?_⟩
    have k14 := k2.trans (k3.trans k4)
    refine ⟨_, σ4, S4, s4, l4, q4, ⟨?_, ?_, ?_, ?_⟩⟩
    · exact fun σ' S' τ' H' k r l w => ⟨hlt, σ', S', k14.trans k, r, l, w⟩
    · exact hc.nx.mono (k1.trans k14)
    · exact fun σ' S' τ' H' k r l w => ⟨hlt, σ', S', k14.trans k, r, l, w⟩
    · exact hc.rt.mono (k1.trans k14)
  · have e : i = ds.length := by omega
    subst e
    exact .inl ⟨wk.stop S2 H2 k2 l2 (al _ _ _ w2), hc.nx σ2 S2 τ2 H2 (k1.trans k2) s2 l2 (done σ2 S2 w2)⟩
/-! comprehensions: the new list is out of sight till it is done -/
def pick3 (σ : St3) (js : List Nat) : St3 := js.map fun j => (σ[j]?).getD none
theorem SR.picks {K : PySem.W.Frag} {H : Hp} {σ : St3} {τ : L2.St} (h : SR K H σ τ) (js : List Nat) : SR K H (pick3 σ js) (pick τ js) := by
  unfold pick3 pick
  induction js with
  | nil => exact .nil
  | cons j js ih =>
    refine .cons (fun d e => ?_) ih
    dsimp only at e ⊢
    cases q : σ[j]? with
    | none => rw [q] at e; cases e
    | some o =>
      rw [q] at e
      have e : o = some d := e
      subst e
      obtain ⟨v, h1, h2⟩ := h.at q
      exact ⟨v, by rw [h1]; rfl, h2⟩
def comp3 (wi : TI3) (te : TE3) (js : List Nat) : TE3 := fun σ S Q => wi σ S fun ds Al S1 => ∃ W : Nat → List D → Hp3 → Prop, W 0 [] S1 ∧ (∀ i ys S, W i ys S → Al S ∧ ys.length < sizeLine) ∧
  (∀ i d ys S, ds[i]? = some d → W i ys S → te (some d :: pick3 σ js) S fun y S' => W (i + 1) (ys ++ [y]) S') ∧ ∀ ys S, W ds.length ys S → newL S ys Q
def exZ (K : PySem.W.Frag) (te : TE3) : TE := fun τ H Q => ∃ Z : Zt, lE K Z te τ H Q
theorem PE3.ex {X : Cx} {e : Expr} {te : TE3} (h : PE3 X NoX e te) : PE X e (exZ X.K te) := fun pins s σ H Q I ⟨Z, q⟩ => h (ZX.no X Z) pins s σ H Q I q
/-- p is hidden from here on -/
abbrev Zt.hide (Z : Zt) (H : Hp) (p : Addr) : Zt := ⟨fun a => Z a ∨ a = p, H⟩
theorem Rl.hide {K : PySem.W.Frag} {Z : Zt} {S : Hp3} {H : Hp} {p : Addr} (l : Rl K Z S H) (hs : S p = none) (hh : H p ≠ none) : Rl K (Z.hide H p) S H :=
  ⟨l.obj, fun a z => z.elim (l.hid a) fun e => e ▸ ⟨hs, hh⟩, Kp.refl _ _⟩
theorem Rl.unhide {K : PySem.W.Frag} {Z Z' : Zt} {S : Hp3} {H : Hp} (l : Rl K Z' S H) (h : ∀ a, Z a → Z' a) (o : Kp Z Z.base H) : Rl K Z S H := ⟨l.obj, fun a z => l.hid a (h a z), o⟩
theorem Kp.unhide {Z Z' : Zt} {H H' : Hp} (k : Kp Z' H H') (h : ∀ a, Z a → Z' a) : Kp Z H H' := ⟨k.tup, k.frz, fun a z => k.hid a (h a z)⟩
theorem comp_down {K : PySem.W.Frag} {Z : Zt} {wi : TI3} {te : TE3} {js : List Nat} {τ : L2.St} {H : Hp} {Q : VK} (h : lE K Z (comp3 wi te js) τ H Q) : tComp (lI K Z wi) (exZ K te) js τ H Q := by
  obtain ⟨σ, S, Q3, hs, hr, ht, hc⟩ := h
  refine ⟨σ, S, _, hs, hr, ht, fun ds Al S1 J H1 k1 l1 q1 wk => ?_⟩
  intro p hp
  obtain ⟨W, w0, al, turn, done⟩ := q1
  obtain ⟨hsp, hzp⟩ := l1.fresh hp
  have kp : Kp Z H1 (upd H1 p (.lst [])) := Kp.new hp hzp
  refine ⟨fun i m H' => m = ds.length - i ∧ i ≤ ds.length ∧ ∃ ys vs S', Kp Z H1 H' ∧ H' p = some (.lst vs) ∧ Rps K H' ys vs ∧ S' p = none ∧ Rl K Z S' H' ∧ W i ys S', ⟨ds.length, by simp, Nat.zero_le _, [], [], S1, kp, upd_same, .nil, hsp, l1.lay hp, w0⟩, ?_⟩
  rintro i m H2 ⟨rfl, hi, ys, vs, S2, k2, hp2, ry, hs2, l2, w2⟩
  obtain ⟨al2, hz⟩ := al _ _ _ w2
  by_cases hlt : i < ds.length
  · have hd : ds[i]? = some ds[i] := List.getElem?_eq_getElem hlt
    obtain ⟨go, yl⟩ := wk.go i _ S2 H2 k2 l2 al2 hd
    refine .inr ⟨go, fun H' => i < ds.length ∧ ∃ ys vs S', Kp Z H1 H' ∧ H' p = some (.lst vs) ∧ Rps K H' ys vs ∧ S' p = none ∧ Rl K Z S' H' ∧ W (i + 1) ys S', fun H' z => ⟨ds.length - (i + 1), by omega, rfl, z.1, z.2⟩, fun v H3 y => ?_⟩
    obtain ⟨k3, rv, l3, o3⟩ := yl v H3 y
    have hp3 : H3 p = some (.lst vs) := (o3 p (by rw [hp2]; simp)).trans hp2
    refine ⟨Z.hide H3 p, _, S2, _, .cons (fun d e => by cases e; exact ⟨v, rfl, rv⟩) (((hs.mono (k1.trans (k2.trans k3)))).picks js), (l3 _ l2).hide hs2 (by rw [hp3]; simp), turn i _ ys S2 hd w2, ?_⟩
    intro d S4 w H4 k4 r4 l4 q4
    have hp4 : H4 p = some (.lst vs) := (k4.hid p (.inr rfl)).trans hp3
    have k4' := k4.unhide (Z := Z) fun a z => .inl z
    have l4' := l4.unhide (Z := Z) (fun a z => .inl z) ((l3 _ l2).old.trans k4')
    have kk : Kp Z H4 (upd H4 p (.lst (vs ++ [w]))) := by
      refine ⟨fun b xs e => ?_, fun b q u e => ?_, fun b z => ?_⟩
      · rw [upd_ne]; exact e
        rintro rfl; rw [hp4] at e; cases e
      · rw [upd_ne]; exact e
        rintro rfl; rw [hp4] at e; cases e
      · rw [upd_ne]; rintro rfl; exact hzp z
    have sp4 : S4 p = none := (l4.hid p (.inr rfl)).1
    have hlen : ys.length = vs.length := ry.len
    refine ⟨vs, hp4, by omega, hlt, ys ++ [d], vs ++ [w], S4, k2.trans (k3.trans (k4'.trans kk)), upd_same, ((ry.mono (k3.trans (k4'.trans kk)))).append (.cons (r4.mono kk) .nil), sp4, ⟨fun b u e => (l4'.obj b u e).keep kk (upd_ne (ne3 e sp4)), fun b z => ?_, l4'.old.trans kk⟩, q4⟩
    have hb : b ≠ p := fun e => hzp (e ▸ z)
    rw [upd_ne hb]
    exact l4'.hid b z
  · have e : i = ds.length := by omega
    subst e
    refine .inl ⟨wk.stop S2 H2 k2 l2 al2, ?_⟩
    refine hc (.ref p) (up S2 p (.lst ys)) (.ref p) H2 (k1.trans k2) (.ref p) ⟨fun b u e => ?_, fun b z => ?_, l2.old⟩ (done ys S2 w2 p hs2)
    · by_cases hb : b = p
      · subst hb
        rw [up_same] at e
        cases e
        exact ⟨vs, hp2, ry⟩
      · rw [up_ne hb] at e
        exact l2.obj b u e
    · have hb : b ≠ p := fun e => hzp (e ▸ z)
      rw [up_ne hb]
      exact l2.hid b z
variable {elt iter : Expr} {x : Str} {px : Pos} {scope osc : Scope} {M N : List Str} {js : List Nat} {wi : TI3} {te : TE3}
theorem e_comp (S : CompScope osc x M scope) (hjs : M.map some = js.map fun j => N[j]?) (hc : X.calm = true) (hi : PI3 X W3 (.Name x px) iter wi)
    (he : ∀ (C : Addr) (fp : List Addr) (pins : List (Addr × Obj)) (s : Shared) (H : Hp), PE3 (cxComp X scope C (x :: M) fp pins s H) NoX elt te)
    (hosc : X.env.scope = osc := by rfl) (hN : X.N = N := by rfl) (hs : ∀ v, foldedSetIterable iter X.env v = pure v := by intro _; rfl) :
    PE3 X W3 (.ListComp elt [⟨.Name x px, iter, [], 0⟩] scope pos) (comp3 wi te js) := fun Z =>
  PE.imp (pe_compr S hjs hc (hi Z) (fun C fp pins s H => (he C fp pins s H).ex) hosc hN hs) fun _ _ _ h => comp_down h
theorem s_comp {i : Nat} {y : Str} {py spos : Pos} (S : CompScope osc x M scope) (hjs : M.map some = js.map fun j => N[j]?) (hc : X.calm = true) (hi : PI3 X W3 (.Name x px) iter wi)
    (he : ∀ (C : Addr) (fp : List Addr) (pins : List (Addr × Obj)) (s : Shared) (H : Hp), PE3 (cxComp X scope C (x :: M) fp pins s H) NoX elt te)
    (hNd : X.N.Nodup) (hy : X.N[i]? = some y) (hl : X.env.scope.names.lookup y = some .local)
    (hosc : X.env.scope = osc := by rfl) (hN : X.N = N := by rfl)
    (hsw : swapsWith (.ListComp elt [⟨.Name x px, iter, [], 0⟩] scope pos) (some (.Name y py)) spos.line X.env = pure true := by rfl) (hs : ∀ v, foldedSetIterable iter X.env v = pure v := by intro _; rfl) :
    PS3 X W3 (.Assign [.Name y py] (.ListComp elt [⟨.Name x px, iter, [], 0⟩] scope pos) spos) (set3 i (comp3 wi te js)) := fun Z =>
  PS.imp (ps_compr S hjs hc (hi Z) (fun C fp pins s H => (he C fp pins s H).ex) hNd hy hl hosc hN hsw hs) fun D τ H ⟨D3, σ, S, hs, hr, ht, hc⟩ =>
    comp_down ⟨σ, S, _, hs, hr, ht, fun d S' v H' k r l q => hc.nx _ S' _ H' k ((hs.mono k).set r i) l q⟩
end
end E3

namespace E3
open PySem PySem.Spec PyProof.Rows L2 EE
/-! ### values: what the operators of the language do to data -/
section
variable {K : PySem.W.Frag}
def i3 (g : Int → Int → D) : R3 := fun x y S Q => ∃ i j, x = .int i ∧ y = .int j ∧ Q (g i j) S
def ic3 (C : Int → Int → Prop) (g : Int → Int → D) : R3 := fun x y S Q => ∃ i j, x = .int i ∧ y = .int j ∧ C i j ∧ Q (g i j) S
theorem dn_int {g : Int → Int → Int} : Dn2 K (i3 fun i j => .int (g i j)) (rI0 fun i j => .int (g i j)) := by
  intro Z x y S Q3 v w H Q rx ry l h c
  obtain ⟨i, j, rfl, rfl, q⟩ := h
  cases rx
  cases ry
  exact ⟨i, j, rfl, rfl, c _ S _ H (Kp.refl _ _) (.int _) l q⟩
theorem dn_intB {g : Int → Int → Bool} : Dn2 K (i3 fun i j => .bl (g i j)) (rI0 fun i j => .bl (g i j)) := by
  intro Z x y S Q3 v w H Q rx ry l h c
  obtain ⟨i, j, rfl, rfl, q⟩ := h
  cases rx
  cases ry
  exact ⟨i, j, rfl, rfl, c _ S _ H (Kp.refl _ _) (.bl _) l q⟩
theorem dn_intC {C : Int → Int → Prop} {g : Int → Int → Int} : Dn2 K (ic3 C fun i j => .int (g i j)) (rI C fun i j => .int (g i j)) := by
  intro Z x y S Q3 v w H Q rx ry l h c
  obtain ⟨i, j, rfl, rfl, h, q⟩ := h
  cases rx
  cases ry
  exact ⟨i, j, rfl, rfl, h, c _ S _ H (Kp.refl _ _) (.int _) l q⟩
def addS3 : R3 := fun x y S Q => ∃ i j, x = .str i ∧ y = .str j ∧ i.length + j.length ≤ sizeLine ∧ Q (.str (i ++ j)) S
theorem dn_addS : Dn2 K addS3 (fun x y H Q => ∃ i j, x = .str i ∧ y = .str j ∧ i.length + j.length ≤ sizeLine ∧ Q (.str (i ++ j)) H) := by
  intro Z x y S Q3 v w H Q rx ry l h c
  obtain ⟨i, j, rfl, rfl, h, q⟩ := h
  cases rx
  cases ry
  exact ⟨i, j, rfl, rfl, h, c _ S _ H (Kp.refl _ _) (.str _) l q⟩
def isNon : D → Bool
  | .non => true
  | _ => false
theorem isNon_down {H : Hp} {x : D} {v : V} (r : Rp K H x v) : isNon x = decide (v = .non) := by
  cases r <;> rfl
def isN3 : R3 := fun x y S Q => y = .non ∧ Q (.bl (isNon x)) S
theorem dn_isN : Dn2 K isN3 (fun x y H Q => y = .non ∧ Q (.bl (decide (x = .non))) H) := by
  intro Z x y S Q3 v w H Q rx ry l h c
  obtain ⟨rfl, q⟩ := h
  cases ry
  rw [← isNon_down rx]
  exact ⟨rfl, c _ S _ H (Kp.refl _ _) (.bl _) l q⟩
/-- ==, != of ints, of texts -/
def eqI3 : R3 := i3 fun i j => .bl (decide (i = j))
def neI3 : R3 := i3 fun i j => .bl (!decide (i = j))
def eqS3 : R3 := fun x y S Q => ∃ i j, x = .str i ∧ y = .str j ∧ Q (.bl (decide (i = j))) S
def neS3 : R3 := fun x y S Q => ∃ i j, x = .str i ∧ y = .str j ∧ Q (.bl (!decide (i = j))) S
theorem dV_int {i j : Int} : decide (V.int i = V.int j) = decide (i = j) := by rw [dec_int]; rfl
theorem dV_str {i j : Str} : decide (V.str i = V.str j) = decide (i = j) := by
  by_cases h : i = j
  · subst h; simp
  · have : V.str i ≠ V.str j := fun e => h (V.str.inj e)
    simp [h]
theorem dn_eqI : Dn2 K eqI3 rEq := by
  intro Z x y S Q3 v w H Q rx ry l h c
  obtain ⟨i, j, rfl, rfl, q⟩ := h
  cases rx
  cases ry
  refine ⟨rfl, ?_⟩
  rw [dV_int]
  exact c _ S _ H (Kp.refl _ _) (.bl _) l q
theorem dn_neI : Dn2 K neI3 rNe := by
  intro Z x y S Q3 v w H Q rx ry l h c
  obtain ⟨i, j, rfl, rfl, q⟩ := h
  cases rx
  cases ry
  refine ⟨rfl, ?_⟩
  rw [dV_int]
  exact c _ S _ H (Kp.refl _ _) (.bl _) l q
theorem dn_eqS : Dn2 K eqS3 rEq := by
  intro Z x y S Q3 v w H Q rx ry l h c
  obtain ⟨i, j, rfl, rfl, q⟩ := h
  cases rx
  cases ry
  refine ⟨rfl, ?_⟩
  rw [dV_str]
  exact c _ S _ H (Kp.refl _ _) (.bl _) l q
theorem dn_neS : Dn2 K neS3 rNe := by
  intro Z x y S Q3 v w H Q rx ry l h c
  obtain ⟨i, j, rfl, rfl, q⟩ := h
  cases rx
  cases ry
  refine ⟨rfl, ?_⟩
  rw [dV_str]
  exact c _ S _ H (Kp.refl _ _) (.bl _) l q
/-! == of data -/
mutual
/-- the datum that a value of S stands for -/
inductive Dn (S : Hp3) : D → Dt → Prop where
  | non : Dn S .non .non
  | bl (b : Bool) : Dn S (.bl b) (.bl b)
  | int (i : Int) : Dn S (.int i) (.int i)
  | str (x : Str) : Dn S (.str x) (.str x)
  | tup {ds : List D} {es : List Dt} : Dns S ds es → Dn S (.tup ds) (.tup es)
  | rol {ds : List D} {es : List Dt} : Dns S ds es → Dn S (.rol ds) (.lst es)
  | ref {a : Addr} {ds : List D} {es : List Dt} : S a = some (.lst ds) → Dns S ds es → Dn S (.ref a) (.lst es)
inductive Dns (S : Hp3) : List D → List Dt → Prop where
  | nil : Dns S [] []
  | cons {d : D} {e : Dt} {ds : List D} {es : List Dt} : Dn S d e → Dns S ds es → Dns S (d :: ds) (e :: es)
end
mutual
theorem Dn.down {Z : Zt} {S : Hp3} {H : Hp} (l : Rl K Z S H) : ∀ {d : D} {e : Dt} {v : V}, Dn S d e → Rp K H d v → DR K H e v
  | _, _, _, .non, .non => .non
  | _, _, _, .bl _, .bl _ => .bl _
  | _, _, _, .int _, .int _ => .int _
  | _, _, _, .str _, .str _ => .str _
  | _, _, _, .tup h, .tup p q => .tup p (Dns.down l h q)
  | _, _, _, .rol h, .rol p q => .lst p.sq (Dns.down l h q)
  | _, _, _, .ref e h, .ref _ => by
    obtain ⟨vs, h1, h2⟩ := l.obj _ _ e
    exact .lst (SqL.of h1) (Dns.down l h h2)
theorem Dns.down {Z : Zt} {S : Hp3} {H : Hp} (l : Rl K Z S H) : ∀ {ds : List D} {es : List Dt} {vs : List V}, Dns S ds es → Rps K H ds vs → DRs K H es vs
  | _, _, _, .nil, .nil => .nil
  | _, _, _, .cons h t, .cons p q => .cons (Dn.down l h p) (Dns.down l t q)
end
mutual
/-- a value without addresses is a datum -/
def D.dt : D → Dt
  | .non => .non
  | .bl b => .bl b
  | .int i => .int i
  | .str x => .str x
  | .tup ds => .tup (D.dts ds)
  | .rol ds => .lst (D.dts ds)
  | .ref _ => .non
  | .ty _ => .non
def D.dts : List D → List Dt
  | [] => []
  | d :: ds => d.dt :: D.dts ds
end
mutual
def D.pure : D → Bool
  | .tup ds => D.pures ds
  | .rol ds => D.pures ds
  | .ref _ => false
  | .ty _ => false
  | _ => true
def D.pures : List D → Bool
  | [] => true
  | d :: ds => d.pure && D.pures ds
end
mutual
theorem Dn.of {S : Hp3} : ∀ {d : D}, d.pure = true → Dn S d d.dt
  | .non, _ => .non
  | .bl _, _ => .bl _
  | .int _, _ => .int _
  | .str _, _ => .str _
  | .tup ds, h => by simp only [D.pure] at h; simp only [D.dt]; exact .tup (Dns.of h)
  | .rol ds, h => by simp only [D.pure] at h; simp only [D.dt]; exact .rol (Dns.of h)
  | .ref _, h => by simp [D.pure] at h
  | .ty _, h => by simp [D.pure] at h
theorem Dns.of {S : Hp3} : ∀ {ds : List D}, D.pures ds = true → Dns S ds (D.dts ds)
  | [], _ => .nil
  | d :: ds, h => by
    simp only [D.pures, Bool.and_eq_true] at h
    simp only [D.dts]
    exact .cons (Dn.of h.1) (Dns.of h.2)
end
theorem D.pures_iff : ∀ {ds : List D}, D.pures ds = true ↔ ∀ d ∈ ds, d.pure = true
  | [] => by simp [D.pures]
  | d :: ds => by simp [D.pures, D.pures_iff (ds := ds)]
theorem D.dts_map : ∀ ds : List D, D.dts ds = ds.map D.dt
  | [] => rfl
  | d :: ds => by simp only [D.dts, List.map_cons, D.dts_map ds]
def eqD3 (n : Nat) : R3 := fun x y S Q => ∃ d e, Dn S x d ∧ Dn S y e ∧ deepD d ≤ n ∧ Q (.bl (eqD d e)) S
theorem dn_eqD {n : Nat} : Dn2 K (eqD3 n) (fun x y H Q => ∃ d e, DR K H d x ∧ DR K H e y ∧ deepD d ≤ n ∧ Q (.bl (eqD d e)) H) := by
  intro Z x y S Q3 v w H Q rx ry l h c
  obtain ⟨d, e, h1, h2, hn, q⟩ := h
  exact ⟨d, e, h1.down l rx, h2.down l ry, hn, c _ S _ H (Kp.refl _ _) (.bl _) l q⟩
/-! in, not in, flat -/
def flatD : D → Bool
  | .non => true
  | .bl _ => true
  | .int _ => true
  | .str _ => true
  | _ => false
def vD : D → V
  | .non => .non
  | .bl b => .bl b
  | .int i => .int i
  | .str x => .str x
  | _ => .non
theorem flat_down {H : Hp} {x : D} {v : V} (r : Rp K H x v) (h : flatD x = true) : v = vD x ∧ flatV v = true := by
  cases r <;> first | exact ⟨rfl, rfl⟩ | (simp [flatD] at h)
theorem flats_down {H : Hp} : ∀ {ds : List D} {vs : List V}, Rps K H ds vs → ds.all flatD = true → vs = ds.map vD ∧ vs.all flatV = true
  | _, _, .nil, _ => ⟨rfl, rfl⟩
  | _, _, .cons r t, h => by
    simp only [List.all_cons, Bool.and_eq_true] at h
    obtain ⟨e1, f1⟩ := flat_down r h.1
    obtain ⟨e2, f2⟩ := flats_down t h.2
    subst e1
    subst e2
    exact ⟨rfl, by simp only [List.all_cons, f1, f2, Bool.and_self]⟩
def memD (x : D) (ds : List D) : Bool := inV (vD x) (ds.map vD)
def in3 (neg : Bool) : R3 := fun x y S Q => ∃ ds, (IsL S y ds ∨ y = .tup ds) ∧ flatD x = true ∧ ds.all flatD = true ∧ Q (.bl (if neg then !memD x ds else memD x ds)) S
theorem dn_in {neg : Bool} : Dn2 K (in3 neg) (rIn K neg) := by
  intro Z x y S Q3 v w H Q rx ry l h c
  obtain ⟨ds, hy, fx, fd, q⟩ := h
  obtain ⟨e1, f1⟩ := flat_down rx fx
  subst e1
  rcases hy with hy | rfl
  · obtain ⟨a, vs, rfl, h1, h2⟩ := hy.down ry l
    obtain ⟨e2, f2⟩ := flats_down h2 fd
    subst e2
    exact ⟨a, _, rfl, .inl h1, f1, f2, c _ S _ H (Kp.refl _ _) (.bl _) l q⟩
  · cases ry with
    | tup h1 h2 =>
      obtain ⟨e2, f2⟩ := flats_down h2 fd
      subst e2
      exact ⟨_, _, rfl, .inr h1, f1, f2, c _ S _ H (Kp.refl _ _) (.bl _) l q⟩
theorem memD_strs (x : Str) (xs : List Str) : memD (.str x) (xs.map D.str) = decide (x ∈ xs) := by
  unfold memD inV
  induction xs with
  | nil => rfl
  | cons y ys ih =>
    simp only [List.map_cons, List.any_cons, List.mem_cons]
    rw [ih]
    by_cases h : y = x
    · subst h; simp [eqV, vD]
    · have h' : ¬ x = y := fun z => h z.symm
      simp [eqV, vD, h, h']
theorem flat_strs (xs : List Str) : (xs.map D.str).all flatD = true := by
  induction xs with
  | nil => rfl
  | cons y ys ih => simp only [List.map_cons, List.all_cons, ih]; rfl
/-! indexes and slices -/
def ixL3 : R3 := fun x y S Q => ∃ ds i d, IsL S x ds ∧ y = .int i ∧ atI ds i = some d ∧ Q d S
def ixT3 : R3 := fun x y S Q => ∃ ds i d, x = .tup ds ∧ y = .int i ∧ atI ds i = some d ∧ Q d S
def ixS3 : R3 := fun x y S Q => ∃ z i c, x = .str z ∧ y = .int i ∧ z.length ≤ sizeLine ∧ atI z.cps.toList i = some c ∧ Q (.str ⟨#[c]⟩) S
theorem Rps.atI {H : Hp} {ds : List D} {vs : List V} {i : Int} {d : D} (r : Rps K H ds vs) (h : L2.atI ds i = some d) : ∃ v, L2.atI vs i = some v ∧ Rp K H d v := by
  unfold L2.atI at h ⊢
  rw [r.len] at h
  cases e : ixN vs.length i with
  | none => rw [e] at h; cases h
  | some j =>
    rw [e] at h
    exact r.at h
theorem dn_ixL : Dn2 K ixL3 (rIxL K) := by
  intro Z x y S Q3 v w H Q rx ry l h c
  obtain ⟨ds, i, d, h1, rfl, h2, q⟩ := h
  cases ry
  obtain ⟨a, vs, rfl, h3, h4⟩ := h1.down rx l
  obtain ⟨u, h5, h6⟩ := h4.atI h2
  exact ⟨a, vs, i, u, rfl, rfl, h3, h5, c d S u H (Kp.refl _ _) h6 l q⟩
theorem dn_ixT : Dn2 K ixT3 (rIxT K) := by
  intro Z x y S Q3 v w H Q rx ry l h c
  obtain ⟨ds, i, d, rfl, rfl, h2, q⟩ := h
  cases ry
  cases rx with
  | tup h3 h4 =>
    obtain ⟨u, h5, h6⟩ := h4.atI h2
    exact ⟨_, _, i, u, rfl, rfl, h3, h5, c d S u H (Kp.refl _ _) h6 l q⟩
theorem dn_ixS : Dn2 K ixS3 rIxS := by
  intro Z x y S Q3 v w H Q rx ry l h c
  obtain ⟨z, i, k, rfl, rfl, hz, h2, q⟩ := h
  cases ry
  cases rx
  exact ⟨z, i, k, rfl, rfl, hz, h2, c _ S _ H (Kp.refl _ _) (.str _) l q⟩
def cutD (xs : List D) (lo hi : Option Int) : List D := (xs.drop (HT.sIx xs.length 0 lo)).take (HT.sIx xs.length xs.length hi - HT.sIx xs.length 0 lo)
theorem Rps.cut {H : Hp} {ds : List D} {vs : List V} (r : Rps K H ds vs) (lo hi : Option Int) : Rps K H (cutD ds lo hi) (cutV vs lo hi) := by
  unfold cutD cutV
  rw [r.len]
  exact (r.drop _).take _
def slL3 : D → Option Int → Option Int → Hp3 → K3 → Prop := fun x lo hi S Q => ∃ ds, IsL S x ds ∧ newL S (cutD ds lo hi) Q
def slT3 : D → Option Int → Option Int → Hp3 → K3 → Prop := fun x lo hi S Q => ∃ ds, x = .tup ds ∧ Q (.tup (cutD ds lo hi)) S
def slS3 : D → Option Int → Option Int → Hp3 → K3 → Prop := fun x lo hi S Q => ∃ z, x = .str z ∧ z.length ≤ sizeLine ∧ Q (.str (textOf (cutT z.cps.toList lo hi))) S
theorem dn_slL : DnS K slL3 (rSlL K) := by
  intro Z x lo hi S Q3 v H Q rx l h c
  obtain ⟨ds, h1, q⟩ := h
  obtain ⟨a, vs, rfl, h3, h4⟩ := h1.down rx l
  exact ⟨a, vs, rfl, h3, newL.down q (h4.cut lo hi) l c⟩
theorem dn_slS : DnS K slS3 rSlS := by
  intro Z x lo hi S Q3 v H Q rx l h c
  obtain ⟨z, rfl, hz, q⟩ := h
  cases rx
  exact ⟨z, rfl, hz, c _ S _ H (Kp.refl _ _) (.str _) l q⟩
/-! + of lists, of tuples -/
def catL3 : R3 := fun x y S Q => ∃ a b ds es, x = .ref a ∧ y = .ref b ∧ S a = some (.lst ds) ∧ S b = some (.lst es) ∧ ds.length + es.length ≤ sizeLine ∧ newL S (ds ++ es) Q
theorem dn_catL : Dn2 K catL3 rCat := by
  intro Z x y S Q3 v w H Q rx ry l h c
  obtain ⟨a, b, ds, es, rfl, rfl, h1, h2, hz, q⟩ := h
  cases rx
  cases ry
  obtain ⟨vs, h3, h4⟩ := l.obj a _ h1
  obtain ⟨ws, h5, h6⟩ := l.obj b _ h2
  exact ⟨a, b, vs, ws, rfl, rfl, h3, h5, by rw [← h4.len, ← h6.len]; exact hz, newL.down q (h4.append h6) l c⟩
def catT3 : R3 := fun x y S Q => ∃ ds es, x = .tup ds ∧ y = .tup es ∧ ds ≠ [] ∧ ds.length + es.length ≤ sizeLine ∧ Q (.tup (ds ++ es)) S
/-! calls -/
def len3 : List D → Hp3 → K3 → Prop := fun xs S Q => ∃ x ds, xs = [x] ∧ (IsL S x ds ∨ x = .tup ds) ∧ Q (.int ds.length) S
theorem dn_len : DnC K len3 (fun xs H Q => ∃ p ys, xs = [.ref p] ∧ (SqL K H p ys ∨ SqT K H p ys) ∧ Q (.int ys.length) H) := by
  intro Z ds S Q3 vs H Q r l h c
  obtain ⟨x, es, rfl, hx, q⟩ := h
  cases r with
  | cons r rr =>
    cases rr
    rcases hx with hx | rfl
    · obtain ⟨a, ws, rfl, h3, h4⟩ := hx.down r l
      refine ⟨a, ws, rfl, .inl h3, ?_⟩
      rw [← h4.len]
      exact c _ S _ H (Kp.refl _ _) (.int _) l q
    · cases r with
      | tup h3 h4 =>
        refine ⟨_, _, rfl, .inr h3, ?_⟩
        rw [← h4.len]
        exact c _ S _ H (Kp.refl _ _) (.int _) l q
def lenS3 : List D → Hp3 → K3 → Prop := fun xs S Q => ∃ z, xs = [.str z] ∧ z.length ≤ sizeLine ∧ Q (.int z.length) S
theorem dn_lenS : DnC K lenS3 (fun xs H Q => ∃ z, xs = [.str z] ∧ z.length ≤ sizeLine ∧ Q (.int z.length) H) := by
  intro Z ds S Q3 vs H Q r l h c
  obtain ⟨z, rfl, hz, q⟩ := h
  cases r with
  | cons r rr =>
    cases rr
    cases r
    exact ⟨z, rfl, hz, c _ S _ H (Kp.refl _ _) (.int _) l q⟩
def toList3 : List D → Hp3 → K3 → Prop := fun xs S Q => ∃ x ds, xs = [x] ∧ (IsL S x ds ∨ x = .tup ds) ∧ newL S ds Q
theorem dn_toList : DnC K toList3 (fun xs H Q => ∃ p ys, xs = [.ref p] ∧ (SqL K H p ys ∨ SqT K H p ys) ∧ ∀ l, H l = none → Q (.ref l) (upd H l (.lst ys))) := by
  intro Z ds S Q3 vs H Q r l h c
  obtain ⟨x, es, rfl, hx, q⟩ := h
  cases r with
  | cons r rr =>
    cases rr
    rcases hx with hx | rfl
    · obtain ⟨a, ws, rfl, h3, h4⟩ := hx.down r l
      exact ⟨a, ws, rfl, .inl h3, newL.down q h4 l c⟩
    · cases r with
      | tup h3 h4 => exact ⟨_, _, rfl, .inr h3, newL.down q h4 l c⟩
def toTup3 : List D → Hp3 → K3 → Prop := fun xs S Q => ∃ x ds, xs = [x] ∧ (IsL S x ds ∨ x = .tup ds) ∧ Q (.tup ds) S
theorem dn_toTup : DnC K toTup3 (fun xs H Q => ∃ p ys, xs = [.ref p] ∧ ((SqL K H p ys ∧ ∀ l, H l = none → Q (.ref l) (upd H l (.tup ys))) ∨ (SqT K H p ys ∧ Q (.ref p) H))) := by
  intro Z ds S Q3 vs H Q r l h c
  obtain ⟨x, es, rfl, hx, q⟩ := h
  cases r with
  | cons r rr =>
    cases rr
    rcases hx with hx | rfl
    · obtain ⟨a, ws, rfl, h3, h4⟩ := hx.down r l
      exact ⟨a, ws, rfl, .inl ⟨h3, tup.down q h4 l c⟩⟩
    · cases r with
      | tup h3 h4 => exact ⟨_, _, rfl, .inr ⟨h3, c _ S _ H (Kp.refl _ _) (.tup h3 h4) l q⟩⟩
/-! methods -/
def append3 : D → List D → Hp3 → K3 → Prop := fun x ys S Q => ∃ a ds y, x = .ref a ∧ ys = [y] ∧ S a = some (.lst ds) ∧ ds.length < sizeLine ∧ Q .non (up S a (.lst (ds ++ [y])))
theorem dn_append : DnM K append3 rAppend := by
  intro Z x ds S Q3 v vs H Q rx r l h c
  obtain ⟨a, es, y, rfl, rfl, e, hz, q⟩ := h
  cases rx
  cases r with
  | @cons _ w _ _ r rr =>
    cases rr
    obtain ⟨ws, h1, h2⟩ := l.obj a _ e
    have kk : Kp Z H (upd H a (.lst (ws ++ [w]))) := Kp.at l e
    exact ⟨a, ws, w, rfl, rfl, h1, by rw [← h2.len]; exact hz, c _ _ _ _ kk .non (l.put (o := .lst (es ++ [y])) kk (l.notZ e) ⟨_, upd_same, (h2.mono kk).append (.cons (r.mono kk) .nil)⟩) q⟩
def pop3 : D → List D → Hp3 → K3 → Prop := fun x ys S Q => ∃ a ds y, x = .ref a ∧ ys = [] ∧ S a = some (.lst (ds ++ [y])) ∧ Q y (up S a (.lst ds))
theorem dn_pop : DnM K pop3 rPopS := by
  intro Z x ds S Q3 v vs H Q rx r l h c
  obtain ⟨a, es, y, rfl, rfl, e, q⟩ := h
  cases rx
  cases r
  obtain ⟨ws, h1, h2⟩ := l.obj a _ e
  obtain ⟨us, u, rfl, h3, h4⟩ := h2.snoc_inv
  have kk : Kp Z H (upd H a (.lst us)) := Kp.at l e
  exact ⟨a, us, u, rfl, rfl, h1, c _ _ _ _ kk (h4.mono kk) (l.put (o := .lst es) kk (l.notZ e) ⟨_, upd_same, h3.mono kk⟩) q⟩
def extendL3 : D → List D → Hp3 → K3 → Prop := fun x ys S Q => ∃ a b ds es, x = .ref a ∧ ys = [.ref b] ∧ S a = some (.lst ds) ∧ S b = some (.lst es) ∧ ds.length + es.length ≤ sizeLine ∧ Q .non (up S a (.lst (ds ++ es)))
theorem dn_extendL : DnM K extendL3 rExtend := by
  intro Z x ds S Q3 v vs H Q rx r l h c
  obtain ⟨a, b, es, fs, rfl, rfl, e, e2, hz, q⟩ := h
  cases rx
  cases r with
  | cons r rr =>
    cases rr
    cases r
    obtain ⟨ws, h1, h2⟩ := l.obj a _ e
    obtain ⟨us, h3, h4⟩ := l.obj b _ e2
    have kk : Kp Z H (upd H a (.lst (ws ++ us))) := Kp.at l e
    exact ⟨a, b, ws, us, rfl, rfl, h1, h3, by rw [← h2.len, ← h4.len]; exact hz, c _ _ _ _ kk .non (l.put (o := .lst (es ++ fs)) kk (l.notZ e) ⟨_, upd_same, (h2.mono kk).append (h4.mono kk)⟩) q⟩
end
end E3

namespace E3
open PySem PySem.Spec PyProof.Rows L2 EE
/-! ### slices and sums of tuples -/
section
variable {prog : Program} {w : World} {A : Around} {E : Value → Shared → Prop} {s : Shared}
theorem getItem_tuple_all {t sl : Addr} {items : Array Value} {vl vu : Value} {lo hi : Option Int} {Q : Value → Shared → Prop} (ht : IsTup s.heap t items) (hs : s.heap.IsSliceOf sl vl vu .none) (pl : IsPart vl lo) (pu : IsPart vu hi)
    (hw : HT.sIx items.size 0 lo = 0 ∧ HT.sIx items.size items.size hi = items.size) (h : Q (.ref t) s) : wpAny (model prog w) A (getItem (.ref t) (.ref sl)) Q E s := by
  obtain ⟨os, hos, hcs, hds⟩ := id hs
  have hTs : s.TypeIs (.ref sl) "slice" := ⟨os, hos, hcs⟩
  obtain ⟨o, ho, hc, hd⟩ := id ht
  unfold getItem
  try with_reducible refine wpAny_holding ?_
  first | refine wpAny_bind (wpAny_pure ?_) | skip
  refine wpAny_bind (wpAny_sequenceKey ht.typeIs (by decide) ?_)
  refine wpAny_bind (wpAny_callSpecial?_slot (name := Str.ofString "__getitem__") ht.typeIs PyProof.Rows.slot_tuple_getitem
    (wpAny_call_entry PyProof.Rows.slot_tuple_getitem ht.typeIs entry_tuple_getitem ?_ (args_tuple_getitem _ _)))
  show wpAny _ _ (Builtin.Tuple.tupleItemsOf (.ref t) >>= _) _ _ s
  refine wpAny_bind (tupleItemsOf_ ht ?_)
  refine wpAny_bind (wpAny_typeOf hTs ?_)
  rw [if_pos (by decide)]
  refine wpAny_bind (HT.sliceApplied_gen hs pl pu ?_)
  have hyes : (((HT.sIx items.size 0 lo : Nat) : Int) == 0 && (1 : Int) == 1 && (HT.sIx items.size items.size hi - HT.sIx items.size 0 lo) == items.size) = true := by
    rw [hw.1, hw.2]
    simp
  show wpAny _ _ (if (((HT.sIx items.size 0 lo : Nat) : Int) == 0 && (1 : Int) == 1 && (HT.sIx items.size items.size hi - HT.sIx items.size 0 lo) == items.size) = true then _ else _) _ _ s
  rw [if_pos hyes]
  refine wpAny_bind (m := Builtin.Tuple.tupleIsExact (Value.ref t)) ?_
  unfold Builtin.Tuple.tupleIsExact
  first
    | refine wpAny_bind (wpAny_typeOf ht.typeIs (wpAny_pure ?_))
    | exact wpAny_bind (wpAny_typeOf ht.typeIs (wpAny_pure ?_))
  rw [if_pos (by decide)]
  exact wpAny_bind (wpAny_rule (wpAny_pure ⟨_, rfl, wpAny_pure h⟩))
end
section
variable {X : Cx}
def rSlTA (K : PySem.W.Frag) : V → Option Int → Option Int → Hp → VK → Prop := fun x lo hi H Q => ∃ a xs, x = .ref a ∧ SqT K H a xs ∧
  ((HT.sIx xs.length 0 lo = 0 ∧ HT.sIx xs.length xs.length hi = xs.length) → Q (.ref a) H) ∧ (¬ (HT.sIx xs.length 0 lo = 0 ∧ HT.sIx xs.length xs.length hi = xs.length) → ∀ p, H p = none → Q (.ref p) (upd H p (.tup (cutV xs lo hi))))
theorem sl_tupA : SlR X (rSlTA X.K) := by
  intro pins s σ H x v vl vu lo hi sl Q I rx hs pl pu h
  obtain ⟨a, xs, rfl, hx, h1, h2⟩ := h
  by_cases hw : HT.sIx xs.length 0 lo = 0 ∧ HT.sIx xs.length xs.length hi = xs.length
  · cases rx
    obtain ⟨its, r, ht, hz⟩ := I.tuple hx
    have hlen : its.toArray.size = xs.length := by rw [List.size_toArray]; exact r.length.symm
    refine ⟨"tuple", _, PyProof.Rows.slot_tuple_getitem.lookup, ht.typeIs, ?_⟩
    refine getItem_tuple_all ht hs pl pu (by rw [hlen]; exact hw) ?_
    exact ⟨.ref a, H, I, rfl, h1 hw⟩
  · exact sl_tup pins s σ H _ v vl vu lo hi sl Q I rx hs pl pu ⟨a, xs, rfl, hx, hw, h2 hw⟩
theorem cutD_all {xs : List D} {lo hi : Option Int} (h : HT.sIx xs.length 0 lo = 0 ∧ HT.sIx xs.length xs.length hi = xs.length) : cutD xs lo hi = xs := by
  unfold cutD
  rw [h.1, h.2, List.drop_zero, Nat.sub_zero, List.take_length]
theorem dn_slT {K : PySem.W.Frag} : DnS K slT3 (rSlTA K) := by
  intro Z x lo hi S Q3 v H Q rx l h c
  obtain ⟨ds, rfl, q⟩ := h
  cases rx with
  | @tup a vs _ h3 h4 =>
    refine ⟨a, vs, rfl, h3, fun e => ?_, fun _ => tup.down q (h4.cut lo hi) l c⟩
    rw [← h4.len] at e
    rw [cutD_all e] at q
    exact c _ S _ H (Kp.refl _ _) (.tup h3 h4) l q
theorem dn_catT {K : PySem.W.Frag} : Dn2 K catT3 (rCatT K) := by
  intro Z x y S Q3 v w H Q rx ry l h c
  obtain ⟨ds, es, rfl, rfl, hn, hz, q⟩ := h
  cases rx with
  | @tup a vs _ h1 h2 =>
    cases ry with
    | @tup b ws _ h3 h4 =>
      refine ⟨a, b, vs, ws, rfl, rfl, h1, h3, ?_, by rw [← h2.len, ← h4.len]; exact hz, fun e => ?_, fun _ => tup.down q (h2.append h4) l c⟩
      · rintro rfl
        cases h2
        exact hn rfl
      · subst e
        cases h4
        rw [List.append_nil] at q
        exact c _ S _ H (Kp.refl _ _) (.tup h1 h2) l q
/-! isinstance(x, T), T a built-in's name -/
def TyN (S : Hp3) : D → String → Prop
  | .non, n => n = "NoneType"
  | .bl _, n => n = "bool"
  | .int _, n => n = "int"
  | .str _, n => n = "str"
  | .tup _, n => n = "tuple"
  | .rol _, n => n = "list"
  | .ref a, n => (n = "list" ∧ ∃ ds, S a = some (.lst ds)) ∨ (n = "dict" ∧ ∃ kvs, S a = some (.dic kvs))
  | .ty _, _ => False
/-- the type of a value that is of a built-in type -/
inductive TyB (K : PySem.W.Frag) (H : Hp) : V → String → Prop where
  | of {x : V} {n : String} : TyOf K H x (.type n) → TyB K H x n
  | tup {a : Addr} {xs : List V} : SqT K H a xs → TyB K H (.ref a) "tuple"
  | lst {a : Addr} {xs : List V} : SqL K H a xs → TyB K H (.ref a) "list"
theorem call_isB : CallR X (.builtin "isinstance") (fun xs H Q => ∃ x n m b, xs = [x, .ty n] ∧ TyB X.K H x m ∧ PySem.W.kitOne X.K (.type m) (.type n) = some b ∧ Q (.bl b) H) := by
  intro pins s σ H xs us Q I r h
  obtain ⟨x, n, m, b, rfl, ty, e, q⟩ := h
  obtain ⟨u, c, rfl, rx, rc⟩ := vals2 r
  obtain rfl : c = Value.type n := rc
  cases ty with
  | of t => exact isinst_ok I rx t e fun tk => ⟨.bl b, H, I.tok _, rfl, q⟩
  | @tup a xs ht =>
    cases (show u = Value.ref a from rx)
    obtain ⟨_, _, ⟨o, h1, h2, _⟩, _⟩ := I.tuple ht
    exact PySem.W.kia_one PySem.W.kitx_tuple I.kIn ⟨o, h1, h2⟩ e (fun z => nomatch z) fun tk => ⟨.bl b, H, I.tok _, rfl, q⟩
  | @lst a xs ht =>
    cases (show u = Value.ref a from rx)
    obtain ⟨_, _, ⟨o, n, h1, h2, _⟩, _⟩ := I.list ht
    exact PySem.W.kia_one PySem.W.kitx_list I.kIn ⟨o, h1, h2⟩ e (fun z => nomatch z) fun tk => ⟨.bl b, H, I.tok _, rfl, q⟩
theorem TyN.down {K : PySem.W.Frag} {Z : Zt} {S : Hp3} {H : Hp} {x : D} {v : V} {n : String} (h : TyN S x n) (r : Rp K H x v) (l : Rl K Z S H) : TyB K H v n := by
  cases r with
  | non => cases h; exact .of .non
  | bl b => cases h; exact .of (.bl b)
  | int i => cases h; exact .of (.int i)
  | str x => cases h; exact .of (.str x)
  | tup h1 h2 => cases h; exact .tup h1
  | rol h1 h2 => cases h; exact .lst h1.sq
  | ty n => exact h.elim
  | ref a =>
    rcases h with ⟨rfl, ds, e⟩ | ⟨rfl, kvs, e⟩
    · obtain ⟨vs, h1, _⟩ := l.obj a _ e
      exact .lst (SqL.of h1)
    · obtain ⟨vs, h1, _⟩ := l.obj a _ e
      exact .of (.dK h1)
/-- m is a kind of n, among Python's own -/
def kin (m n : String) : Option Bool := if m = n then some true else if m = "bool" ∧ n = "int" then some true else
  if m ∈ ["NoneType", "bool", "int", "str", "tuple", "list", "dict"] ∧ n ∈ ["bool", "int", "str", "tuple", "list", "dict"] then some false else none
theorem kin_ok {K : PySem.W.Frag} {m n : String} {b : Bool} (h : kin m n = some b) : PySem.W.kitOne K (.type m) (.type n) = some b := by
  by_cases e : m = n
  · subst e
    rw [kin, if_pos rfl] at h
    cases h
    exact kit_same K m
  rw [kin, if_neg e] at h
  by_cases e2 : m = "bool" ∧ n = "int"
  · rw [if_pos e2] at h
    cases h
    obtain ⟨rfl, rfl⟩ := e2
    unfold PySem.W.kitOne PySem.W.kitCls PySem.W.subIn
    dsimp only
    decide +kernel
  rw [if_neg e2] at h
  by_cases e3 : m ∈ ["NoneType", "bool", "int", "str", "tuple", "list", "dict"] ∧ n ∈ ["bool", "int", "str", "tuple", "list", "dict"]
  · rw [if_pos e3] at h
    cases h
    obtain ⟨h1, h2⟩ := e3
    simp only [List.mem_cons, List.not_mem_nil, or_false] at h1 h2
    unfold PySem.W.kitOne PySem.W.kitCls PySem.W.subIn
    dsimp only
    rcases h1 with rfl | rfl | rfl | rfl | rfl | rfl | rfl <;> rcases h2 with rfl | rfl | rfl | rfl | rfl | rfl <;> first | exact absurd rfl e | exact absurd ⟨rfl, rfl⟩ e2 | decide +kernel
  · rw [if_neg e3] at h
    cases h
def isB3 : List D → Hp3 → K3 → Prop := fun xs S Q => ∃ x n m b, xs = [x, .ty n] ∧ TyN S x m ∧ kin m n = some b ∧ Q (.bl b) S
theorem dn_isB {K : PySem.W.Frag} : DnC K isB3 (fun xs H Q => ∃ x n m b, xs = [x, .ty n] ∧ TyB K H x m ∧ PySem.W.kitOne K (.type m) (.type n) = some b ∧ Q (.bl b) H) := by
  intro Z ds S Q3 vs H Q r l h c
  obtain ⟨x, n, m, b, rfl, ty, e, q⟩ := h
  cases r with
  | cons r rr =>
    cases rr with
    | cons r2 rr =>
      cases rr
      cases r2
      exact ⟨_, n, m, b, rfl, ty.down r l, kin_ok e, c _ S _ H (Kp.refl _ _) (.bl _) l q⟩
end
/-! ### defs -/
abbrev Sp3 := List D → Hp3 → K3 → X3 → Prop
def lSp (K : PySem.W.Frag) (sp : Sp3) : Sp := fun vs H Q E => ∃ (Z : Zt) (ds : List D) (S : Hp3) (Q3 : K3) (E3 : X3), Rps K H ds vs ∧ Rl K Z S H ∧ sp ds S Q3 E3 ∧ CK K Z H Q3 Q ∧ CE3 K Z H E3 E
structure Cal3 (P : Program) (w : World) (K : PySem.W.Frag) (mg : Str → Option Value) (base : Heap) (k : Nat) (x : Str) (ps : List Str) (sp : Sp3) : Prop where
  ex : ∃ f fd, FnOk P w K mg base (CX1 P w) k f fd ps (lSp K sp) ∧ Binds K fd ps [] ∧ PySem.W.keepIn K (.ref f) = true ∧ mg x = some (.ref f)
def start3 (N : List Str) (ds : List D) : St3 := ds.map some ++ List.replicate (N.length - ds.length) none
section
variable {P : Program} {w : World} {K : PySem.W.Frag} {mg : Str → Option Value} {base : Heap}
theorem Cal3.mono {j k : Nat} {x : Str} {ps : List Str} {sp : Sp3} (C : Cal3 P w K mg base j x ps sp) (h : j ≤ k) : Cal3 P w K mg base k x ps sp := by
  obtain ⟨f, fd, F, r⟩ := C.ex
  exact ⟨f, fd, F.mono h, r⟩
theorem Cal3.imp {k : Nat} {x : Str} {ps : List Str} {sp sp' : Sp3} (C : Cal3 P w K mg base k x ps sp) (h : ∀ ds S Q E, sp' ds S Q E → sp ds S Q E) : Cal3 P w K mg base k x ps sp' := by
  obtain ⟨f, fd, F, r⟩ := C.ex
  refine ⟨f, fd, F.imp fun vs H Q E ⟨Z, ds, S, Q3, E3, h1, h2, h3, h4⟩ => ⟨Z, ds, S, Q3, E3, h1, h2, h _ _ _ _ h3, h4⟩, r⟩
/-- two parts of a heap -/
def Spl (S A B : Hp3) : Prop := ∀ a, (S a = A a ∧ B a = none) ∨ (A a = none ∧ S a = B a)
def Sub (A B : Hp3) : Prop := ∀ a o, A a = some o → B a = some o
/-- a promise over a part of the heap, with the rest as it was -/
def fr (sp : Sp3) : Sp3 := fun ds S Q E => ∃ S0 F, Spl S S0 F ∧ sp ds S0 (fun d S1 => ∃ S2, Sub S2 S1 ∧ ∀ S', Spl S' S2 F → Q d S') (fun C a S1 => ∃ S2, Sub S2 S1 ∧ ∀ S', Spl S' S2 F → E C a S')
theorem Rl.sub {Z : Zt} {S S' : Hp3} {H : Hp} (l : Rl K Z S H) (h : Sub S' S) : Rl K Z S' H := by
  refine ⟨fun a o e => l.obj a o (h a o e), fun a z => ⟨?_, (l.hid a z).2⟩, l.old⟩
  cases e : S' a with
  | none => rfl
  | some o =>
    have := h a o e
    rw [(l.hid a z).1] at this
    cases this
def join (A B : Hp3) : Hp3 := fun a => match A a with
  | some o => some o
  | none => B a
/-- .. with the rest hidden -/
abbrev Zt.with (Z : Zt) (H : Hp) (F : Hp3) : Zt := ⟨fun a => Z a ∨ F a ≠ none, H⟩
theorem Rl.frame {Z : Zt} {S S0 F S1 S2 : Hp3} {H H' : Hp} (l : Rl K Z S H) (hs : Spl S S0 F) (k : Kp (Z.with H F) H H') (l1 : Rl K (Z.with H F) S1 H') (h2 : Sub S2 S1) :
    Spl (join S2 F) S2 F ∧ Rl K Z (join S2 F) H' := by
  have l2 := l1.sub h2
  have dis : ∀ a, F a ≠ none → S2 a = none := fun a z => (l2.hid a (.inr z)).1
  refine ⟨fun a => ?_, fun a o e => ?_, fun a z => ?_, l.old.trans (k.unhide fun a z => .inl z)⟩
  · cases e : F a with
    | none =>
      refine .inl ⟨?_, rfl⟩
      unfold join
      cases e2 : S2 a with
      | none => exact e
      | some o => rfl
    | some o =>
      have := dis a (by rw [e]; simp)
      refine .inr ⟨this, ?_⟩
      unfold join
      rw [this]
      exact e
  · unfold join at e
    cases e2 : S2 a with
    | some q =>
      rw [e2] at e
      cases e
      exact l2.obj a _ e2
    | none =>
      rw [e2] at e
      have e : F a = some o := e
      have hne : F a ≠ none := by rw [e]; simp
      have hS : S a = some o := by
        rcases hs a with ⟨_, z⟩ | ⟨_, z⟩
        · exact absurd z hne
        · rw [z]; exact e
      exact (l.obj a o hS).keep k (k.hid a (.inr hne))
  · have z1 := l2.hid a (.inl z)
    have z2 := (l.hid a z).1
    refine ⟨?_, z1.2⟩
    unfold join
    rw [z1.1]
    show F a = none
    rcases hs a with ⟨_, q⟩ | ⟨_, q⟩
    · exact q
    · rw [← q]; exact z2
theorem Cal3.frame {k : Nat} {x : Str} {ps : List Str} {sp : Sp3} (C : Cal3 P w K mg base k x ps sp) : Cal3 P w K mg base k x ps (fr sp) := by
  obtain ⟨f, fd, F0, r⟩ := C.ex
  refine ⟨f, fd, F0.imp fun vs H Q E ⟨Z, ds, S, Q3, E3, h1, l, ⟨S0, F, hs, h3⟩, cq, ce⟩ => ?_, r⟩
  refine ⟨Z.with H F, ds, S0, _, _, h1, ⟨fun a o e => ?_, fun a z => ?_, Kp.refl _ _⟩, h3, ?_, ?_⟩
  · refine l.obj a o ?_
    rcases hs a with ⟨q, _⟩ | ⟨q, _⟩
    · rw [q]; exact e
    · rw [q] at e; cases e
  · rcases z with z | z
    · have z2 := l.hid a z
      refine ⟨?_, z2.2⟩
      rcases hs a with ⟨q, _⟩ | ⟨q, _⟩
      · rw [← q]; exact z2.1
      · exact q
    · rcases hs a with ⟨_, q⟩ | ⟨q, q2⟩
      · exact absurd q z
      · refine ⟨q, ?_⟩
        cases e : F a with
        | none => exact absurd e z
        | some o => exact (l.obj a o (q2.trans e)).there
  · intro d S1 v H' k1 r1 l1 ⟨S2, hsub, q⟩
    obtain ⟨sp', l'⟩ := l.frame hs k1 l1 hsub
    exact cq d _ v H' (k1.unhide fun a z => .inl z) r1 l' (q _ sp')
  · intro C a S1 H' k1 l1 ha ⟨S2, hsub, q⟩
    obtain ⟨sp', l'⟩ := l.frame hs k1 l1 hsub
    exact ce C a _ H' (k1.unhide fun a z => .inl z) l' ha (q _ sp')
theorem spl_emp (S : Hp3) : Spl S emp S := fun _ => .inr ⟨rfl, rfl⟩
theorem spl_emp_eq {S F : Hp3} (h : Spl S emp F) : S = F := by
  funext a
  rcases h a with ⟨q, z⟩ | ⟨_, q⟩
  · rw [q, z]; rfl
  · exact q
theorem sub_emp (S : Hp3) : Sub emp S := fun a o e => (nomatch e)
def one (p : Addr) (o : O) : Hp3 := fun a => if a = p then some o else none
theorem spl_one {S F : Hp3} {p : Addr} {o : O} (h : Spl S (one p o) F) : F p = none ∧ S = up F p o := by
  have hp : F p = none := by
    rcases h p with ⟨_, z⟩ | ⟨q, _⟩
    · exact z
    · simp [one] at q
  refine ⟨hp, funext fun a => ?_⟩
  by_cases e : a = p
  · subst e
    rw [up_same]
    rcases h a with ⟨q, _⟩ | ⟨q, _⟩
    · rw [q]; simp [one]
    · simp [one] at q
  · rw [up_ne e]
    rcases h a with ⟨q, z⟩ | ⟨_, q⟩
    · rw [q, z]; simp [one, e]
    · exact q
theorem sub_one {S : Hp3} {p : Addr} {o : O} (h : S p = some o) : Sub (one p o) S := fun a u e => by
  unfold one at e
  split at e
  · subst a; cases e; exact h
  · cases e
/-- a def without lists among its arguments: its answer is a value -/
def vS (A : List D → (D → Prop) → Prop) : Sp3 := fun ds S Q _ => A ds fun d => Q d S
/-- .. a new list -/
def lSt (A : List D → (List D → Prop) → Prop) : Sp3 := fun ds S Q _ => A ds fun ys => newL S ys Q
variable {x : Str} {st : Stmt} {N ps : List Str} {k : Nat}
/-- what is hidden at a def's entry -/
abbrev Zt.at (Z : Zt) (H : Hp) : Zt := ⟨Z.p, H⟩
theorem Rl.into {Z : Zt} {S : Hp3} {H : Hp} (l : Rl K Z S H) : Rl K (Z.at H) S H := ⟨l.obj, l.hid, Kp.refl _ _⟩
theorem Rl.out {Z : Zt} {S S' : Hp3} {H H' : Hp} (l' : Rl K (Z.at H) S' H') (l : Rl K Z S H) (k : Kp (Z.at H) H H') : Rl K Z S' H' := ⟨l'.obj, l'.hid, l.old.trans (k.unhide fun _ z => z)⟩
def zx0 {X : Cx} (Z : Zt) (H : Hp) : ZX X NoX := ZX.no X (Z.at H)
/-- THE RULE for a def; what its body is read with may be stronger than what is wanted -/
theorem _root_.EE.Has.cal3 {sp : Sp3} (h : Has K mg x st ps) (S : FnScope N ps (defScope st)) (len : ∀ vs H Q E, sp vs H Q E → vs.length = ps.length)
    (hbody : ∀ (f : Addr) (cdv : Value) (A : Around) (outer : List Env) (s : Shared) (H : Hp) (E : XK) (ds : List D) (S : Hp3) (Q : K3) (E3 : X3), Room k (A.deeper (envOfC x (defScope st) s.heap.objs.size f cdv)) → sp ds S Q E3 →
      ∃ t Q', PSs3 (cxOf (CX1 P w) P w K mg base N x (defScope st) f cdv A outer s H E).nox NoX (defBody st) t ∧ t { nx := fun _ S' => Q' .non S', rt := Q' } (start3 N ds) S ∧ ∀ d S', Q' d S' → Q d S') : Cal3 P w K mg base (k + 1) x ps sp := by
  obtain ⟨f, fd, F, b, m⟩ := h.ex
  obtain ⟨oc, od, kV, doc, pm, an, cdv, ct, osl, rfl, lk, hcd⟩ := F.ex
  refine ⟨f, _, fn_of lk hcd S (fun vs H Q E ⟨Z, ds, S, Q3, E3, h1, _, h3, _⟩ => by rw [← h1.len]; exact len _ _ _ _ h3) fun A outer s H vs Q E hr ⟨Z, ds, S3, Q3, E3, h1, h2, h3, h4, _⟩ => ?_, b, F.kp, m⟩
  obtain ⟨t, Q', ht, q, hw⟩ := hbody f cdv A outer s H E ds S3 Q3 E3 hr h3
  refine ⟨_, (ht (zx0 Z H)).nox, _, start3 N ds, S3, ?_, h2.into, q, ⟨?_, ?_, ?_, ?_⟩⟩
  · unfold start3 L2.start
    rw [h1.len]
    exact paired_append (SR.ofRps h1) (SR.nones _)
  · intro σ S' τ H' kk _ l q'
    exact h4 .non S' .non H' (kk.unhide fun _ z => z) .non (l.out h2 kk) (hw _ _ q')
  · exact fun _ _ _ _ _ _ _ z => z
  · exact fun _ _ _ _ _ _ _ z => z
  · exact fun d S' v H' kk r l q' => h4 d S' v H' (kk.unhide fun _ z => z) r (l.out h2 kk) (hw _ _ q')
/-- a def that answers a value (no list goes in or out by name), in a heap of its own -/
theorem _root_.EE.Has.val {A : List D → (D → Prop) → Prop} (h : Has K mg x st ps) (S : FnScope N ps (defScope st)) (len : ∀ ds q, A ds q → ds.length = ps.length)
    (hbody : ∀ (f : Addr) (cdv : Value) (Ar : Around) (outer : List Env) (s : Shared) (H : Hp) (E : XK) (ds : List D) (q : D → Prop), Room k (Ar.deeper (envOfC x (defScope st) s.heap.objs.size f cdv)) → A ds q →
      ∃ t, PSs3 (cxOf (CX1 P w) P w K mg base N x (defScope st) f cdv Ar outer s H E).nox NoX (defBody st) t ∧ t { nx := fun _ _ => q .non, rt := fun d _ => q d } (start3 N ds) emp) : Cal3 P w K mg base (k + 1) x ps (vS A) := by
  have C : Cal3 P w K mg base (k + 1) x ps (fun ds S Q E => S = emp ∧ ∃ q, A ds q ∧ ∀ d S', q d → Q d S') := by
    refine h.cal3 S (fun vs H Q E ⟨_, q, z, _⟩ => len _ _ z) fun f cdv Ar outer s H E ds S3 Q E3 hr z => ?_
    obtain ⟨rfl, q, z, hq⟩ := z
    obtain ⟨t, h1, h2⟩ := hbody f cdv Ar outer s H E ds _ hr z
    exact ⟨t, fun d _ => q d, h1, h2, hq⟩
  exact C.frame.imp fun ds S Q E z => ⟨emp, S, spl_emp S, rfl, _, z, fun d S1 hq => ⟨emp, sub_emp _, fun S' h => spl_emp_eq h ▸ hq⟩⟩
/-- a def that answers a new list -/
theorem _root_.EE.Has.lst {A : List D → (List D → Prop) → Prop} (h : Has K mg x st ps) (S : FnScope N ps (defScope st)) (len : ∀ ds q, A ds q → ds.length = ps.length)
    (hbody : ∀ (f : Addr) (cdv : Value) (Ar : Around) (outer : List Env) (s : Shared) (H : Hp) (E : XK) (ds : List D) (q : List D → Prop), Room k (Ar.deeper (envOfC x (defScope st) s.heap.objs.size f cdv)) → A ds q →
      ∃ t, PSs3 (cxOf (CX1 P w) P w K mg base N x (defScope st) f cdv Ar outer s H E).nox NoX (defBody st) t ∧ t { nx := fun _ _ => False, rt := fun d S' => ∃ p ys, d = .ref p ∧ S' p = some (.lst ys) ∧ q ys } (start3 N ds) emp) : Cal3 P w K mg base (k + 1) x ps (lSt A) := by
  have C : Cal3 P w K mg base (k + 1) x ps (fun ds S Q E => S = emp ∧ ∃ q, A ds q ∧ ∀ d S', (∃ p ys, d = .ref p ∧ S' p = some (.lst ys) ∧ q ys) → Q d S') := by
    refine h.cal3 S (fun vs H Q E ⟨_, q, z, _⟩ => len _ _ z) fun f cdv Ar outer s H E ds S3 Q E3 hr z => ?_
    obtain ⟨rfl, q, z, hq⟩ := z
    obtain ⟨t, h1, h2⟩ := hbody f cdv Ar outer s H E ds _ hr z
    refine ⟨t, fun d S' => ∃ p ys, d = .ref p ∧ S' p = some (.lst ys) ∧ q ys, h1, ?_, hq⟩
    have e : (fun (_ : St3) (_ : Hp3) => False) = fun (_ : St3) (S' : Hp3) => ∃ p ys, D.non = .ref p ∧ S' p = some (.lst ys) ∧ q ys := by
      funext _ S'
      refine propext ⟨False.elim, fun z => ?_⟩
      obtain ⟨p, ys, z, _⟩ := z
      cases z
    rw [← e]
    exact h2
  refine C.frame.imp fun ds S Q E z => ⟨emp, S, spl_emp S, rfl, _, z, fun d S1 ⟨p, ys, e, hp, hq⟩ => ⟨one p (.lst ys), sub_one hp, fun S' h => ?_⟩⟩
  obtain ⟨h1, rfl⟩ := spl_one h
  subst e
  exact hq p h1
section
variable {X : Cx} {CX : CXT} {k : Nat} {f C : Addr} {fd : FuncData} {ps : List Str} {sp : Sp} {dvs : List V} {ds : List Value} {E : L2.St → XK} {x : Str} {p pos : Pos} {e : Expr} {es : List Expr} {t : TA}
/-- a call; what is wished of an exception may speak of the locals -/
theorem pe_callA (F : FnOk X.prog X.w X.K X.mg X.base CX k f fd ps sp) (hr : Room k X.A) (hg : Gl X x) (hm : X.mg x = some (.ref f)) (hk : PySem.W.keepIn X.K (.ref f) = true) (hb : Binds X.K fd ps ds) (hd : Vals dvs ds) (hx : ∀ τ, PassesAt CX X (E τ) τ)
    (ha : PA X (e :: es) t) (hdb : (x == ("__debug__" : Str)) = false := by decide) (he : starEach (e :: es) X.env = (false, eval e X.env) :: starEach es X.env := by rfl) (hpl : (backTo pos (starEach es X.env)).any (·.1) = false := by rfl) :
    PE X (.Call (.Name x p) (e :: es) [] pos) (fun τ H Q => t τ H fun vs H1 => sp (vs ++ dvs) H1 Q (E τ)) := by
  intro pins s σ H Q I h
  refine wpAny_Call_Name_kw (ld_glob I hg hm ?_ hdb)
  refine PySem.W.callWith_K (h₀ := X.base) I.ok.mod.kin hk (thn (ha pos pins s σ H _ I h) fun us s1 ⟨vs, H1, I1, r, q⟩ => ⟨I1.kIn, ?_⟩) he hpl
  have r2 : Vals (vs ++ dvs) (us ++ ds) := r.append hd
  have hl : (us ++ ds).length = ps.length := by rw [← r2.length]; exact F.len _ _ _ _ q
  refine wpAny_call (codeAny_mono (F.run X.A X.stack s1 H1 ⟨us, []⟩ (us ++ ds) (vs ++ dvs) Q (E σ) hr I1.env0 (hb s1 us I1.kIn hl) r2 q) fun r s' hq => ?_)
  cases r with
  | error e => exact hx σ pins H1 s1 e s' I1 hq
  | ok fl =>
    cases fl with
    | ret u => exact I1.after hq
    | next => exact False.elim hq
    | brk => exact False.elim hq
    | cont => exact False.elim hq
end
/-- f(..) -/
def call3 (sp : Sp3) (W3 : W3T) (t : TA3) : TE3 := fun σ S Q => t σ S fun ds S1 => sp ds S1 Q (W3 σ)
variable {X : Cx} {W3 : W3T} {y : Str} {pos p : Pos} {e : Expr} {es : List Expr} {t : TA3} {sp : Sp3}
theorem e_call (C : Cal3 X.prog X.w X.K X.mg X.base k y ps sp) (hr : Room k X.A) (hg : Gl X y) (ha : PA3 X W3 (e :: es) t)
    (hdb : (y == ("__debug__" : Str)) = false := by decide) (he : starEach (e :: es) X.env = (false, eval e X.env) :: starEach es X.env := by rfl) (hpl : (backTo pos (starEach es X.env)).any (·.1) = false := by rfl) :
    PE3 X W3 (.Call (.Name y p) (e :: es) [] pos) (call3 sp W3 t) := by
  obtain ⟨f, fd, F, b, kp, m⟩ := C.ex
  refine fun Z => PE.imp (pe_callA F hr hg m kp b .nil Z.pass (ha Z) hdb he hpl) fun τ H Q ⟨σ, S, Q3, hs, hr, ht, hc⟩ => ?_
  refine ⟨σ, S, _, hs, hr, ht, fun ds S1 vs H1 k1 r1 l1 q1 => ?_⟩
  exact ⟨Z.z, ds, S1, Q3, W3 σ, by rw [List.append_nil]; exact r1, l1, q1, hc.mono k1, fun C a S2 H2 k2 l2 ha z => Z.ce σ τ C a S2 H2 (hs.mono (k1.trans k2)) l2 ha z⟩
end
end E3

namespace E3
open PySem PySem.Spec PyProof.Rows L2 EE
/-! ### steps of a reading -/
section
variable {σ : St3} {S : Hp3} {Q : K3} {QT : Bool → Hp3 → Prop} {QA : List D → Hp3 → Prop} {QO : Option Int → Hp3 → Prop} {ta tb te : TE3} {tA tB : TT3} {t u : TS3} {al : TA3} {r : R3} {n b c : St3 → Hp3 → Prop} {rt : K3} {i : Nat}
theorem j_seq (h : t ⟨u ⟨n, rt, b, c⟩, rt, b, c⟩ σ S) : seq3 t u ⟨n, rt, b, c⟩ σ S := h
theorem j_next (h : n σ S) : next3 ⟨n, rt, b, c⟩ σ S := h
theorem j_drop (h : te σ S fun _ S1 => n σ S1) : drop3 te ⟨n, rt, b, c⟩ σ S := h
theorem j_ret (h : te σ S rt) : ret3 te ⟨n, rt, b, c⟩ σ S := h
theorem j_set (h : te σ S fun x S1 => n (σ.set i (some x)) S1) : set3 i te ⟨n, rt, b, c⟩ σ S := h
theorem j_asg {g : TG3} (h : te σ S fun x S1 => g x σ S1 n) : asg3 te g ⟨n, rt, b, c⟩ σ S := h
theorem j_ei {k : Int} {P : Int → Prop} (h : P k) : ∃ b, D.int k = .int b ∧ P b := ⟨k, rfl, h⟩
theorem j_ifs (h : tA σ S fun b' S1 => if b' = true then t ⟨n, rt, b, c⟩ σ S1 else u ⟨n, rt, b, c⟩ σ S1) : ifs3 tA t u ⟨n, rt, b, c⟩ σ S := h
theorem j_name {v : D} {Qs : St3 → Hp3 → Prop} (h : Qs (σ.set i (some v)) S) : name3 i v σ S Qs := h
theorem j_v {d : D} (h : σ[i]? = some (some d)) (q : Q d S) : v3 i σ S Q := ⟨d, h, q⟩
theorem j_c {d : D} (q : Q d S) : c3 d σ S Q := q
theorem j_o (h : ta σ S fun x S1 => tb σ S1 fun y S2 => r x y S2 Q) : o3 r ta tb σ S Q := h
theorem j_i3 {g : Int → Int → D} {k j : Int} (q : Q (g k j) S) : i3 g (.int k) (.int j) S Q := ⟨k, j, rfl, rfl, q⟩
theorem j_mod {g : Int → Int → D} {k j : Int} (h : 0 < j) (q : Q (g k j) S) : ic3 (fun _ j => 0 < j) g (.int k) (.int j) S Q := ⟨k, j, rfl, rfl, h, q⟩
theorem j_div {g : Int → Int → D} {k j : Int} (h : 0 < j ∧ j < 1073741824) (q : Q (g k j) S) : ic3 CDiv g (.int k) (.int j) S Q := ⟨k, j, rfl, rfl, h, q⟩
theorem j_addS {x y : Str} (h : x.length + y.length ≤ sizeLine) (q : Q (.str (x ++ y)) S) : addS3 (.str x) (.str y) S Q := ⟨x, y, rfl, rfl, h, q⟩
theorem j_isN {x : D} (q : Q (.bl (isNon x)) S) : isN3 x .non S Q := ⟨rfl, q⟩
theorem j_eqI {k j : Int} (q : Q (.bl (decide (k = j))) S) : eqI3 (.int k) (.int j) S Q := ⟨k, j, rfl, rfl, q⟩
theorem j_neI {k j : Int} (q : Q (.bl (!decide (k = j))) S) : neI3 (.int k) (.int j) S Q := ⟨k, j, rfl, rfl, q⟩
theorem j_eqS {k j : Str} (q : Q (.bl (decide (k = j))) S) : eqS3 (.str k) (.str j) S Q := ⟨k, j, rfl, rfl, q⟩
theorem j_neS {k j : Str} (q : Q (.bl (!decide (k = j))) S) : neS3 (.str k) (.str j) S Q := ⟨k, j, rfl, rfl, q⟩
theorem j_test (h : te σ S fun x S' => ∃ k, x = .bl k ∧ QT k S') : test3 te σ S QT := h
theorem j_eb {k : Bool} {P : Bool → Prop} (h : P k) : ∃ b, D.bl k = .bl b ∧ P b := ⟨k, rfl, h⟩
theorem j_truth (h : te σ S fun x S1 => ∃ k, Tru S1 x k ∧ QT k S1) : truth3 te σ S QT := h
theorem j_truL {a : Addr} {ds : List D} {P : Bool → Prop} (hS : S a = some (.lst ds)) (h : P (!ds.isEmpty)) : ∃ k, Tru S (.ref a) k ∧ P k := ⟨_, .inl ⟨ds, hS, rfl⟩, h⟩
theorem j_and (h : tA σ S fun c' S1 => if c' = true then tB σ S1 QT else QT false S1) : and3 tA tB σ S QT := h
theorem j_or (h : tA σ S fun c' S1 => if c' = true then QT true S1 else tB σ S1 QT) : or3 tA tB σ S QT := h
theorem j_not (h : tA σ S fun c' S1 => QT (!c') S1) : not3 tA σ S QT := h
theorem j_andv (h : ta σ S fun x S1 => ∃ c', x = .bl c' ∧ if c' = true then tb σ S1 Q else Q (.bl false) S1) : andv3 ta tb σ S Q := h
theorem j_ifx (h : tA σ S fun c' S1 => if c' = true then ta σ S1 Q else tb σ S1 Q) : if3 tA ta tb σ S Q := h
theorem j_nil (h : QA [] S) : nil3 σ S QA := h
theorem j_cons (h : te σ S fun x S1 => al σ S1 fun xs S2 => QA (x :: xs) S2) : cons3 te al σ S QA := h
theorem j_tup (h : al σ S fun xs S1 => xs.length ≤ sizeLine ∧ Q (.tup xs) S1) : tup3 al σ S Q := h
theorem j_lst (h : al σ S fun xs S1 => xs.length ≤ sizeLine ∧ newL S1 xs Q) : lst3 al σ S Q := h
theorem j_sz {α : Type} {xs : List α} {P : Prop} (h : xs.length ≤ sizeLine) (q : P) : xs.length ≤ sizeLine ∧ P := ⟨h, q⟩
theorem j_cb {f : List D → Hp3 → K3 → Prop} (h : al σ S fun vs S1 => f vs S1 Q) : cb3 f al σ S Q := h
theorem j_call {sp : Sp3} {W3 : W3T} (h : al σ S fun ds S1 => sp ds S1 Q (W3 σ)) : call3 sp W3 al σ S Q := h
theorem j_bm {T : String} {m : D → List D → Hp3 → K3 → Prop} (h : te σ S fun x S1 => TyD T x S1 ∧ al σ S1 fun xs S2 => m x xs S2 Q) : bm3 T m te al σ S Q := h
theorem j_bm0 {T : String} {m : D → List D → Hp3 → K3 → Prop} (h : te σ S fun x S1 => TyD T x S1 ∧ m x [] S1 Q) : bm03 T m te σ S Q := h
theorem j_tyL {a : Addr} {ds : List D} {P : Prop} (h : S a = some (.lst ds)) (q : P) : TyD "list" (.ref a) S ∧ P := ⟨.inr (.inl ⟨rfl, ds, .inl ⟨a, rfl, h⟩⟩), q⟩
theorem j_append {a : Addr} {ds : List D} {y : D} (h : S a = some (.lst ds)) (hz : ds.length < sizeLine) (q : Q .non (up S a (.lst (ds ++ [y])))) : append3 (.ref a) [y] S Q := ⟨a, ds, y, rfl, rfl, h, hz, q⟩
theorem j_pop {a : Addr} {ds : List D} {y : D} (h : S a = some (.lst (ds ++ [y]))) (q : Q y (up S a (.lst ds))) : pop3 (.ref a) [] S Q := ⟨a, ds, y, rfl, rfl, h, q⟩
theorem j_extendL {a a' : Addr} {ds es : List D} (h : S a = some (.lst ds)) (h' : S a' = some (.lst es)) (hz : ds.length + es.length ≤ sizeLine) (q : Q .non (up S a (.lst (ds ++ es)))) : extendL3 (.ref a) [.ref a'] S Q := ⟨a, a', ds, es, rfl, rfl, h, h', hz, q⟩
theorem j_ixT {ds : List D} {k : Int} {d : D} (h : atI ds k = some d) (q : Q d S) : ixT3 (.tup ds) (.int k) S Q := ⟨ds, k, d, rfl, rfl, h, q⟩
theorem j_ixL {a : Addr} {ds : List D} {k : Int} {d : D} (hS : S a = some (.lst ds)) (h : atI ds k = some d) (q : Q d S) : ixL3 (.ref a) (.int k) S Q := ⟨ds, k, d, .inl ⟨a, rfl, hS⟩, rfl, h, q⟩
theorem j_ixR {ds : List D} {k : Int} {d : D} (h : atI ds k = some d) (q : Q d S) : ixL3 (.rol ds) (.int k) S Q := ⟨ds, k, d, .inr rfl, rfl, h, q⟩
theorem j_ixS {z : Str} {k : Int} {cp : Nat} (hz : z.length ≤ sizeLine) (h : atI z.cps.toList k = some cp) (q : Q (.str ⟨#[cp]⟩) S) : ixS3 (.str z) (.int k) S Q := ⟨z, k, cp, rfl, rfl, hz, h, q⟩
theorem j_lenL {a : Addr} {ds : List D} (hS : S a = some (.lst ds)) (q : Q (.int ds.length) S) : len3 [.ref a] S Q := ⟨_, ds, rfl, .inl (.inl ⟨a, rfl, hS⟩), q⟩
theorem j_lenR {ds : List D} (q : Q (.int ds.length) S) : len3 [.rol ds] S Q := ⟨_, ds, rfl, .inl (.inr rfl), q⟩
theorem j_lenT {ds : List D} (q : Q (.int ds.length) S) : len3 [.tup ds] S Q := ⟨_, ds, rfl, .inr rfl, q⟩
theorem j_lenS {z : Str} (hz : z.length ≤ sizeLine) (q : Q (.int z.length) S) : lenS3 [.str z] S Q := ⟨z, rfl, hz, q⟩
theorem j_toListL {a : Addr} {ds : List D} (hS : S a = some (.lst ds)) (q : newL S ds Q) : toList3 [.ref a] S Q := ⟨_, ds, rfl, .inl (.inl ⟨a, rfl, hS⟩), q⟩
theorem j_toTupL {a : Addr} {ds : List D} (hS : S a = some (.lst ds)) (q : Q (.tup ds) S) : toTup3 [.ref a] S Q := ⟨_, ds, rfl, .inl (.inl ⟨a, rfl, hS⟩), q⟩
theorem j_isB {x : D} {m k : String} {b' : Bool} (h : TyN S x m) (hk : kin m k = some b') (q : Q (.bl b') S) : isB3 [x, .ty k] S Q := ⟨x, k, m, b', rfl, h, hk, q⟩
theorem j_isBL {a : Addr} {ds : List D} {k : String} {b' : Bool} (hS : S a = some (.lst ds)) (hk : kin "list" k = some b') (q : Q (.bl b') S) : isB3 [.ref a, .ty k] S Q := ⟨_, k, "list", b', rfl, .inl ⟨rfl, ds, hS⟩, hk, q⟩
theorem j_sl {f : D → Option Int → Option Int → Hp3 → K3 → Prop} {tl th : TO3} (h : te σ S fun x S1 => tl σ S1 fun l S2 => th σ S2 fun u' S3 => f x l u' S3 Q) : sl3 f te tl th σ S Q := h
theorem j_nopart (h : QO none S) : nopart3 σ S QO := h
theorem j_part (h : te σ S fun x S1 => ∃ k, x = .int k ∧ QO (some k) S1) : part3 te σ S QO := h
theorem j_slL {a : Addr} {ds : List D} {lo hi : Option Int} (hS : S a = some (.lst ds)) (q : newL S (cutD ds lo hi) Q) : slL3 (.ref a) lo hi S Q := ⟨ds, .inl ⟨a, rfl, hS⟩, q⟩
theorem j_slT {ds : List D} {lo hi : Option Int} (q : Q (.tup (cutD ds lo hi)) S) : slT3 (.tup ds) lo hi S Q := ⟨ds, rfl, q⟩
theorem j_slS {z : Str} {lo hi : Option Int} (hz : z.length ≤ sizeLine) (q : Q (.str (textOf (cutT z.cps.toList lo hi))) S) : slS3 (.str z) lo hi S Q := ⟨z, rfl, hz, q⟩
theorem j_catL {a a' : Addr} {ds es : List D} (h : S a = some (.lst ds)) (h' : S a' = some (.lst es)) (hz : ds.length + es.length ≤ sizeLine) (q : newL S (ds ++ es) Q) : catL3 (.ref a) (.ref a') S Q := ⟨a, a', ds, es, rfl, rfl, h, h', hz, q⟩
theorem j_catT {ds es : List D} (hn : ds ≠ []) (hz : ds.length + es.length ≤ sizeLine) (q : Q (.tup (ds ++ es)) S) : catT3 (.tup ds) (.tup es) S Q := ⟨ds, es, rfl, rfl, hn, hz, q⟩
theorem j_comp {wi : TI3} {js : List Nat} (h : wi σ S fun ds Al S1 => ∃ W : Nat → List D → Hp3 → Prop, W 0 [] S1 ∧ (∀ i ys S, W i ys S → Al S ∧ ys.length < sizeLine) ∧
  (∀ i d ys S, ds[i]? = some d → W i ys S → te (some d :: pick3 σ js) S fun y S' => W (i + 1) (ys ++ [y]) S') ∧ ∀ ys S, W ds.length ys S → newL S ys Q) : comp3 wi te js σ S Q := h
/-- a comprehension whose elements are values f of the items, reckoned without a trace -/
theorem comp_map {js : List Nat} {ds : List D} {Al : Hp3 → Prop} {S1 : Hp3} (f : Nat → D) (hz : ds.length ≤ 10000) (hA : Al S1)
    (h : ∀ i d, ds[i]? = some d → ∀ P : K3, P (f i) S1 → te (some d :: pick3 σ js) S1 P) (q : newL S1 ((List.range ds.length).map f) Q) :
    ∃ W : Nat → List D → Hp3 → Prop, W 0 [] S1 ∧ (∀ i ys S, W i ys S → Al S ∧ ys.length < sizeLine) ∧
  (∀ i d ys S, ds[i]? = some d → W i ys S → te (some d :: pick3 σ js) S fun y S' => W (i + 1) (ys ++ [y]) S') ∧ ∀ ys S, W ds.length ys S → newL S ys Q := by
  refine ⟨fun i ys S => i ≤ ds.length ∧ ys = (List.range i).map f ∧ S = S1, ⟨Nat.zero_le _, rfl, rfl⟩, ?_, ?_, ?_⟩
  · rintro i ys S ⟨hi, rfl, rfl⟩
    refine ⟨hA, ?_⟩
    rw [List.length_map, List.length_range]
    exact Nat.lt_of_le_of_lt (Nat.le_trans hi hz) (by decide)
  · rintro i d ys S hd ⟨hi, rfl, rfl⟩
    refine h i d hd _ ⟨(List.getElem?_eq_some_iff.mp hd).1, ?_, rfl⟩
    rw [List.range_succ, List.map_append]
    rfl
  · rintro ys S ⟨_, rfl, rfl⟩
    exact q
theorem j_for {wi : TI3} {g : TG3} (h : wi σ S fun ds Al S1 => ∃ W : Nat → St3 → Hp3 → Prop, W 0 σ S1 ∧ (∀ i σ S, W i σ S → Al S) ∧
  (∀ i d σ S, ds[i]? = some d → W i σ S → g d σ S fun σ2 S2 => t ⟨W (i + 1), rt, n, W (i + 1)⟩ σ2 S2) ∧ ∀ σ S, W ds.length σ S → n σ S) : for3 wi g t ⟨n, rt, b, c⟩ σ S := h
theorem j_while (W : Nat → St3 → Hp3 → Prop) (m : Nat) (h0 : W m σ S) (h : ∀ m σ S, W m σ S → tA σ S fun b S1 => if b = true then t ⟨fun σ' S' => ∃ m', m' < m ∧ W m' σ' S', rt, n, fun σ' S' => ∃ m', m' < m ∧ W m' σ' S'⟩ σ S1 else n σ S1) :
    while3 tA t ⟨n, rt, b, c⟩ σ S := ⟨W, ⟨m, h0⟩, h⟩
abbrev RI := List D → (Hp3 → Prop) → Hp3 → Prop
variable {R : RI}
def litA (R : RI) (x : D) (S : Hp3) : Prop := (∃ a ds, x = .ref a ∧ S a = some (.lst ds) ∧ R ds (fun S => S a = some (.lst ds)) S) ∨ ∃ ds, x = .rol ds ∧ R ds (fun _ => True) S
theorem j_iList (h : te σ S fun x S1 => litA R x S1) : iL3 te σ S R := h
theorem j_iL {a : Addr} {ds : List D} (hS : S a = some (.lst ds)) (q : R ds (fun S => S a = some (.lst ds)) S) : litA R (.ref a) S := .inl ⟨a, ds, rfl, hS, q⟩
def titA (R : RI) (x : D) (S : Hp3) : Prop := ∃ ds, x = .tup ds ∧ R ds (fun _ => True) S
theorem j_iTup (h : te σ S fun x S1 => titA R x S1) : iT3 te σ S R := h
theorem j_iT {ds : List D} (q : R ds (fun _ => True) S) : titA R (.tup ds) S := ⟨ds, rfl, q⟩
def rngA (R : RI) (vs : List D) (S : Hp3) : Prop := ∃ j : Int, vs = [.int j] ∧ -(2 ^ 62) ≤ j ∧ j < 2 ^ 62 ∧ R (nums 0 j.toNat) (fun _ => True) S
theorem j_iR1 (h : al σ S fun vs S1 => rngA R vs S1) : iR1 al σ S R := h
theorem j_rng {j : Int} (h1 : -(2 ^ 62) ≤ j ∧ j < 2 ^ 62) (q : R (nums 0 j.toNat) (fun _ => True) S) : rngA R [.int j] S := ⟨j, rfl, h1.1, h1.2, q⟩
def rngB (R : RI) (vs : List D) (S : Hp3) : Prop := ∃ i j : Int, vs = [.int i, .int j] ∧ (-(2 ^ 62) ≤ i ∧ i < 2 ^ 62 ∧ -(2 ^ 62) ≤ j ∧ j < 2 ^ 62) ∧ R (nums i (j - i).toNat) (fun _ => True) S
theorem j_iR2 (h : al σ S fun vs S1 => rngB R vs S1) : iR2 al σ S R := h
theorem j_rng2 {i j : Int} (h1 : -(2 ^ 62) ≤ i ∧ i < 2 ^ 62 ∧ -(2 ^ 62) ≤ j ∧ j < 2 ^ 62) (q : R (nums i (j - i).toNat) (fun _ => True) S) : rngB R [.int i, .int j] S := ⟨i, j, rfl, h1, q⟩
def setA (v : D) (Qs : St3 → Hp3 → Prop) (σ : St3) (o i : D) (S : Hp3) : Prop := ∃ p xs k j, o = .ref p ∧ i = .int k ∧ S p = some (.lst xs) ∧ ixN xs.length k = some j ∧ Qs σ (up S p (.lst (xs.set j v)))
theorem j_setL {v : D} {Qs : St3 → Hp3 → Prop} (h : te σ S fun o S1 => ta σ S1 fun i S2 => setA v Qs σ o i S2) : setL3 te ta v σ S Qs := h
theorem j_esL {a : Addr} {xs : List D} {k : Int} {j : Nat} {v : D} {Qs : St3 → Hp3 → Prop} (hS : S a = some (.lst xs)) (hj : ixN xs.length k = some j) (q : Qs σ (up S a (.lst (xs.set j v)))) : setA v Qs σ (.ref a) (.int k) S := ⟨a, xs, k, j, rfl, rfl, hS, hj, q⟩
end
theorem FnOk.frame {P : Program} {w : World} {K : PySem.W.Frag} {mg : Str → Option Value} {base : Heap} {k : Nat} {f : Addr} {fd : FuncData} {ps : List Str} {sp : Sp3} (F : FnOk P w K mg base (CX1 P w) k f fd ps (lSp K sp)) : FnOk P w K mg base (CX1 P w) k f fd ps (lSp K (fr sp)) := by
  refine L2.FnOk.imp F fun vs H Q E ⟨Z, ds, S, Q3, E3, h1, l, ⟨S0, F, hs, h3⟩, cq, ce⟩ => ?_
  refine ⟨Z.with H F, ds, S0, _, _, h1, ⟨fun a o e => ?_, fun a z => ?_, Kp.refl _ _⟩, h3, ?_, ?_⟩
  · refine l.obj a o ?_
    rcases hs a with ⟨q, _⟩ | ⟨q, _⟩
    · rw [q]; exact e
    · rw [q] at e; cases e
  · rcases z with z | z
    · have z2 := l.hid a z
      refine ⟨?_, z2.2⟩
      rcases hs a with ⟨q, _⟩ | ⟨q, _⟩
      · rw [← q]; exact z2.1
      · exact q
    · rcases hs a with ⟨_, q⟩ | ⟨q, q2⟩
      · exact absurd q z
      · refine ⟨q, ?_⟩
        cases e : F a with
        | none => exact absurd e z
        | some o => exact (l.obj a o (q2.trans e)).there
  · intro d S1 v H' k1 r1 l1 ⟨S2, hsub, q⟩
    obtain ⟨sp', l'⟩ := l.frame hs k1 l1 hsub
    exact cq d _ v H' (k1.unhide fun a z => .inl z) r1 l' (q _ sp')
  · intro C a S1 H' k1 l1 ha ⟨S2, hsub, q⟩
    obtain ⟨sp', l'⟩ := l.frame hs k1 l1 hsub
    exact ce C a _ H' (k1.unhide fun a z => .inl z) l' ha (q _ sp')
/-- the law itself -/
def lawS : Sp3 := vS fun ds q => ∃ ns : List Int, ds = [.rol (ns.map D.int)] ∧ ns.length ≤ 63 ∧ q (.bl true)
theorem law_fn {P : Program} {w : World} {K : PySem.W.Frag} {mg : Str → Option Value} {base : Heap} {k : Nat} {st : Stmt} {f : Addr} {fd : FuncData} {N : List Str} (F : Fun K "law" "law" st f fd) (S : FnScope N ["script"] (defScope st))
    (hbody : ∀ (cdv : Value) (A : Around) (outer : List Env) (s : Shared) (H : Hp) (E : XK) (ns : List Int), Room k (A.deeper (envOfC "law" (defScope st) s.heap.objs.size f cdv)) → ns.length ≤ 63 →
      ∃ t, PSs3 (cxOf (CX1 P w) P w K mg base N "law" (defScope st) f cdv A outer s H E).nox NoX (defBody st) t ∧ t { nx := fun _ _ => False, rt := fun d _ => d = .bl true } (start3 N [.rol (ns.map D.int)]) emp) :
    FnOk P w K mg base (CX1 P w) (k + 1) f fd ["script"] (lSp K lawS) := by
  obtain ⟨oc, od, kV, doc, pm, an, cdv, ct, osl, rfl, lk, hcd⟩ := F.ex
  refine L2.FnOk.imp (sp := lSp K (fr fun ds S Q E => S = emp ∧ ∃ ns : List Int, ds = [.rol (ns.map D.int)] ∧ ns.length ≤ 63 ∧ ∀ S', Q (.bl true) S')) (FnOk.frame ?_) fun vs H Q E ⟨Z, ds, S, Q3, E3, h1, l, ⟨ns, e, h63, q⟩, h⟩ => ⟨Z, ds, S, Q3, E3, h1, l, ⟨emp, S, spl_emp S, rfl, ns, e, h63, fun S1 => ⟨emp, sub_emp _, fun S' hS => spl_emp_eq hS ▸ q⟩⟩, h⟩
  refine fn_of lk hcd S (fun vs H Q E ⟨Z, ds, S, Q3, E3, h1, _, ⟨_, ns, z, _⟩, _⟩ => by rw [← h1.len, z]; rfl) fun A outer s H vs Q E hr ⟨Z, ds, S3, Q3, E3, h1, h2, ⟨e1, ns, e2, h63, hq⟩, h4, _⟩ => ?_
  subst e1 e2
  obtain ⟨t, ht, q⟩ := hbody cdv A outer s H E ns hr h63
  refine ⟨_, (ht (zx0 Z H)).nox, _, start3 N [.rol (ns.map D.int)], emp, ?_, h2.into, q, ⟨?_, ?_, ?_, ?_⟩⟩
  · unfold start3 L2.start
    rw [h1.len]
    exact paired_append (SR.ofRps h1) (SR.nones _)
  · exact fun _ _ _ _ _ _ _ z => z.elim
  · exact fun _ _ _ _ _ _ _ z => z
  · exact fun _ _ _ _ _ _ _ z => z
  · intro d S' v H' kk r l e
    have e : d = .bl true := e
    subst e
    exact h4 _ S' v H' (kk.unhide fun _ z => z) r (l.out h2 kk) (hq S')
theorem law_sp {K : PySem.W.Frag} {H : Hp} {a : Addr} {ns : List Int} (hl : ns.length ≤ 63) (hO : Only H) (h : SqL K H a (ns.map V.int)) : lSp K lawS [.ref a] H (fun v _ => v = .bl true) fun _ _ _ => False := by
  refine ⟨⟨fun _ => False, H⟩, [.rol (ns.map D.int)], emp, fun d _ => d = .bl true, fun _ _ _ => False, .cons (.rol (ScR.of h hO) (Rps.ints ns)) .nil, ⟨fun a o e => (nomatch e), fun a z => z.elim, Kp.refl _ _⟩, ⟨ns, rfl, hl, rfl⟩, ?_, fun _ _ _ _ _ _ _ z => z⟩
  intro d S v H' _ r _ e
  have e : d = .bl true := e
  subst e
  cases r
  rfl
theorem hu_deep {A : Around} {k : Nat} (hr : Room k A) : A.units + 200 < cLine := by have := hr.un; omega
end E3

namespace E3
open PySem PySem.Spec PyProof.Rows L2 EE
theorem Sub.refl (S : Hp3) : Sub S S := fun _ _ h => h
theorem Sub.trans {A B C : Hp3} (h : Sub A B) (h' : Sub B C) : Sub A C := fun a o e => h' a o (h a o e)
theorem Sub.up {A B : Hp3} {p : Addr} {o : O} (h : Sub A B) (hp : B p = none) : Sub A (up B p o) := fun a u e => up_get (h a u e) hp
/-- an address that is new in A is written -/
theorem Sub.at {A B : Hp3} {p : Addr} {o : O} (h : Sub A B) (hp : A p = none) : Sub A (E3.up B p o) := fun a u e => by
  rw [up_ne (ne3 e hp)]; exact h a u e
section
variable {P : Program} {w : World} {K : PySem.W.Frag} {mg : Str → Option Value} {base : Heap} {x : Str} {st : Stmt} {N ps : List Str} {k : Nat}
/-- what is left of the heap may be forgotten -/
theorem Cal3.drop {sp : Sp3} (C : Cal3 P w K mg base k x ps sp) : Cal3 P w K mg base k x ps (fun ds S Q E => sp ds S (fun d S1 => ∃ S2, Sub S2 S1 ∧ Q d S2) E) := by
  obtain ⟨f, fd, F0, r⟩ := C.ex
  refine ⟨f, fd, F0.imp fun vs H Q E ⟨Z, ds, S, Q3, E3, h1, l, h3, cq, ce⟩ => ⟨Z, ds, S, _, E3, h1, l, h3, ?_, ce⟩, r⟩
  intro d S1 v H' k1 r1 l1 ⟨S2, hsub, q⟩
  exact cq d S2 v H' k1 r1 (l1.sub hsub) q
/-- a def that reads lists and answers a value -/
def rdV (A : List D → Hp3 → (D → Prop) → Prop) : Sp3 := fun ds S Q _ => A ds S fun d => Q d S
/-- .. a new list -/
def rdL (A : List D → Hp3 → (List D → Prop) → Prop) : Sp3 := fun ds S Q _ => A ds S fun ys => newL S ys Q
/-- a def that writes one object, and answers a value -/
def wrV (A : List D → Hp3 → (D → Addr → O → Prop) → Prop) : Sp3 := fun ds S Q _ => A ds S fun d a o => Q d (up S a o)
theorem _root_.EE.Has.rdV {A : List D → Hp3 → (D → Prop) → Prop} (h : Has K mg x st ps) (S : FnScope N ps (defScope st)) (len : ∀ ds S q, A ds S q → ds.length = ps.length)
    (hbody : ∀ (f : Addr) (cdv : Value) (Ar : Around) (outer : List Env) (s : Shared) (H : Hp) (E : XK) (ds : List D) (S : Hp3) (q : D → Prop), Room k (Ar.deeper (envOfC x (defScope st) s.heap.objs.size f cdv)) → A ds S q →
      ∃ t, PSs3 (cxOf (CX1 P w) P w K mg base N x (defScope st) f cdv Ar outer s H E).nox NoX (defBody st) t ∧ t { nx := fun _ S' => Sub S S' ∧ q .non, rt := fun d S' => Sub S S' ∧ q d } (start3 N ds) S) : Cal3 P w K mg base (k + 1) x ps (rdV A) := by
  have C : Cal3 P w K mg base (k + 1) x ps (fun ds S Q E => ∃ q, A ds S q ∧ ∀ d S', Sub S S' ∧ q d → Q d S') := by
    refine h.cal3 S (fun vs H Q E ⟨q, z, _⟩ => len _ _ _ z) fun f cdv Ar outer s H E ds S3 Q E3 hr ⟨q, z, hq⟩ => ?_
    obtain ⟨t, h1, h2⟩ := hbody f cdv Ar outer s H E ds S3 _ hr z
    exact ⟨t, fun d S' => Sub S3 S' ∧ q d, h1, h2, hq⟩
  exact C.drop.imp fun ds S Q E z => ⟨_, z, fun d S1 hq => ⟨S, hq.1, hq.2⟩⟩
theorem _root_.EE.Has.rdL {A : List D → Hp3 → (List D → Prop) → Prop} (h : Has K mg x st ps) (S : FnScope N ps (defScope st)) (len : ∀ ds S q, A ds S q → ds.length = ps.length)
    (hbody : ∀ (f : Addr) (cdv : Value) (Ar : Around) (outer : List Env) (s : Shared) (H : Hp) (E : XK) (ds : List D) (S : Hp3) (q : List D → Prop), Room k (Ar.deeper (envOfC x (defScope st) s.heap.objs.size f cdv)) → A ds S q →
      ∃ t, PSs3 (cxOf (CX1 P w) P w K mg base N x (defScope st) f cdv Ar outer s H E).nox NoX (defBody st) t ∧
        t { nx := fun _ _ => False, rt := fun d S' => ∃ p ys, d = .ref p ∧ S p = none ∧ Sub S S' ∧ S' p = some (.lst ys) ∧ q ys } (start3 N ds) S) : Cal3 P w K mg base (k + 1) x ps (rdL A) := by
  have C : Cal3 P w K mg base (k + 1) x ps (fun ds S Q E => ∃ q, A ds S q ∧ ∀ d S', (∃ p ys, d = .ref p ∧ S p = none ∧ Sub S S' ∧ S' p = some (.lst ys) ∧ q ys) → Q d S') := by
    refine h.cal3 S (fun vs H Q E ⟨q, z, _⟩ => len _ _ _ z) fun f cdv Ar outer s H E ds S3 Q E3 hr ⟨q, z, hq⟩ => ?_
    obtain ⟨t, h1, h2⟩ := hbody f cdv Ar outer s H E ds S3 _ hr z
    refine ⟨t, fun d S' => ∃ p ys, d = .ref p ∧ S3 p = none ∧ Sub S3 S' ∧ S' p = some (.lst ys) ∧ q ys, h1, ?_, hq⟩
    have e : (fun (_ : St3) (_ : Hp3) => False) = fun (_ : St3) (S' : Hp3) => ∃ p ys, D.non = .ref p ∧ S3 p = none ∧ Sub S3 S' ∧ S' p = some (.lst ys) ∧ q ys := by
      funext _ S'
      refine propext ⟨False.elim, fun z => ?_⟩
      obtain ⟨p, ys, z, _⟩ := z
      cases z
    rw [← e]
    exact h2
  refine C.drop.imp fun ds S Q E z => ⟨_, z, fun d S1 ⟨p, ys, e, hp, hs, hp1, hq⟩ => ⟨up S p (.lst ys), ?_, ?_⟩⟩
  · intro a o ha
    by_cases c : a = p
    · subst c; rw [up_same] at ha; cases ha; exact hp1
    · rw [up_ne c] at ha; exact hs a o ha
  · subst e
    exact hq p hp
theorem _root_.EE.Has.wrV {A : List D → Hp3 → (D → Addr → O → Prop) → Prop} (h : Has K mg x st ps) (S : FnScope N ps (defScope st)) (len : ∀ ds S q, A ds S q → ds.length = ps.length)
    (hbody : ∀ (f : Addr) (cdv : Value) (Ar : Around) (outer : List Env) (s : Shared) (H : Hp) (E : XK) (ds : List D) (S : Hp3) (q : D → Addr → O → Prop), Room k (Ar.deeper (envOfC x (defScope st) s.heap.objs.size f cdv)) → A ds S q →
      ∃ t, PSs3 (cxOf (CX1 P w) P w K mg base N x (defScope st) f cdv Ar outer s H E).nox NoX (defBody st) t ∧ t { nx := fun _ S' => ∃ a o, Sub (up S a o) S' ∧ q .non a o, rt := fun d S' => ∃ a o, Sub (up S a o) S' ∧ q d a o } (start3 N ds) S) : Cal3 P w K mg base (k + 1) x ps (wrV A) := by
  have C : Cal3 P w K mg base (k + 1) x ps (fun ds S Q E => ∃ q, A ds S q ∧ ∀ d S', (∃ a o, Sub (up S a o) S' ∧ q d a o) → Q d S') := by
    refine h.cal3 S (fun vs H Q E ⟨q, z, _⟩ => len _ _ _ z) fun f cdv Ar outer s H E ds S3 Q E3 hr ⟨q, z, hq⟩ => ?_
    obtain ⟨t, h1, h2⟩ := hbody f cdv Ar outer s H E ds S3 _ hr z
    exact ⟨t, fun d S' => ∃ a o, Sub (up S3 a o) S' ∧ q d a o, h1, h2, hq⟩
  exact C.drop.imp fun ds S Q E z => ⟨_, z, fun d S1 ⟨a, o, hs, hq⟩ => ⟨_, hs, hq⟩⟩
/-- a def that calls itself: nothing is promised at level nought -/
theorem _root_.EE.Has.none3 {sp : Sp3} (h : Has K mg x st ps) (no : ∀ ds S Q E, ¬ sp ds S Q E) (j : Nat) : Cal3 P w K mg base j x ps sp := by
  obtain ⟨f, fd, F, b, m⟩ := h.ex
  have no' : ∀ vs H Q E, ¬ lSp K sp vs H Q E := fun vs H Q E ⟨Z, ds, S, Q3, E3, _, _, z, _⟩ => no _ _ _ _ z
  exact ⟨f, fd, ⟨fun vs H Q E h => absurd h (no' vs H Q E), fun A outer s H args us vs Q E _ _ _ _ h => absurd h (no' vs H Q E)⟩, b, F.kp, m⟩
end
end E3
namespace E3
open PySem PySem.Spec PyProof.Rows L2 EE
section
variable {P : Program} {w : World} {K : PySem.W.Frag} {mg : Str → Option Value} {base : Heap} {x : Str} {st : Stmt} {N ps : List Str} {k : Nat}
/-- a def that writes one object and answers a new list -/
def wrL (A : List D → Hp3 → (List D → Addr → O → Prop) → Prop) : Sp3 := fun ds S Q _ => A ds S fun ys a o => ∀ p, S p = none → Q (.ref p) (up (up S a o) p (.lst ys))
theorem _root_.EE.Has.wrL {A : List D → Hp3 → (List D → Addr → O → Prop) → Prop} (h : Has K mg x st ps) (S : FnScope N ps (defScope st)) (len : ∀ ds S q, A ds S q → ds.length = ps.length)
    (hbody : ∀ (f : Addr) (cdv : Value) (Ar : Around) (outer : List Env) (s : Shared) (H : Hp) (E : XK) (ds : List D) (S : Hp3) (q : List D → Addr → O → Prop), Room k (Ar.deeper (envOfC x (defScope st) s.heap.objs.size f cdv)) → A ds S q →
      ∃ t, PSs3 (cxOf (CX1 P w) P w K mg base N x (defScope st) f cdv Ar outer s H E).nox NoX (defBody st) t ∧
        t { nx := fun _ _ => False, rt := fun d S' => ∃ p ys a o, d = .ref p ∧ S p = none ∧ S a ≠ none ∧ Sub (up S a o) S' ∧ S' p = some (.lst ys) ∧ q ys a o } (start3 N ds) S) : Cal3 P w K mg base (k + 1) x ps (wrL A) := by
  have C : Cal3 P w K mg base (k + 1) x ps (fun ds S Q E => ∃ q, A ds S q ∧ ∀ d S', (∃ p ys a o, d = .ref p ∧ S p = none ∧ S a ≠ none ∧ Sub (up S a o) S' ∧ S' p = some (.lst ys) ∧ q ys a o) → Q d S') := by
    refine h.cal3 S (fun vs H Q E ⟨q, z, _⟩ => len _ _ _ z) fun f cdv Ar outer s H E ds S3 Q E3 hr ⟨q, z, hq⟩ => ?_
    obtain ⟨t, h1, h2⟩ := hbody f cdv Ar outer s H E ds S3 _ hr z
    refine ⟨t, fun d S' => ∃ p ys a o, d = .ref p ∧ S3 p = none ∧ S3 a ≠ none ∧ Sub (up S3 a o) S' ∧ S' p = some (.lst ys) ∧ q ys a o, h1, ?_, hq⟩
    have e : (fun (_ : St3) (_ : Hp3) => False) = fun (_ : St3) (S' : Hp3) => ∃ p ys a o, D.non = .ref p ∧ S3 p = none ∧ S3 a ≠ none ∧ Sub (up S3 a o) S' ∧ S' p = some (.lst ys) ∧ q ys a o := by
      funext _ S'
      refine propext ⟨False.elim, fun z => ?_⟩
      obtain ⟨p, ys, _, _, z, _⟩ := z
      cases z
    rw [← e]
    exact h2
  refine C.drop.imp fun ds S Q E z => ⟨_, z, fun d S1 ⟨p, ys, a, o, e, hp, ha, hs, hp1, hq⟩ => ⟨up (up S a o) p (.lst ys), ?_, ?_⟩⟩
  · intro b u hb
    by_cases c : b = p
    · subst c; rw [up_same] at hb; cases hb; exact hp1
    · rw [up_ne c] at hb; exact hs b u hb
  · subst e
    exact hq p hp
end
section
variable {σ : St3} {S : Hp3} {Q : K3}
theorem j_pow {g : Int → Int → D} {k j : Int} (h : CPow k j) (q : Q (g k j) S) : ic3 CPow g (.int k) (.int j) S Q := ⟨k, j, rfl, rfl, h, q⟩
theorem j_mul {g : Int → Int → D} {k j : Int} (h : CMul k j) (q : Q (g k j) S) : ic3 CMul g (.int k) (.int j) S Q := ⟨k, j, rfl, rfl, h, q⟩
theorem j_neg {σ : St3} {te : TE3} (h : te σ S fun x S1 => ∃ i, x = .int i ∧ Q (.int (-i)) S1) : u3 (fun x S Q => ∃ i, x = .int i ∧ Q (.int (-i)) S) te σ S Q := h
end
end E3
namespace E3
/-- all but one place as it was -/
def Px (sp : PySem.Addr) (S X : Hp3) : Prop := ∀ a u, a ≠ sp → S a = some u → X a = some u
theorem Px.refl (sp : PySem.Addr) (S : Hp3) : Px sp S S := fun _ _ _ h => h
theorem Px.at {sp : PySem.Addr} {S X : Hp3} {o : O} (h : Px sp S X) : Px sp S (up X sp o) := fun a u n e => by rw [up_ne n]; exact h a u n e
theorem Px.new {sp p : PySem.Addr} {S X : Hp3} {o : O} (h : Px sp S X) (hp : X p = none) : Px sp S (up X p o) := fun a u n e => up_get (h a u n e) hp
theorem Px.sub {sp : PySem.Addr} {S X : Hp3} {o : O} (h : Px sp S X) (hx : X sp = some o) : Sub (up S sp o) X := fun a u e => by
  by_cases c : a = sp
  · subst c; rw [up_same] at e; rw [hx]; exact e
  · rw [up_ne c] at e; exact h a u c e
end E3
namespace E3
theorem Px.fresh {sp p : PySem.Addr} {S X : Hp3} {o : O} (h : Px sp S X) (hp : S p = none) : Px sp S (up X p o) := fun a u n e => by rw [up_ne (ne3 e hp)]; exact h a u n e
theorem Px.free {sp p : PySem.Addr} {S X : Hp3} (h : Px sp S X) (hp : X p = none) (n : p ≠ sp) : S p = none := by
  cases e : S p with
  | none => rfl
  | some o => rw [h p o n e] at hp; cases hp
end E3
namespace E3
theorem Px.ext {sp : PySem.Addr} {S X Y : Hp3} (h : Px sp S X) (h' : Sub X Y) : Px sp S Y := fun a u n e => h' a u (h a u n e)
end E3

namespace E3
open PySem PySem.Spec PyProof.Rows L2 EE
section
variable {P : Program} {w : World} {K : PySem.W.Frag} {mg : Str → Option Value} {base : Heap} {N : List Str} {qual : Str} {scope : Scope} {f : Addr} {cd : Value} {A : Around} {outer : List Env} {s s2 : Shared} {H H1 : Hp} {E : XK}
  {pins : List (Addr × Obj)} {σ : L2.St} {a C : Addr}
end
end E3
namespace E3
open PySem PySem.Spec PyProof.Rows L2 EE
section
variable {P : Program} {w : World} {K : PySem.W.Frag} {mg : Str → Option Value} {base : Heap} {x : Str} {st : Stmt} {N ps : List Str} {k : Nat}
end
end E3

namespace E3
open PySem PySem.Spec PyProof.Rows L2 EE
/-! ### raise C(..), C a class of one's own under ValueError -/
abbrev bmVE : List Value := [.type "ValueError", .type "Exception", .type "BaseException", .type "object"]
section
variable {X : Cx} {x : Str} {C : Addr} {np cpos pos : Pos} {e : Expr} {es : List Expr}
variable {W3 : W3T}
end
section
variable {σ : St3} {S : Hp3} {Q : K3} {te : TE3} {al : TA3} {n b c : St3 → Hp3 → Prop} {rt : K3} {W3 : W3T} {C : Addr}
end
end E3

namespace E3
open PySem PySem.Spec PyProof.Rows L2 EE
section
variable {X : Cx} {pins pn : List (Addr × Obj)} {τ : L2.St} {H H1 : Hp} {s s1 : Shared} {a C : Addr} {v : Value} {xe : Value → Shared → Prop}
end
end E3

namespace E3
open PySem PySem.Spec PyProof.Rows L2 EE
section
variable {X : Cx} {W3 : W3T} {pins : List (Addr × Obj)} {τ : L2.St} {H : Hp} {s : Shared}
variable {x n : Str} {Dc : Addr} {i : Nat} {np pos : Pos} {b0 : Stmt} {suite : List Stmt} {rest : List ExceptHandler} {t : TS3} {r : Ends3 → W3T}
end
section
variable {σ : St3} {S : Hp3} {n b c : St3 → Hp3 → Prop} {rt : K3} {K : PySem.W.Frag} {C Dc a : Addr} {i : Nat} {t : TS3} {r : Ends3 → W3T}
end
end E3

namespace E3
section
open PySem PySem.Spec PyProof.Rows L2 EE PySem.W Builtin Builtin.ObjectAttr Builtin.Getset_descriptor
end
open PySem PySem.Spec PyProof.Rows L2 EE
/-- the facts of a class of exceptions -/
def rfOne (K : PySem.W.Frag) (C : Addr) : Bool := PySem.W.excIn K C bmVE "ValueError.__new__" && PySem.W.findIn K (.ref C) "__getattribute__" == some (some (.builtin "BaseException.__getattribute__")) && PySem.W.findIn K (.ref C) "__getattr__" == some none &&
  PySem.W.findIn K (.ref C) "__class__" == some (some (.builtin "object.__class__")) && PySem.W.specialIn K (.builtin "object.__class__") "__get__" == some (some (.builtin "getset_descriptor.__get__")) && PySem.W.takesIn K (.builtin "object.__class__") == some true &&
  PySem.W.mroIn K C (.type "object") == some true && PySem.W.mroIn K C (.type "BaseException") == some true && PySem.W.kitCls K (.ref C) (.type "BaseException") == some true && PySem.W.kitCls K (.ref C) (.type "ValueError") == some true && (PySem.W.clsIn K C).isSome
section
variable {X : Cx}
end
/-! ### the refusals -/
inductive Rf where
  | err | text | twice | such | count | apart | many | way
  deriving DecidableEq
def Rf.nm : Rf → Str
  | .err => "ErrandError" | .text => "BadText" | .twice => "Twice" | .such => "NoSuch" | .count => "WrongCount" | .apart => "Apart" | .many => "TooMany" | .way => "NoWay"
def Rf.sub (i j : Rf) : Bool := decide (i = j) || decide (j = .err)
structure Rfs (K : PySem.W.Frag) (mg : Str → Option Value) (es : List Rf) (adr : Rf → Addr) : Prop where
  bound : ∀ i ∈ es, mg i.nm = some (.ref (adr i))
  one : ∀ i ∈ es, rfOne K (adr i) = true
  two : ∀ i ∈ es, ∀ j ∈ es, PySem.W.kitCls K (.ref (adr i)) (.ref (adr j)) = some (i.sub j)
section
variable {K : PySem.W.Frag} {mg : Str → Option Value} {es : List Rf} {adr : Rf → Addr} (R : Rfs K mg es adr) {i j : Rf}
include R
end
section
variable {S : Hp3} {Q : K3} {es : List Rf} {adr : Rf → Addr} {a : Addr} {i j : Rf}
end
end E3

namespace E3
open PySem PySem.Spec PyProof.Rows L2 EE
section
variable {P : Program} {w : World} {K : PySem.W.Frag} {mg : Str → Option Value} {base : Heap} {x : Str} {st : Stmt} {N ps : List Str} {k : Nat}
end
end E3

namespace E3
open PySem PySem.Spec PyProof.Rows L2 EE
section
variable {prog : Program} {w : World} {A : Around} {E : Value → Shared → Prop} {a : Addr} {its : Array Value} {n : Nat}
end
end E3

namespace E3
open PySem PySem.Spec PyProof.Rows L2 EE
section
variable {prog : Program} {w : World} {A : Around} {E : Value → Shared → Prop}
end
section
variable {X : Cx} {W3 : W3T}
section
variable {σ : St3} {S : Hp3} {Q : K3} {te ta : TE3}
theorem j_inT {x : D} {ds : List D} (hx : flatD x = true) (hd : ds.all flatD = true) (q : Q (.bl (memD x ds)) S) : in3 false x (.tup ds) S Q := ⟨ds, .inr rfl, hx, hd, q⟩
end
theorem iteBt {b : Bool} {A B : Prop} (h : b = true) (q : A) : if b = true then A else B := by rw [if_pos h]; exact q
theorem iteBf {b : Bool} {A B : Prop} (h : b = false) (q : B) : if b = true then A else B := by rw [if_neg (by rw [h]; exact Bool.false_ne_true)]; exact q
end
end E3

namespace E3
open PySem PySem.Spec PyProof.Rows L2 EE
theorem small_le {n : Nat} (h : n ≤ 1000000) : n ≤ sizeLine := Nat.le_trans h (by decide)
theorem small_lt {n : Nat} (h : n ≤ 1000000) : n < sizeLine := Nat.lt_of_le_of_lt h (by decide)
theorem atI_of {α : Type} {xs : List α} {i : Int} {v : α} (h0 : 0 ≤ i) (h : xs[i.toNat]? = some v) : atI xs i = some v := by
  have e : i = ((i.toNat : Nat) : Int) := by omega
  rw [e]
  exact atI_nat h
theorem atI_0 {α : Type} {x : α} {xs : List α} : atI (x :: xs) 0 = some x := atI_nat (j := 0) rfl
theorem ixN_of {n : Nat} {i : Int} {j : Nat} (h : i = (j : Int)) (hj : j < n) : ixN n i = some j := by
  subst h
  unfold ixN
  rw [if_pos (by omega), if_pos (by omega)]
  simp
theorem ixN_0 {α : Type} {x : α} {xs : List α} : ixN (x :: xs).length 0 = some 0 := ixN_of rfl (by simp)
theorem cutD_to {xs : List D} {p : Int} (h0 : 0 ≤ p) : cutD xs none (some p) = xs.take p.toNat := by
  unfold cutD
  have e : p = ((p.toNat : Nat) : Int) := by omega
  rw [e, HT.sIx_none, HT.sIx_nat, List.drop_zero, Nat.sub_zero, ← e]
  by_cases h : p.toNat ≤ xs.length
  · rw [Nat.min_eq_left h]
  · rw [Nat.min_eq_right (by omega), List.take_of_length_le (by omega), List.take_of_length_le (by omega)]
theorem cutD_from {xs : List D} {p : Int} (h0 : 0 ≤ p) : cutD xs (some p) none = xs.drop p.toNat := by
  unfold cutD
  have e : p = ((p.toNat : Nat) : Int) := by omega
  rw [e, HT.sIx_none, HT.sIx_nat, ← e]
  by_cases h : p.toNat ≤ xs.length
  · rw [Nat.min_eq_left h, List.take_of_length_le (by rw [List.length_drop]; omega)]
  · rw [Nat.min_eq_right (by omega), List.drop_eq_nil_of_le (Nat.le_refl _), List.drop_eq_nil_of_le (by omega)]
    simp
theorem cutT_to {cs : List Nat} {p : Int} (h0 : 0 ≤ p) : cutT cs none (some p) = cs.take p.toNat := by
  unfold cutT
  have e : p = ((p.toNat : Nat) : Int) := by omega
  rw [e, HT.sIx_none, HT.sIx_nat, List.drop_zero, Nat.sub_zero, ← e]
  by_cases h : p.toNat ≤ cs.length
  · rw [Nat.min_eq_left h]
  · rw [Nat.min_eq_right (by omega), List.take_of_length_le (by omega), List.take_of_length_le (by omega)]
theorem cutT_from {cs : List Nat} {p : Int} (h0 : 0 ≤ p) : cutT cs (some p) none = cs.drop p.toNat := by
  unfold cutT
  have e : p = ((p.toNat : Nat) : Int) := by omega
  rw [e, HT.sIx_none, HT.sIx_nat, ← e]
  by_cases h : p.toNat ≤ cs.length
  · rw [Nat.min_eq_left h, List.take_of_length_le (by rw [List.length_drop]; omega)]
  · rw [Nat.min_eq_right (by omega), List.drop_eq_nil_of_le (Nat.le_refl _), List.drop_eq_nil_of_le (by omega)]
    simp
/-! ### names: one to eight small letters -/
def NameOk (x : Str) : Prop := ∃ cs : List Nat, x = textOf cs ∧ 1 ≤ cs.length ∧ cs.length ≤ 8 ∧ ∀ c ∈ cs, 97 ≤ c ∧ c ≤ 122
theorem textOf_inj {a b : List Nat} (h : textOf a = textOf b) : a = b := by
  have := congrArg (fun x : Str => x.cps.toList) h
  simpa [textOf] using this
theorem textOf_codes (cs : List Nat) : (textOf cs).cps.toList = cs := by simp [textOf]
theorem s_alpha : ("abcdefghijklmnopqrstuvwxyz" : Str) = textOf (List.range' 97 26) := by decide +kernel
theorem s_alpha12 : ("abcdefghijkl" : Str) = textOf (List.range' 97 12) := by decide +kernel
theorem s_abcd : ("abcd" : Str) = textOf [97, 98, 99, 100] := by decide +kernel
theorem at_alpha {n : Nat} {i : Int} (h0 : 0 ≤ i) (h1 : i < n) : atI (List.range' 97 n) i = some (97 + i.toNat) := by
  refine atI_of h0 ?_
  rw [List.getElem?_range' (by omega)]
  simp
/-- the three ways to make the k-th name -/
def nm1 (cs : List Nat) (p k : Nat) : List Nat := (cs.take p ++ [97 + k]) ++ cs.drop p
def nm2 (cs : List Nat) (k : Nat) : List Nat := cs.take 4 ++ [97, 98, 99, 100].take (k + 1)
def nm3 (cs : List Nat) (k : Nat) : List Nat := [97, 98, 99, 100].drop (3 - k) ++ cs.take 4
def Letters (cs : List Nat) : Prop := ∀ c ∈ cs, 97 ≤ c ∧ c ≤ 122
/-- a row of names made so -/
structure Row (n : Nat) (xs : List Str) : Prop where
  len : xs.length = n
  nd : xs.Nodup
  ok : ∀ x ∈ xs, NameOk x
theorem row_of {n : Nat} {f : Nat → List Nat} (inj : ∀ i j, i < n → j < n → f i = f j → i = j) (ok : ∀ i, i < n → NameOk (textOf (f i))) : Row n ((List.range n).map fun k => textOf (f k)) := by
  refine ⟨by simp, ?_, fun x hx => ?_⟩
  · rw [List.nodup_iff_pairwise_ne, List.pairwise_map]
    have := List.nodup_range (n := n)
    rw [List.nodup_iff_pairwise_ne] at this
    refine List.Pairwise.imp_of_mem (fun {a b} ha hb hab e => hab ?_) this
    exact inj a b (List.mem_range.mp ha) (List.mem_range.mp hb) (textOf_inj e)
  · obtain ⟨k, hk, rfl⟩ := List.mem_map.mp hx
    exact ok k (List.mem_range.mp hk)
theorem row1 {n p : Nat} {cs : List Nat} (hl : Letters cs) (h7 : cs.length ≤ 7) (hn : n ≤ 12) : Row n ((List.range n).map fun k => textOf (nm1 cs p k)) := by
  refine row_of (fun i j hi hj e => ?_) fun i hi => ⟨_, rfl, ?_, ?_, ?_⟩
  · unfold nm1 at e
    have e2 := List.append_inj_left' e rfl
    have e3 := List.append_inj_right e2 rfl
    simp at e3
    exact e3
  · simp [nm1]; omega
  · simp only [nm1, List.length_append, List.length_take, List.length_cons, List.length_nil, List.length_drop]; omega
  · intro c hc
    simp only [nm1, List.mem_append, List.mem_singleton] at hc
    rcases hc with (hc | rfl) | hc
    · exact hl c (List.mem_of_mem_take hc)
    · omega
    · exact hl c (List.mem_of_mem_drop hc)
theorem row2 {n : Nat} {cs : List Nat} (hl : Letters cs) (hn : n ≤ 4) : Row n ((List.range n).map fun k => textOf (nm2 cs k)) := by
  refine row_of (fun i j hi hj e => ?_) fun i hi => ⟨_, rfl, ?_, ?_, ?_⟩
  · have := congrArg List.length e
    simp only [nm2, List.length_append, List.length_take, List.length_cons, List.length_nil] at this
    omega
  · simp only [nm2, List.length_append, List.length_take, List.length_cons, List.length_nil]; omega
  · simp only [nm2, List.length_append, List.length_take, List.length_cons, List.length_nil]; omega
  · intro c hc
    simp only [nm2, List.mem_append] at hc
    rcases hc with hc | hc
    · exact hl c (List.mem_of_mem_take hc)
    · have := List.mem_of_mem_take hc
      simp only [List.mem_cons, List.not_mem_nil, or_false] at this
      omega
theorem row3 {n : Nat} {cs : List Nat} (hl : Letters cs) (hn : n ≤ 4) : Row n ((List.range n).map fun k => textOf (nm3 cs k)) := by
  refine row_of (fun i j hi hj e => ?_) fun i hi => ⟨_, rfl, ?_, ?_, ?_⟩
  · have := congrArg List.length e
    simp only [nm3, List.length_append, List.length_take, List.length_drop, List.length_cons, List.length_nil] at this
    omega
  · simp only [nm3, List.length_append, List.length_take, List.length_drop, List.length_cons, List.length_nil]; omega
  · simp only [nm3, List.length_append, List.length_take, List.length_drop, List.length_cons, List.length_nil]; omega
  · intro c hc
    simp only [nm3, List.mem_append] at hc
    rcases hc with hc | hc
    · have := List.mem_of_mem_drop hc
      simp only [List.mem_cons, List.not_mem_nil, or_false] at this
      omega
    · exact hl c (List.mem_of_mem_take hc)
theorem Row.turn {n t : Nat} {xs : List Str} (r : Row n xs) : Row n (xs.drop t ++ xs.take t) := by
  have e := List.take_append_drop t xs
  have pm : (xs.drop t ++ xs.take t).Perm xs := by
    have := List.perm_append_comm (l₁ := xs.drop t) (l₂ := xs.take t)
    rw [e] at this
    exact this
  exact ⟨pm.length_eq.trans r.len, pm.nodup_iff.mpr r.nd, fun x hx => r.ok x (pm.mem_iff.mp hx)⟩
/-! ### sayings -/
inductive Sy where
  | name (x : Str) | bud | pair (a b : Sy) | left (a : Sy) | right (a : Sy) | fork (a b c : Sy) | send (x : Str) (as : List Sy)
mutual
def Sy.d : Sy → D
  | .name x => .tup [.str "name", .str x]
  | .bud => .tup [.str "bud"]
  | .pair a b => .tup [.str "pair", a.d, b.d]
  | .left a => .tup [.str "left", a.d]
  | .right a => .tup [.str "right", a.d]
  | .fork a b c => .tup [.str "fork", a.d, b.d, c.d]
  | .send x as => .tup [.str "send", .str x, .tup (Sy.ds as)]
def Sy.ds : List Sy → List D
  | [] => []
  | a :: as => a.d :: Sy.ds as
end
mutual
def Sy.deep : Sy → Nat
  | .name _ => 1
  | .bud => 1
  | .pair a b => max a.deep b.deep + 1
  | .left a => a.deep + 1
  | .right a => a.deep + 1
  | .fork a b c => max a.deep (max b.deep c.deep) + 1
  | .send _ as => Sy.deeps as + 1
def Sy.deeps : List Sy → Nat
  | [] => 0
  | a :: as => max a.deep (Sy.deeps as)
end
/-- the sayings in a saying -/
def Sy.parts : Sy → List Sy
  | .name _ => []
  | .bud => []
  | .pair a b => [a, b]
  | .left a => [a]
  | .right a => [a]
  | .fork a b c => [a, b, c]
  | .send _ as => as
mutual
/-- a saying and all in it, in the order of the text -/
def Sy.pre : Sy → List Sy
  | .name x => [.name x]
  | .bud => [.bud]
  | .pair a b => .pair a b :: (a.pre ++ b.pre)
  | .left a => .left a :: a.pre
  | .right a => .right a :: a.pre
  | .fork a b c => .fork a b c :: (a.pre ++ (b.pre ++ c.pre))
  | .send x as => .send x as :: Sy.pres as
def Sy.pres : List Sy → List Sy
  | [] => []
  | a :: as => a.pre ++ Sy.pres as
end
theorem Sy.pre_parts (s : Sy) : s.pre = s :: Sy.pres s.parts := by
  cases s <;> simp [Sy.pre, Sy.parts, Sy.pres]
theorem Sy.ds_map : ∀ as : List Sy, Sy.ds as = as.map Sy.d
  | [] => rfl
  | a :: as => by simp only [Sy.ds, List.map_cons, Sy.ds_map as]
theorem Sy.pres_append : ∀ as bs : List Sy, Sy.pres (as ++ bs) = Sy.pres as ++ Sy.pres bs
  | [], bs => by simp [Sy.pres]
  | a :: as, bs => by simp [Sy.pres, Sy.pres_append as bs]
mutual
/-- its names are parameters, its sends are of errands with so many parameters -/
def Sy.wf (ar : Str → Option Nat) (ps : List Str) : Sy → Prop
  | .name x => x ∈ ps
  | .bud => True
  | .pair a b => a.wf ar ps ∧ b.wf ar ps
  | .left a => a.wf ar ps
  | .right a => a.wf ar ps
  | .fork a b c => a.wf ar ps ∧ b.wf ar ps ∧ c.wf ar ps
  | .send x as => ar x = some as.length ∧ 1 ≤ as.length ∧ as.length ≤ 4 ∧ Sy.wfs ar ps as
def Sy.wfs (ar : Str → Option Nat) (ps : List Str) : List Sy → Prop
  | [] => True
  | a :: as => a.wf ar ps ∧ Sy.wfs ar ps as
end
theorem Sy.wfs_iff {ar : Str → Option Nat} {ps : List Str} : ∀ {as : List Sy}, Sy.wfs ar ps as ↔ ∀ a ∈ as, a.wf ar ps
  | [] => by simp [Sy.wfs]
  | a :: as => by simp [Sy.wfs, Sy.wfs_iff (as := as)]
theorem Sy.deeps_le : ∀ {as : List Sy} {n : Nat}, (∀ a ∈ as, a.deep ≤ n) → Sy.deeps as ≤ n
  | [], _, _ => Nat.zero_le _
  | a :: as, n, h => by
    simp only [Sy.deeps]
    have h1 := h a List.mem_cons_self
    have h2 := Sy.deeps_le (as := as) (n := n) fun b hb => h b (List.mem_cons_of_mem _ hb)
    omega
theorem Sy.deeps_mem : ∀ {as : List Sy} {a : Sy}, a ∈ as → a.deep ≤ Sy.deeps as
  | b :: as, a, h => by
    simp only [Sy.deeps]
    rcases List.mem_cons.mp h with rfl | h
    · omega
    · have := Sy.deeps_mem h; omega
/-- how many sends -/
def Sy.sends (s : Sy) : Nat := (s.pre.filter fun a => match a with | .send _ _ => true | _ => false).length
def Sy.sendss (as : List Sy) : Nat := ((Sy.pres as).filter fun a => match a with | .send _ _ => true | _ => false).length
theorem Sy.sendss_cons (a : Sy) (as : List Sy) : Sy.sendss (a :: as) = a.sends + Sy.sendss as := by simp [Sy.sendss, Sy.sends, Sy.pres]
theorem Sy.sendss_append (as bs : List Sy) : Sy.sendss (as ++ bs) = Sy.sendss as + Sy.sendss bs := by simp [Sy.sendss, Sy.pres_append]
/-- an errand's parameters by name, from two rows -/
def arOf : List Str → List Nat → Str → Option Nat
  | x :: xs, n :: ns, y => if y = x then some n else arOf xs ns y
  | _, _, _ => none
theorem arOf_at : ∀ {xs : List Str} {ns : List Nat} {i : Nat} {x : Str} {n : Nat}, xs.Nodup → xs[i]? = some x → ns[i]? = some n → arOf xs ns x = some n
  | [], _, _, _, _, _, h, _ => by simp at h
  | _ :: _, [], _, _, _, _, _, h => by simp at h
  | y :: xs, m :: ns, 0, x, n, _, h1, h2 => by
    simp at h1 h2
    subst h1 h2
    simp [arOf]
  | y :: xs, m :: ns, i + 1, x, n, nd, h1, h2 => by
    have hx : x ∈ xs := List.mem_of_getElem? (by simpa using h1)
    have hne : x ≠ y := fun z => (List.nodup_cons.mp nd).1 (z ▸ hx)
    rw [arOf, if_neg hne]
    exact arOf_at (List.nodup_cons.mp nd).2 (by simpa using h1) (by simpa using h2)
/-! ### errands -/
structure Er where
  name : Str
  ps : List Str
  body : Sy
def Er.d (e : Er) : D := .tup [.str e.name, .tup (e.ps.map D.str), e.body.d]
end E3
namespace E3
open PySem PySem.Spec PyProof.Rows L2 EE
theorem at_mod {α : Type} {xs : List α} (c : Int) (h : 0 < xs.length) : ∃ (j : Nat) (v : α), c % (xs.length : Int) = (j : Int) ∧ j < xs.length ∧ xs[j]? = some v := by
  have h0 := Int.emod_nonneg c (show (xs.length : Int) ≠ 0 by omega)
  have h1 := Int.emod_lt_of_pos c (show (0 : Int) < xs.length by omega)
  have hj : (c % (xs.length : Int)).toNat < xs.length := by omega
  exact ⟨(c % (xs.length : Int)).toNat, xs[(c % (xs.length : Int)).toNat], by omega, hj, List.getElem?_eq_getElem hj⟩
theorem at_modM {α : Type} {f : α → D} {xs : List α} (c : Int) (h : 0 < xs.length) : ∃ (j : Nat) (v : α), c % ((xs.map f).length : Int) = (j : Int) ∧ xs[j]? = some v ∧ atI (xs.map f) (c % ((xs.map f).length : Int)) = some (f v) := by
  obtain ⟨j, v, e, hj, hv⟩ := at_mod (xs := xs) c h
  have e' : c % ((xs.map f).length : Int) = (j : Int) := by rw [List.length_map]; exact e
  refine ⟨j, v, e', hv, ?_⟩
  rw [e']
  refine atI_nat ?_
  rw [List.getElem?_map, hv]
  rfl
/-- a row of sayings drawn one after another; the place of the script moves -/
theorem comp_saying {σ : St3} {js : List Nat} {te : TE3} {Q : K3} {S : Hp3} {sp : Addr} {m : Nat} {i b : Int} {Al : Hp3 → Prop} (good : Sy → Prop) (hm : m ≤ 1000) (hA : ∀ S, Al S)
    (h : ∀ (d : D) (i1 b1 : Int), i ≤ i1 → 0 ≤ b1 → ∀ P : K3, (∀ (s : Sy) (i2 b2 : Int), good s → i1 ≤ i2 → 0 ≤ b2 → (s.sends : Int) + b2 ≤ b1 → P s.d (up S sp (.lst [.int i2, .int b2]))) → te (some d :: pick3 σ js) (up S sp (.lst [.int i1, .int b1])) P)
    (hb : 0 ≤ b) (q : ∀ (ss : List Sy) (i2 b2 : Int), ss.length = m → (∀ s ∈ ss, good s) → i ≤ i2 → 0 ≤ b2 → (Sy.sendss ss : Int) + b2 ≤ b → newL (up S sp (.lst [.int i2, .int b2])) (ss.map Sy.d) Q) :
    ∃ W : Nat → List D → Hp3 → Prop, W 0 [] (up S sp (.lst [.int i, .int b])) ∧ (∀ i ys S, W i ys S → Al S ∧ ys.length < sizeLine) ∧
  (∀ i d ys S, (nums 0 m)[i]? = some d → W i ys S → te (some d :: pick3 σ js) S fun y S' => W (i + 1) (ys ++ [y]) S') ∧ ∀ ys S, W (nums 0 m).length ys S → newL S ys Q := by
  refine ⟨fun j ys S' => j ≤ m ∧ ∃ (ss : List Sy) (i1 b1 : Int), ys = ss.map Sy.d ∧ ss.length = j ∧ (∀ s ∈ ss, good s) ∧ i ≤ i1 ∧ 0 ≤ b1 ∧ (Sy.sendss ss : Int) + b1 ≤ b ∧ S' = up S sp (.lst [.int i1, .int b1]),
    ⟨Nat.zero_le _, [], i, b, rfl, rfl, by simp, Int.le_refl _, hb, by simp [Sy.sendss, Sy.pres], rfl⟩, ?_, ?_, ?_⟩
  · rintro j ys S' ⟨hj, ss, i1, b1, rfl, hl, _⟩
    refine ⟨hA _, ?_⟩
    rw [List.length_map]
    exact small_lt (by omega)
  · rintro j d ys S' hd ⟨hj, ss, i1, b1, rfl, hl, hg, hi, hb1, hs, rfl⟩
    obtain ⟨hlt, rfl⟩ := nums_at hd
    refine h _ i1 b1 hi hb1 _ fun s i2 b2 gs h2 hb2 hs2 => ⟨hlt, ss ++ [s], i2, b2, by simp, by simp [hl], ?_, by omega, hb2, ?_, rfl⟩
    · intro s' hs'
      rcases List.mem_append.mp hs' with h | h
      · exact hg s' h
      · rw [List.mem_singleton.mp h]; exact gs
    · rw [Sy.sendss_append, Sy.sendss_cons]
      simp only [Sy.sendss, Sy.pres, List.filter_nil, List.length_nil] at hs ⊢
      omega
  · rintro ys S' ⟨_, ss, i1, b1, rfl, hl, hg, hi, hb1, hs, rfl⟩
    rw [nums_len] at hl
    exact q ss i1 b1 hl hg hi hb1 hs
theorem Sy.sends_parts (s : Sy) : s.sends = (match s with | .send _ _ => 1 | _ => 0) + Sy.sendss s.parts := by
  cases s <;> simp [Sy.sends, Sy.sendss, Sy.pre, Sy.parts, Sy.pres] <;> omega
/-! ### programs that are sound -/
def arP (prog : List Er) : Str → Option Nat := arOf (prog.map Er.name) (prog.map fun e => e.ps.length)
structure Good (prog : List Er) (most deep b : Nat) : Prop where
  len1 : 1 ≤ prog.length
  len : prog.length ≤ most
  nd : (prog.map Er.name).Nodup
  nm : ∀ e ∈ prog, NameOk e.name
  ps : ∀ e ∈ prog, 1 ≤ e.ps.length ∧ e.ps.length ≤ 4 ∧ e.ps.Nodup ∧ ∀ x ∈ e.ps, NameOk x
  wf : ∀ e ∈ prog, e.body.wf (arP prog) e.ps ∧ e.body.deep ≤ deep
  sends : (prog.map fun e => e.body.sends).sum ≤ b
theorem arP_eq {ers : List Er} {names : List Str} {counts : List Nat} (h1 : ers.map Er.name = names) (h2 : (ers.map fun e => e.ps.length) = counts) : arP ers = arOf names counts := by
  unfold arP; rw [h1, h2]
theorem ps_ok {n c : Nat} {xs : List Str} (r : Row n xs) (hc : c ≤ n) : (xs.take c).length = c ∧ (xs.take c).Nodup ∧ ∀ x ∈ xs.take c, NameOk x := by
  refine ⟨by rw [List.length_take, r.len]; omega, r.nd.sublist (List.take_sublist _ _), fun x hx => r.ok x (List.mem_of_mem_take hx)⟩
/-- good data about an errand that is being drawn -/
structure ErOk (ar : Str → Option Nat) (deep : Nat) (e : Er) : Prop where
  l1 : 1 ≤ e.ps.length
  l4 : e.ps.length ≤ 4
  nd : e.ps.Nodup
  ok : ∀ x ∈ e.ps, NameOk x
  wf : e.body.wf ar e.ps
  dp : e.body.deep ≤ deep
theorem good_of {ers : List Er} {names : List Str} {counts : List Nat} {n most deep b : Nat} (Rn : Row n names) (h1 : ers.map Er.name = names) (h2 : (ers.map fun e => e.ps.length) = counts) (hn1 : 1 ≤ n) (hn : n ≤ most)
    (hk : ∀ e ∈ ers, ErOk (arOf names counts) deep e) (hs : (ers.map fun e => e.body.sends).sum ≤ b) : Good ers most deep b := by
  have hl : ers.length = n := by rw [← Rn.len, ← h1, List.length_map]
  refine ⟨by omega, by omega, by rw [h1]; exact Rn.nd, fun e he => Rn.ok _ (by rw [← h1]; exact List.mem_map_of_mem he), fun e he => ⟨(hk e he).l1, (hk e he).l4, (hk e he).nd, (hk e he).ok⟩, fun e he => ⟨?_, (hk e he).dp⟩, hs⟩
  rw [arP_eq h1 h2]
  exact (hk e he).wf
end E3

namespace E3
open PySem PySem.Spec PyProof.Rows L2 EE
mutual
/-- no more than four sayings in one: so many in all -/
theorem Sy.pre_len {ar : Str → Option Nat} {ps : List Str} : ∀ {s : Sy}, s.wf ar ps → s.pre.length ≤ 5 ^ s.deep
  | .name _, _ => by simp [Sy.pre, Sy.deep]
  | .bud, _ => by simp [Sy.pre, Sy.deep]
  | .pair x y, h => by
    simp only [Sy.wf] at h
    have h1 := Sy.pre_len h.1
    have h2 := Sy.pre_len h.2
    simp only [Sy.pre, Sy.deep, List.length_cons, List.length_append]
    have e1 : 5 ^ x.deep ≤ 5 ^ max x.deep y.deep := Nat.pow_le_pow_right (by omega) (by omega)
    have e2 : 5 ^ y.deep ≤ 5 ^ max x.deep y.deep := Nat.pow_le_pow_right (by omega) (by omega)
    have e3 : 1 ≤ 5 ^ max x.deep y.deep := Nat.one_le_pow _ _ (by omega)
    rw [Nat.pow_succ]
    omega
  | .left x, h => by
    simp only [Sy.wf] at h
    have h1 := Sy.pre_len h
    simp only [Sy.pre, Sy.deep, List.length_cons]
    have e3 : 1 ≤ 5 ^ x.deep := Nat.one_le_pow _ _ (by omega)
    rw [Nat.pow_succ]
    omega
  | .right x, h => by
    simp only [Sy.wf] at h
    have h1 := Sy.pre_len h
    simp only [Sy.pre, Sy.deep, List.length_cons]
    have e3 : 1 ≤ 5 ^ x.deep := Nat.one_le_pow _ _ (by omega)
    rw [Nat.pow_succ]
    omega
  | .fork x y z, h => by
    simp only [Sy.wf] at h
    have h1 := Sy.pre_len h.1
    have h2 := Sy.pre_len h.2.1
    have h3 := Sy.pre_len h.2.2
    simp only [Sy.pre, Sy.deep, List.length_cons, List.length_append]
    have e1 : 5 ^ x.deep ≤ 5 ^ max x.deep (max y.deep z.deep) := Nat.pow_le_pow_right (by omega) (by omega)
    have e2 : 5 ^ y.deep ≤ 5 ^ max x.deep (max y.deep z.deep) := Nat.pow_le_pow_right (by omega) (by omega)
    have e4 : 5 ^ z.deep ≤ 5 ^ max x.deep (max y.deep z.deep) := Nat.pow_le_pow_right (by omega) (by omega)
    have e3 : 1 ≤ 5 ^ max x.deep (max y.deep z.deep) := Nat.one_le_pow _ _ (by omega)
    rw [Nat.pow_succ]
    omega
  | .send x as, h => by
    simp only [Sy.wf] at h
    have h1 := Sy.pres_len h.2.2.2
    simp only [Sy.pre, Sy.deep, List.length_cons]
    have e3 : 1 ≤ 5 ^ Sy.deeps as := Nat.one_le_pow _ _ (by omega)
    have e4 : as.length * 5 ^ Sy.deeps as ≤ 4 * 5 ^ Sy.deeps as := Nat.mul_le_mul_right _ h.2.2.1
    rw [Nat.pow_succ]
    omega
theorem Sy.pres_len {ar : Str → Option Nat} {ps : List Str} : ∀ {as : List Sy}, Sy.wfs ar ps as → (Sy.pres as).length ≤ as.length * 5 ^ Sy.deeps as
  | [], _ => by simp [Sy.pres]
  | x :: xs, h => by
    simp only [Sy.wfs] at h
    have h1 := Sy.pre_len h.1
    have h2 := Sy.pres_len h.2
    simp only [Sy.pres, Sy.deeps, List.length_cons, List.length_append]
    have e1 : 5 ^ x.deep ≤ 5 ^ max x.deep (Sy.deeps xs) := Nat.pow_le_pow_right (by omega) (by omega)
    have e2 : 5 ^ Sy.deeps xs ≤ 5 ^ max x.deep (Sy.deeps xs) := Nat.pow_le_pow_right (by omega) (by omega)
    have e3 : xs.length * 5 ^ Sy.deeps xs ≤ xs.length * 5 ^ max x.deep (Sy.deeps xs) := Nat.mul_le_mul_left _ e2
    rw [Nat.succ_mul]
    omega
end
/-- the names sent, in the order of the text -/
def Sy.nm : Sy → Option Str
  | .send x _ => some x
  | _ => none
theorem Sy.pres_flat : ∀ as : List Sy, Sy.pres as = (as.map Sy.pre).flatten
  | [] => rfl
  | a :: as => by simp [Sy.pres, Sy.pres_flat as]
/-! ### sayings and programs as data -/
mutual
theorem Sy.d_pure : ∀ s : Sy, s.d.pure = true
  | .name x => rfl
  | .bud => rfl
  | .pair a b => by simp only [Sy.d, D.pure, D.pures, a.d_pure, b.d_pure, Bool.and_self]
  | .left a => by simp only [Sy.d, D.pure, D.pures, a.d_pure, Bool.and_self]
  | .right a => by simp only [Sy.d, D.pure, D.pures, a.d_pure, Bool.and_self]
  | .fork a b c => by simp only [Sy.d, D.pure, D.pures, a.d_pure, b.d_pure, c.d_pure, Bool.and_self]
  | .send x as => by simp only [Sy.d, D.pure, D.pures, Sy.ds_pure as, Bool.and_self]
theorem Sy.ds_pure : ∀ as : List Sy, D.pures (Sy.ds as) = true
  | [] => rfl
  | a :: as => by simp only [Sy.ds, D.pures, a.d_pure, Sy.ds_pure as, Bool.and_self]
end
mutual
theorem Sy.d_deep : ∀ s : Sy, deepD s.d.dt ≤ 2 * s.deep
  | .name x => by simp [Sy.d, D.dt, D.dts, deepD, deepDs, Sy.deep]
  | .bud => by simp [Sy.d, D.dt, D.dts, deepD, deepDs, Sy.deep]
  | .pair a b => by
    have h1 := a.d_deep
    have h2 := b.d_deep
    simp only [Sy.d, D.dt, D.dts, deepD, deepDs, Sy.deep]; omega
  | .left a => by
    have h1 := a.d_deep
    simp only [Sy.d, D.dt, D.dts, deepD, deepDs, Sy.deep]; omega
  | .right a => by
    have h1 := a.d_deep
    simp only [Sy.d, D.dt, D.dts, deepD, deepDs, Sy.deep]; omega
  | .fork a b c => by
    have h1 := a.d_deep
    have h2 := b.d_deep
    have h3 := c.d_deep
    simp only [Sy.d, D.dt, D.dts, deepD, deepDs, Sy.deep]; omega
  | .send x as => by
    have h1 := Sy.ds_deep as
    simp only [Sy.d, D.dt, D.dts, deepD, deepDs, Sy.deep]; omega
theorem Sy.ds_deep : ∀ as : List Sy, deepDs (D.dts (Sy.ds as)) ≤ 2 * Sy.deeps as
  | [] => by simp [Sy.ds, D.dts, deepDs]
  | a :: as => by
    have h1 := a.d_deep
    have h2 := Sy.ds_deep as
    simp only [Sy.ds, D.dts, deepDs, Sy.deeps]; omega
end
theorem D.strs_pure (xs : List Str) : D.pures (xs.map D.str) = true := D.pures_iff.mpr fun d hd => by
  obtain ⟨x, _, rfl⟩ := List.mem_map.mp hd
  rfl
theorem deepDs_le {ds : List Dt} {n : Nat} (h : ∀ d ∈ ds, deepD d ≤ n) : deepDs ds ≤ n := by
  induction ds with
  | nil => simp [deepDs]
  | cons d r ih =>
    simp only [deepDs]
    have h1 := h d List.mem_cons_self
    have h2 := ih fun e he => h e (List.mem_cons_of_mem _ he)
    omega
theorem D.strs_deep (xs : List Str) : deepDs (D.dts (xs.map D.str)) ≤ 0 := by
  rw [D.dts_map]
  refine deepDs_le fun d hd => ?_
  obtain ⟨x, hx, rfl⟩ := List.mem_map.mp hd
  obtain ⟨y, _, rfl⟩ := List.mem_map.mp hx
  simp [D.dt, deepD]
theorem Er.d_pure (e : Er) : e.d.pure = true := by simp only [Er.d, D.pure, D.pures, D.strs_pure, e.body.d_pure, Bool.and_self]
theorem Er.d_deep (e : Er) : deepD e.d.dt ≤ 2 * e.body.deep + 2 := by
  have h1 := e.body.d_deep
  have h2 := D.strs_deep e.ps
  simp only [Er.d, D.dt, D.dts, deepD, deepDs]
  omega
/-- two lists with the same content are equal -/
theorem eq_lists {S : Hp3} {a b : Addr} {ds : List D} {n : Nat} {Q : K3} (ha : S a = some (.lst ds)) (hb : S b = some (.lst ds)) (hp : ∀ d ∈ ds, d.pure = true) (hd : ∀ d ∈ ds, deepD d.dt + 1 ≤ n) (h1 : 1 ≤ n) (q : Q (.bl true) S) : eqD3 n (.ref a) (.ref b) S Q := by
  refine ⟨.lst (D.dts ds), .lst (D.dts ds), .ref ha (Dns.of (D.pures_iff.mpr hp)), .ref hb (Dns.of (D.pures_iff.mpr hp)), ?_, by rw [eqD_refl]; exact q⟩
  simp only [deepD]
  have : deepDs (D.dts ds) ≤ n - 1 := by
    rw [D.dts_map]
    refine deepDs_le fun d hd' => ?_
    obtain ⟨x, hx, rfl⟩ := List.mem_map.mp hd'
    have := hd x hx
    omega
  omega
end E3

namespace EE
open PySem PySem.Spec PyProof.Rows L2
/-! ### a list comprehension, its target a name or a tuple of names, with tests -/
/-- its own names O, those of the def around it M -/
structure CompScG (osc : Scope) (O M : List Str) (scope : Scope) : Prop where
  kind : scope.kind = .function
  nocell : ∀ y ∈ scope.names, y.2 ≠ .cell
  names : ∀ y ∈ scope.names, y.2 = .local → scope.names.lookup y.1 = some .local
  own : ∀ y ∈ O, scope.names.lookup y = some .local
  free : ∀ y ∈ scope.names, y.2 = .free → osc.names.lookup y.1 = some .cell
  nd : (O ++ M).Nodup
  mine : ∀ y ∈ M, scope.names.lookup y = some .free
section
variable {X : Cx} {pins : List (Addr × Obj)} {σ : L2.St} {H : Hp} {s : Shared} {scope : Scope} {O M : List Str} {js : List Nat} {C : Addr} {fp : List Addr}
theorem CompScG.cells (S : CompScG X.env.scope O M scope) (I : Inv X pins σ H s) : ∀ y ∈ scope.names, y.2 = .free → ∃ c, X.env.cells.lookup y.1 = some c := fun y hy hk => I.ok.has y.1 (.inl (S.free y hy hk))
theorem CompScG.sub (S : CompScG X.env.scope O M scope) (I : Inv X pins σ H s) {y : Str} {c : Addr} (e : (clOf scope X.env).lookup y = some c) : X.env.cells.lookup y = some c :=
  cl_sub scope.names [] (S.cells I) (fun _ _ h => by simp at h) y c e
theorem inv_compG {s1 : Shared} {m : Str → Option Value} (S : CompScG X.env.scope O M scope) (hc : X.calm = true) (I : Inv X pins σ H s) (hjs : ∀ (k : Nat) (y : Str), M[k]? = some y → ∃ j : Nat, js[k]? = some j ∧ X.N[j]? = some y) (hlen : js.length = M.length)
    (hf : ∀ b ∈ fp, FpOk X pins H b) (hfl : ∀ b ∈ fp, b < s.heap.objs.size) (hC : s.heap.objs.size ≤ C) (hn : s1.heap.Ns C m) (hk : ∀ b o, s.heap.get? b = some o → s1.heap.get? b = some o) (hos : s1.os = s.os) (hg : AllBare s1.gens) :
    Inv (cxComp X scope C (O ++ M) fp pins s H) [] (List.replicate O.length none ++ pick σ js) H s1 := by
  have nst : ∀ b ∈ fp, b ∉ frs X.stack := fun b hb z => by
    obtain ⟨f0, f1, f2, _⟩ := hf b hb
    rcases List.mem_cons.mp (I.stkSub b z) with e | e
    · exact f1 e
    · exact f2 e
  have cellK : ∀ (c : Addr) (v : Option Value), s.heap.IsCell c v → s1.heap.IsCell c v := fun c v ⟨o, e, d⟩ => ⟨o, hk c o e, d⟩
  refine ⟨⟨I.ok.mod, S.kind, I.ok.glob, I.ok.blt, hC, fun y z c h1 h2 => I.ok.inj y z c (S.sub I h1) (S.sub I h2), fun y hy => ?_, fun y c h _ => (by cases (show false = true from h)), fun _ => I.ok.hd hc, I.ok.frames, .inl rfl, fun b hb => ?_, I.bs,
    Nat.le_trans I.ok.bsz I.sz, fun b o e hb => ?_, nst, I.stack, I.stkFree⟩, hos, hg, Un.kept hk, ⟨m, hn, fun i y v h1 h2 h3 => ?_⟩, fun y c e => ?_, I.hok.fresh hC, fun y c e => I.freeC y c (S.sub I e), fun p hp => ?_, I.hok.kept hk, ?_⟩
  · have hy' : (relabel scope X.env).names.lookup y = some .cell ∨ (relabel scope X.env).names.lookup y = some .free := hy
    have fr : (y, NameKind.free) ∈ scope.names := by
      rcases hy' with h | h
      · obtain ⟨k', mm, e | e⟩ := relabel_mem h
        · exact absurd e.symm (S.nocell _ mm)
        · rw [e.1] at mm; exact mm
      · obtain ⟨k', mm, e | e⟩ := relabel_mem h
        · rw [← e] at mm; exact mm
        · exact absurd e.2 (by intro z; cases z)
    exact cl_has scope.names [] y (.inl fr)
  · obtain ⟨f0, f1, f2, f3, f4, f5⟩ := hf b hb
    exact ⟨Nat.ne_of_lt (Nat.lt_of_lt_of_le (hfl b hb) hC), fun y c e => f4 y c (S.sub I e)⟩
  · obtain ⟨f0, f1, f2, f3, f4, f5⟩ := hf b hb
    rcases f3 with f3 | f3
    · exact I.ok.noex b o e f3
    · exact absurd (Heap.lt_size e) (Nat.not_lt.mpr (Nat.le_trans I.ok.bsz f3))
  · have h1c : (O ++ M)[i]? = some y := h1
    by_cases hi : i < O.length
    · rw [List.getElem?_append_left (by simpa using hi), List.getElem?_replicate, if_pos hi] at h2
      have h2' : (none : Option V) = some v := Option.some.inj h2
      cases h2'
    · have hge : O.length ≤ i := Nat.le_of_not_lt hi
      rw [List.getElem?_append_right hge] at h1c
      rw [List.getElem?_append_right (by simpa using hge), List.length_replicate] at h2
      obtain ⟨j, ej, eN⟩ := hjs _ y h1c
      have eσ : σ[j]? = some (some v) := by
        unfold pick at h2
        rw [List.getElem?_map, ej] at h2
        have z : (σ[j]?).getD none = some v := by simpa using h2
        cases q : σ[j]? with
        | none => rw [q] at z; cases z
        | some o => rw [q] at z; rw [show o = some v from z]
      have hfree := S.mine y (List.mem_of_getElem? h1c)
      have hcell : X.env.kindOf y = some .cell := S.free (y, .free) (PySem.mem_of_lookup hfree) rfl
      obtain ⟨m0, _, hl0⟩ := I.loc
      obtain ⟨u, r, l⟩ := hl0 j y v eN eσ (.inr (.inl hcell))
      refine ⟨u, r, .inr ⟨.inl (relabel_free I.ok.kind hcell hfree), ?_⟩⟩
      obtain ⟨c', e'⟩ := cl_has (env := X.env) scope.names [] y (.inl (PySem.mem_of_lookup hfree))
      have e2 := S.sub I (show (clOf scope X.env).lookup y = some c' from e')
      rcases l with ⟨z, _⟩ | ⟨_, c, hcc, hic⟩
      · rw [hcell] at z; cases z
      · rw [hcc] at e2
        have : c = c' := Option.some.inj e2
        subst this
        exact ⟨c, e', cellK c _ hic⟩
  · obtain ⟨v, h⟩ := I.cell y c (S.sub I e)
    exact ⟨v, cellK c v h⟩
  · have hp' : p ∈ X.pn ++ pins := by simpa [cxComp] using hp
    obtain ⟨e, n, ne, nf, d⟩ := I.pin p hp'
    refine ⟨hk _ _ e, n, Nat.ne_of_lt (Nat.lt_of_lt_of_le (Heap.lt_size e) hC), fun z => ?_, d⟩
    rcases List.mem_cons.mp (I.stkSub p.1 z) with q | q
    · exact ne q
    · exact nf q
  · show (List.replicate O.length none ++ pick σ js).length = (O ++ M).length
    simp [pick, hlen]
end
/-- the tests of a comprehension -/
def PTs (X : Cx) (ifs : List Expr) (t : TT) : Prop :=
  ∀ (pins : List (Addr × Obj)) (s : Shared) (σ : L2.St) (H : Hp) (Q : Bool → Hp → Prop), Inv X pins σ H s → t σ H Q →
    wpAny (model X.prog X.w) X.A (forIn ifs true fun c r => if r = true then do let ok ← isTrue c X.env (eval c X.env); pure (ForInStep.yield ok) else pure (ForInStep.yield r)) (TP X pins σ Q) X.xe s
def tYes : TT := fun _ H Q => Q true H
theorem pts_nil {X : Cx} : PTs X [] tYes := fun _ _ _ _ _ I h => wpAny_tests_nil ⟨_, I, h⟩
/-- as tComp, with a target g, a test tt and an element te; n own names -/
def tCompG (wi : TI) (g : TG) (tt : TT) (te : TE) (n : Nat) (js : List Nat) : TE := fun σ H Q => wi σ H fun J H1 => ∀ D, H1 D = none → ∃ W : Nat → Nat → L2.St → Hp → Prop, (∃ m, W 0 m (List.replicate n none ++ pick σ js) (upd H1 D (.lst []))) ∧
  ∀ i m τ H2, W i m τ H2 → (J.stop i H2 ∧ Q (.ref D) H2) ∨ (J.go i H2 ∧ ∃ N : L2.St → Hp → Prop, (∀ τ' H', N τ' H' → ∃ m', m' < m ∧ W (i + 1) m' τ' H') ∧ ∀ v H', J.yld i H2 v H' →
    g v τ H' fun τ' H3 => tt τ' H3 fun b H4 => if b = true then te τ' H4 fun y H5 => ∃ ys, H5 D = some (.lst ys) ∧ ys.length < sizeLine ∧ N τ' (upd H5 D (.lst (ys ++ [y]))) else N τ' H4)
section
variable {X : Cx} {elt iter tg : Expr} {ifs : List Expr} {pos : Pos} {scope : Scope} {O M : List Str} {js : List Nat} {wi : TI} {g : TG} {tt : TT} {te : TE}
theorem compLoop_if {prog : Program} {w : World} {A : Around} {R : Result → Shared → Prop} {s : Shared} {it acc : Value} {env : Env} (I : Nat → Shared → Prop)
    (turn : ∀ n s, I n s → wpAny (model prog w) A (pyNext it) (fun r s₁ => match r with
      | none => R (.ok .next) s₁
      | some v => wpAny (model prog w) A (letOwnedTupleGo tg it v) (fun _ s₂ => wpAny (model prog w) A (assign tg env v) (fun _ s₃ =>
          wpAny (model prog w) A (forIn ifs true fun c r => if r = true then do let ok ← isTrue c env (eval c env); pure (ForInStep.yield ok) else pure (ForInStep.yield r)) (fun ok s₄ =>
            if ok = true then wpAny (model prog w) A (eval elt env) (fun y s₅ => wpAny (model prog w) A (call (.builtin "list.append") [acc, y]) (fun _ s₆ => ∃ m, m < n ∧ I m s₆) (fun _ _ => False) s₅) (fun _ _ => False) s₄
            else ∃ m, m < n ∧ I m s₄) (fun _ _ => False) s₃) (fun _ _ => False) s₂) (fun _ _ => False) s₁) (fun _ _ => False) s)
    (n : Nat) (h : I n s) : codeAny (model prog w) A (.compLoop (.ListComp elt [⟨tg, iter, ifs, 0⟩] scope pos) 0 it acc env) R s := by
  refine codeAny_loop rfl I (fun n s hI => ?_) n h
  show wpAny _ _ ((compTurn (.ListComp elt [⟨tg, iter, ifs, 0⟩] scope pos) 0 it acc env).onRaise (fun x => do noteFrame x env; theTreesLotGoes x)) _ _ s
  refine wpAny_noted ?_
  rw [compTurn_list]
  refine wpAny_bind (wpAny_standAt (wpAny_bind (wpAny_mono (turn n s hI) (fun r s₁ h₁ => ?_) fun _ _ z => z.elim)))
  cases r with
  | none => exact wpAny_pure h₁
  | some v =>
    refine wpAny_bind (wpAny_mono h₁ (fun _ s₂ h₂ => wpAny_bind (wpAny_mono h₂ (fun _ s₃ h₃ => wpAny_bind (wpAny_mono h₃ (fun ok s₄ h₄ => ?_) fun _ _ z => z.elim)) fun _ _ z => z.elim)) fun _ _ z => z.elim)
    cases ok with
    | false => exact wpAny_pure ⟨rfl, h₄⟩
    | true => exact wpAny_bind (wpAny_bind (wpAny_mono h₄ (fun y s₅ h₅ => wpAny_bind (wpAny_mono h₅ (fun _ s₆ h₆ => wpAny_pure (wpAny_pure ⟨rfl, h₆⟩)) fun _ _ z => z.elim)) fun _ _ z => z.elim))
theorem comp_blockG {pins : List (Addr × Obj)} {σ : L2.St} {H2 : Hp} {s2 : Shared} {it D : Addr} {fp : List Addr} {tn : Nat → Heap → Prop} {J : It} {W : Nat → Nat → L2.St → Hp → Prop} {Qe : Hp → Prop} {R : Addr → Result → Shared → Prop} {E : Value → Shared → Prop} {m0 : Nat}
    (S : CompScG X.env.scope O M scope) (hc : X.calm = true) (hjs : ∀ (k : Nat) (y : Str), M[k]? = some y → ∃ j : Nat, js[k]? = some j ∧ X.N[j]? = some y) (hlen : js.length = M.length)
    (hg : ∀ (C : Addr) (fp : List Addr) (pins : List (Addr × Obj)) (s : Shared) (H : Hp), PG (cxComp X scope C (O ++ M) fp pins s H) tg g)
    (ht : ∀ (C : Addr) (fp : List Addr) (pins : List (Addr × Obj)) (s : Shared) (H : Hp), PTs (cxComp X scope C (O ++ M) fp pins s H) ifs tt)
    (he : ∀ (C : Addr) (fp : List Addr) (pins : List (Addr × Obj)) (s : Shared) (H : Hp), PE (cxComp X scope C (O ++ M) fp pins s H) elt te)
    (I : Inv X pins σ H2 s2) (T : Turn X.prog X.w X.K tg J fp it tn) (st : tn 0 s2.heap) (hf : ∀ b ∈ fp, FpOk X pins H2 b) (w0 : W 0 m0 (List.replicate O.length none ++ pick σ js) H2)
    (turn : ∀ i m τ H3, W i m τ H3 → (J.stop i H3 ∧ Qe H3) ∨ (J.go i H3 ∧ ∃ N : L2.St → Hp → Prop, (∀ τ' H', N τ' H' → ∃ m', m' < m ∧ W (i + 1) m' τ' H') ∧ ∀ v H', J.yld i H3 v H' →
      g v τ H' fun τ' H4 => tt τ' H4 fun b H5 => if b = true then te τ' H5 fun y H6 => ∃ ys, H6 D = some (.lst ys) ∧ ys.length < sizeLine ∧ N τ' (upd H6 D (.lst (ys ++ [y]))) else N τ' H5))
    (fin : ∀ (C : Addr) (s' : Shared) (H' : Hp) (pins' : List (Addr × Obj)) (σ' : L2.St), s2.heap.objs.size ≤ C → Inv (cxComp X scope C (O ++ M) fp pins s2 H2) pins' σ' H' s' → Qe H' → R C (.ok .next) s') :
    wpAny (model X.prog X.w) X.A (newFunctionEnv scope X.env.globals (clOf scope X.env) [] X.env.qual none .none (some X.env)) (fun cenv s4 =>
      codeAny (model X.prog X.w) X.A (.compStart (.ListComp elt [⟨tg, iter, ifs, 0⟩] scope pos) 0 (.ref it) (.ref D) { cenv with scope := relabel scope X.env }) (R cenv.locals) s4) E s2 := by
  refine wpAny_newFunctionEnv S.nocell (by intro y hy; simp at hy) (fun h1 hns hsb => ?_) S.kind
  have hfl : ∀ b ∈ fp, b < s2.heap.objs.size := fun b hb => by
    obtain ⟨o, e, _⟩ := T.obj 0 _ st b hb
    exact Heap.lt_size e
  have old : ∀ b o, s2.heap.get? b = some o → h1.get? b = some o := fun b o e => (hsb.2 b (Nat.ne_of_lt (Heap.lt_size e))).trans (Heap.get?_push_of_some _ e)
  have I4 : Inv (cxComp X scope s2.heap.objs.size (O ++ M) fp pins s2 H2) [] (List.replicate O.length none ++ pick σ js) H2 { s2 with heap := h1, toks := s2.toks + ([] : List (Str × Value)).length } :=
    inv_compG S hc I hjs hlen hf hfl (Nat.le_refl _) hns old rfl I.bare
  have st4 : tn 0 h1 := T.keep _ _ _ st fun b hb o e => old b o e
  have stat : ∀ {H' : Hp}, (∀ b ∈ fp, H' b = none) → ∀ b ∈ fp, FpOk (cxComp X scope s2.heap.objs.size (O ++ M) fp pins s2 H2) [] H' b := fun {H'} hn b hb => by
    obtain ⟨f0, f1, f2, f3, f4, f5⟩ := hf b hb
    refine ⟨hn b hb, Nat.ne_of_lt (hfl b hb), I4.ok.exfs b hb, .inl hb, fun y c e => f4 y c (S.sub I e), fun p hp => f5 p ?_⟩
    simpa [cxComp] using hp
  have loop : ∀ s3 : Shared, s3 = { s2 with heap := h1, toks := s2.toks + ([] : List (Str × Value)).length } →
      codeAny (model X.prog X.w) X.A (.compLoop (.ListComp elt [⟨tg, iter, ifs, 0⟩] scope pos) 0 (.ref it) (.ref D) (compEnvC scope (clOf scope X.env) s2.heap.objs.size X.env)) (R s2.heap.objs.size) s3 := by
    rintro s3 rfl
    refine compLoop_if (fun n s' => ∃ (i : Nat) (τ : L2.St) (H' : Hp), Inv (cxComp X scope s2.heap.objs.size (O ++ M) fp pins s2 H2) [] τ H' s' ∧ tn i s'.heap ∧ (∀ b ∈ fp, H' b = none) ∧ W i n τ H') ?_ m0
      ⟨0, _, H2, I4, st4, fun b hb => (hf b hb).1, w0⟩
    rintro n s5 ⟨i, τ, H5, I5, st5, fr5, w5⟩
    rcases turn i n τ H5 w5 with ⟨stop, qe⟩ | ⟨go, N, hN, step⟩
    · refine thn (T.done (cxComp X scope s2.heap.objs.size (O ++ M) fp pins s2 H2) rfl rfl rfl rfl i [] s5 _ H5 (fun _ _ => False) I5 (stat fr5) st5 stop) fun r s6 ⟨hr, I6⟩ => ?_
      subst hr
      exact fin _ s6 H5 [] _ (Nat.le_refl _) I6 qe
    · refine thn (T.item (cxComp X scope s2.heap.objs.size (O ++ M) fp pins s2 H2) rfl rfl rfl rfl i [] s5 _ H5 (fun _ _ => False) I5 (stat fr5) st5 go) fun r s6 ⟨u, hr, h6⟩ => ?_
      subst hr
      refine thn h6 fun _ s7 ⟨v, H7, I7, r7, y7, st7, fr7⟩ => ?_
      have I7' := I7.pinned (stat fr7) (T.obj _ _ st7)
      have back : ∀ {σ9 : L2.St} {H9 : Hp} {s9 : Shared}, Inv (cxComp X scope s2.heap.objs.size (O ++ M) fp pins s2 H2) ([] ++ pinsAt fp s7.heap) σ9 H9 s9 → N σ9 H9 →
          ∃ m, m < n ∧ ∃ (i : Nat) (τ : L2.St) (H' : Hp), Inv (cxComp X scope s2.heap.objs.size (O ++ M) fp pins s2 H2) [] τ H' s9 ∧ tn i s9.heap ∧ (∀ b ∈ fp, H' b = none) ∧ W i m τ H' := by
        intro σ9 H9 s9 I9 n9
        obtain ⟨m', hm, w10⟩ := hN σ9 H9 n9
        refine ⟨m', hm, i + 1, σ9, H9, I9.unpinned, T.keep _ _ _ st7 fun b hb o e => (I9.pin (b, o) (List.mem_append_right _ (List.mem_append_right _ (mem_pinsAt hb e)))).1, fun b hb => ?_, w10⟩
        obtain ⟨o, e, d⟩ := T.obj _ _ st7 b hb
        exact (I9.pin (b, o) (List.mem_append_right _ (List.mem_append_right _ (mem_pinsAt hb e)))).2.1
      refine thn (hg s2.heap.objs.size fp pins s2 H2 _ s7 _ H7 v u _ I7' r7 (step v H7 y7)) fun _ s8 ⟨σ8, H8, I8, q8⟩ => ?_
      refine thn (ht s2.heap.objs.size fp pins s2 H2 _ s8 _ H8 _ I8 q8) fun ok s9 ⟨H9, I9, q9⟩ => ?_
      cases ok with
      | false => exact back I9 q9
      | true =>
        refine thn (he s2.heap.objs.size fp pins s2 H2 _ s9 _ H9 _ I9 q9) fun yv s10 ⟨y, H10, I10, r10, ys, hD, hz, n10⟩ => ?_
        refine thn (mt_append (X := cxComp X scope s2.heap.objs.size (O ++ M) fp pins s2 H2) _ s10 _ H10 (.ref D) [y] (.ref D) [yv] (fun _ H' => N σ8 H') I10 rfl (.cons r10 .nil) ⟨D, ys, y, rfl, rfl, hD, hz, n10⟩) fun _ s11 ⟨_, H11, I11, _, n11⟩ => ?_
        exact back I11 n11
  exact codeAny_compStart_list (loop _ rfl) (wpAny_mono (T.self X.A 0 _ _ _ st4 (loop _ rfl)) (fun _ _ z => z) fun _ _ z => z)
theorem pe_compG (S : CompScG X.env.scope O M scope) (hc : X.calm = true) (hjs : ∀ (k : Nat) (y : Str), M[k]? = some y → ∃ j : Nat, js[k]? = some j ∧ X.N[j]? = some y) (hlen : js.length = M.length) (hi : PI X tg iter wi)
    (hg : ∀ (C : Addr) (fp : List Addr) (pins : List (Addr × Obj)) (s : Shared) (H : Hp), PG (cxComp X scope C (O ++ M) fp pins s H) tg g)
    (ht : ∀ (C : Addr) (fp : List Addr) (pins : List (Addr × Obj)) (s : Shared) (H : Hp), PTs (cxComp X scope C (O ++ M) fp pins s H) ifs tt)
    (he : ∀ (C : Addr) (fp : List Addr) (pins : List (Addr × Obj)) (s : Shared) (H : Hp), PE (cxComp X scope C (O ++ M) fp pins s H) elt te) (hs : ∀ v, foldedSetIterable iter X.env v = pure v := by intro _; rfl) :
    PE X (.ListComp elt [⟨tg, iter, ifs, 0⟩] scope pos) (tCompG wi g tt te O.length js) := by
  intro pins s σ H Q I h
  rw [eval_ListComp]
  refine wpAny_comprehension_free (use := none) rfl hs (clos_ok (S.cells I)) S.kind S.names (thn (hi pins s σ H _ I h) fun xv s1 h1 => thn h1 fun itv s2 h2 => ?_)
  obtain ⟨it, fp, tn, J, H1, rfl, I2, T, st2, f2, q⟩ := h2
  refine wpAny_newObj_type ?_ (by show 0 ≤ sizeLine; decide)
  have hD : H1 s2.heap.objs.size = none := I2.hok.fresh (Nat.le_refl _)
  obtain ⟨W, ⟨m0, w0⟩, turn⟩ := q _ hD
  have I3 : Inv X pins σ (upd H1 s2.heap.objs.size (.lst [])) { s2 with heap := s2.heap.push { cls := .type "list", data := .seq ([] : List Value).toArray } } := I2.lnew (t' := s2.toks) .nil (Nat.zero_le _)
  have fr3 : ∀ b ∈ fp, FpOk X pins (upd H1 s2.heap.objs.size (.lst [])) b := fun b hb => by
    obtain ⟨f0, f⟩ := f2 b hb
    obtain ⟨o, e, _⟩ := T.obj 0 _ st2 b hb
    exact ⟨by rw [upd_ne (Nat.ne_of_lt (Heap.lt_size e))]; exact f0, f⟩
  refine comp_blockG (Qe := fun H' => Q (.ref s2.heap.objs.size) H') (R := fun C => compPost (model X.prog X.w) X.A X.xe none (EP X pins σ Q) (.ref s2.heap.objs.size) C) S hc hjs hlen hg ht he I3 T (T.keep _ _ _ st2 fun b hb o e => Heap.get?_push_of_some _ e) fr3 w0 turn ?_
  intro C s' H' pins' σ' hC Jv qe
  obtain ⟨m, hn, _⟩ := Jv.loc
  exact ⟨m, hn, fun h' hs' => ⟨.ref _, H', comp_end I3 fr3 Jv hC hs', rfl, qe⟩⟩
end
end EE

namespace EE
open PySem PySem.Spec PyProof.Rows L2
section
variable {prog : Program} {w : World} {A : Around} {E : Value → Shared → Prop} {s : Shared}
end
section
variable {prog : Program} {w : World} {A : Around} {E : Value → Shared → Prop} {s : Shared} {z TI TO i1 i2 a b : Addr} {k : Nat} {xs ys : Array Value} {x y p q : Value}
end
section
variable {X : Cx} {es : List Expr} {kt : Nat} {tp : Pos}
end
end EE

namespace E3
open PySem PySem.Spec PyProof.Rows L2 EE
/-! ### comprehensions with a tuple of names, or with a test -/
def exG (K : PySem.W.Frag) (g : TG3) : TG := fun v τ H Q => ∃ Z : Zt, lG K Z g v τ H Q
def exT (K : PySem.W.Frag) (t : TT3) : TT := fun τ H Q => ∃ Z : Zt, lT K Z t τ H Q
theorem PG3.ex {X : Cx} {e : Expr} {g : TG3} (h : PG3 X NoX e g) : PG X e (exG X.K g) := fun pins s σ H v u Q I r ⟨Z, q⟩ => h (ZX.no X Z) pins s σ H v u Q I r q
def PTs3 (X : Cx) (ifs : List Expr) (t : TT3) : Prop := PTs X ifs (exT X.K t)
theorem PTs3.ex {X : Cx} {ifs : List Expr} {t : TT3} (h : PTs3 X ifs t) : PTs X ifs (exT X.K t) := h
def yes3 : TT3 := fun _ S Q => Q true S
theorem ts_nil {X : Cx} : PTs3 X [] yes3 := fun pins s σ H Q I ⟨Z, _, S, _, _, hr, ht, hc⟩ => pts_nil pins s σ H Q I (hc true S H (Kp.refl _ _) hr ht)
/-- Sh: what an item makes of the own names; g: what the target asks -/
def ShG (n : Nat) (g : TG3) (Sh : D → St3 → Prop) : Prop := ∀ d ρ, Sh d ρ → ρ.length = n ∧ ∀ σ1 S Q, Q (ρ ++ σ1) S → g d (List.replicate n none ++ σ1) S Q
def Sh1 : D → St3 → Prop := fun d ρ => ρ = [some d]
theorem sh1 : ShG 1 (name3 0) Sh1 := fun d ρ h => by
  cases h
  exact ⟨rfl, fun σ1 S Q q => q⟩
def compS3 (wi : TI3) (Sh : D → St3 → Prop) (tt : TT3) (te : TE3) (js : List Nat) : TE3 := fun σ S Q => wi σ S fun ds Al S1 => ∃ W : Nat → List D → Hp3 → Prop, W 0 [] S1 ∧ (∀ i ys S, W i ys S → Al S ∧ ys.length < sizeLine) ∧
  (∀ i d ys S, ds[i]? = some d → W i ys S → ∃ ρ, Sh d ρ ∧ tt (ρ ++ pick3 σ js) S fun b S2 => if b = true then te (ρ ++ pick3 σ js) S2 fun y S3 => W (i + 1) (ys ++ [y]) S3 else W (i + 1) ys S2) ∧ ∀ ys S, W ds.length ys S → newL S ys Q
theorem SR.blank {K : PySem.W.Frag} {H : Hp} {r : St3} : ∀ {ρ : St3} {τ : L2.St}, SR K H (ρ ++ r) τ → SR K H (List.replicate ρ.length none ++ r) τ
  | [], _, h => h
  | _ :: ρ, _, .cons _ t => .cons (fun d e => by cases e) (SR.blank (ρ := ρ) t)
theorem comp_downG {K : PySem.W.Frag} {Z : Zt} {wi : TI3} {Sh : D → St3 → Prop} {g : TG3} {tt : TT3} {te : TE3} {n : Nat} {js : List Nat} {τ : L2.St} {H : Hp} {Q : VK} (hsh : ShG n g Sh) (h : lE K Z (compS3 wi Sh tt te js) τ H Q) :
    tCompG (lI K Z wi) (exG K g) (exT K tt) (exZ K te) n js τ H Q := by
  obtain ⟨σ, S, Q3, hs, hr, ht, hc⟩ := h
  refine ⟨σ, S, _, hs, hr, ht, fun ds Al S1 J H1 k1 l1 q1 wk => ?_⟩
  intro p hp
  obtain ⟨W, w0, al, turn, done⟩ := q1
  obtain ⟨hsp, hzp⟩ := l1.fresh hp
  have kp : Kp Z H1 (upd H1 p (.lst [])) := Kp.new hp hzp
  have sr0 : SR K (upd H1 p (.lst [])) (List.replicate n none ++ pick3 σ js) (List.replicate n none ++ pick τ js) := paired_append (SR.nones n) ((hs.mono (k1.trans kp)).picks js)
  refine ⟨fun i m τ' H' => m = ds.length - i ∧ i ≤ ds.length ∧ SR K H' (List.replicate n none ++ pick3 σ js) τ' ∧ ∃ ys vs S', Kp Z H1 H' ∧ H' p = some (.lst vs) ∧ Rps K H' ys vs ∧ S' p = none ∧ Rl K Z S' H' ∧ W i ys S',
    ⟨ds.length, by simp, Nat.zero_le _, sr0, [], [], S1, kp, upd_same, .nil, hsp, l1.lay hp, w0⟩, ?_⟩
  rintro i m τ' H2 ⟨rfl, hi, sr2, ys, vs, S2, k2, hp2, ry, hs2, l2, w2⟩
  obtain ⟨al2, hz⟩ := al _ _ _ w2
  by_cases hlt : i < ds.length
  · have hd : ds[i]? = some ds[i] := List.getElem?_eq_getElem hlt
    obtain ⟨go, yl⟩ := wk.go i _ S2 H2 k2 l2 al2 hd
    refine .inr ⟨go, fun τ' H' => i < ds.length ∧ SR K H' (List.replicate n none ++ pick3 σ js) τ' ∧ ∃ ys vs S', Kp Z H1 H' ∧ H' p = some (.lst vs) ∧ Rps K H' ys vs ∧ S' p = none ∧ Rl K Z S' H' ∧ W (i + 1) ys S',
      fun τ' H' z => ⟨ds.length - (i + 1), by omega, rfl, z.1, z.2⟩, fun v H3 y => ?_⟩
    obtain ⟨k3, rv, l3, o3⟩ := yl v H3 y
    have hp3 : H3 p = some (.lst vs) := (o3 p (by rw [hp2]; simp)).trans hp2
    obtain ⟨ρ, hρ, step⟩ := turn i _ ys S2 hd w2
    obtain ⟨hn, hg⟩ := hsh _ ρ hρ
    refine ⟨Z.hide H3 p, ds[i], _, S2, fun σ' S' => σ' = ρ ++ pick3 σ js ∧ S' = S2, rv, sr2.mono k3, (l3 _ l2).hide hs2 (by rw [hp3]; simp), hg _ _ _ ⟨rfl, rfl⟩, ?_⟩
    rintro σ4 S4 τ4 H4 k4 sr4 l4 ⟨rfl, rfl⟩
    refine ⟨Z.hide H3 p, _, _, _, sr4, l4, step, ?_⟩
    intro b S5 H5 k5 l5 q5
    have at5 : ∀ {S6 : Hp3} {H6 : Hp}, Kp (Z.hide H3 p) H4 H6 → Rl K (Z.hide H3 p) S6 H6 → H6 p = some (.lst vs) ∧ Kp Z H3 H6 ∧ Rl K Z S6 H6 ∧ S6 p = none := fun {S6 H6} k6 l6 => by
      have kk := (k4.trans k6).unhide (Z := Z) fun a z => .inl z
      exact ⟨((k4.trans k6).hid p (.inr rfl)).trans hp3, kk, l6.unhide (Z := Z) (fun a z => .inl z) ((l3 _ l2).old.trans kk), (l6.hid p (.inr rfl)).1⟩
    have bl : ∀ {H6 : Hp}, SR K H6 (ρ ++ pick3 σ js) τ4 → SR K H6 (List.replicate n none ++ pick3 σ js) τ4 := fun {H6} z => by
      have := SR.blank z
      rw [hn] at this
      exact this
    cases b with
    | false =>
      rw [if_neg Bool.false_ne_true]
      obtain ⟨hp5, kk, l5', sp5⟩ := at5 k5 l5
      exact ⟨hlt, bl (sr4.mono k5), ys, vs, S5, k2.trans (k3.trans kk), hp5, ry.mono (k3.trans kk), sp5, l5', q5⟩
    | true =>
      rw [if_pos rfl]
      refine ⟨Z.hide H3 p, _, S5, _, sr4.mono k5, l5, q5, ?_⟩
      intro d S6 w H6 k6 r6 l6 q6
      obtain ⟨hp6, k6', l6', sp6⟩ := at5 (k5.trans k6) l6
      have kk : Kp Z H6 (upd H6 p (.lst (vs ++ [w]))) := by
        refine ⟨fun b xs e => ?_, fun b q u e => ?_, fun b z => ?_⟩
        · rw [upd_ne]; exact e
          rintro rfl; rw [hp6] at e; cases e
        · rw [upd_ne]; exact e
          rintro rfl; rw [hp6] at e; cases e
        · rw [upd_ne]; rintro rfl; exact hzp z
      have hlen : ys.length = vs.length := ry.len
      refine ⟨vs, hp6, by omega, hlt, bl ((sr4.mono (k5.trans k6)).mono kk), ys ++ [d], vs ++ [w], S6, k2.trans (k3.trans (k6'.trans kk)), upd_same, (ry.mono (k3.trans (k6'.trans kk))).append (.cons (r6.mono kk) .nil), sp6,
        ⟨fun b u e => (l6'.obj b u e).keep kk (upd_ne (ne3 e sp6)), fun b z => ?_, l6'.old.trans kk⟩, q6⟩
      have hb : b ≠ p := fun e => hzp (e ▸ z)
      rw [upd_ne hb]
      exact l6'.hid b z
  · have e : i = ds.length := by omega
    subst e
    refine .inl ⟨wk.stop S2 H2 k2 l2 al2, ?_⟩
    refine hc (.ref p) (up S2 p (.lst ys)) (.ref p) H2 (k1.trans k2) (.ref p) ⟨fun b u e => ?_, fun b z => ?_, l2.old⟩ (done ys S2 w2 p hs2)
    · by_cases hb : b = p
      · subst hb
        rw [up_same] at e
        cases e
        exact ⟨vs, hp2, ry⟩
      · rw [up_ne hb] at e
        exact l2.obj b u e
    · have hb : b ≠ p := fun e => hzp (e ▸ z)
      rw [up_ne hb]
      exact l2.hid b z
section
variable {X : Cx} {W3 : W3T} {elt iter tg : Expr} {ifs : List Expr} {x x' : Str} {px px' pos tp : Pos} {kt : Nat} {scope osc : Scope} {O M N : List Str} {js : List Nat} {wi : TI3} {g : TG3} {Sh : D → St3 → Prop} {tt : TT3} {te : TE3}
theorem e_compG (S : CompScG osc O M scope) (hjs : M.map some = js.map fun j => N[j]?) (hc : X.calm = true) (hsh : ShG O.length g Sh) (hi : PI3 X W3 tg iter wi)
    (hg : ∀ (C : Addr) (fp : List Addr) (pins : List (Addr × Obj)) (s : Shared) (H : Hp), PG3 (cxComp X scope C (O ++ M) fp pins s H) NoX tg g)
    (ht : ∀ (C : Addr) (fp : List Addr) (pins : List (Addr × Obj)) (s : Shared) (H : Hp), PTs3 (cxComp X scope C (O ++ M) fp pins s H) ifs tt)
    (he : ∀ (C : Addr) (fp : List Addr) (pins : List (Addr × Obj)) (s : Shared) (H : Hp), PE3 (cxComp X scope C (O ++ M) fp pins s H) NoX elt te)
    (hosc : X.env.scope = osc) (hN : X.N = N) (hs : ∀ v, foldedSetIterable iter X.env v = pure v) :
    PE3 X W3 (.ListComp elt [⟨tg, iter, ifs, 0⟩] scope pos) (compS3 wi Sh tt te js) := fun Z => by
  subst hosc hN
  exact PE.imp (pe_compG S hc (js_of hjs).1 (js_of hjs).2 (hi Z) (fun C fp pins s H => (hg C fp pins s H).ex) (fun C fp pins s H => (ht C fp pins s H).ex) (fun C fp pins s H => (he C fp pins s H).ex) hs) fun _ _ _ h => comp_downG hsh h
theorem own1 (S : CompScG osc [x] M scope) (C : Addr) (fp : List Addr) (pins : List (Addr × Obj)) (s : Shared) (H : Hp) : PG3 (cxComp X scope C ([x] ++ M) fp pins s H) NoX (.Name x px) (name3 0) :=
  g_name (i := 0) S.nd rfl (.inl (lookup_relabel_local (S.own x List.mem_cons_self))) (.inr (lookup_relabel_local (S.own x List.mem_cons_self)))
/-- one name -/
theorem e_comp1 (S : CompScG osc [x] M scope) (hjs : M.map some = js.map fun j => N[j]?) (hc : X.calm = true) (hi : PI3 X W3 (.Name x px) iter wi)
    (ht : ∀ (C : Addr) (fp : List Addr) (pins : List (Addr × Obj)) (s : Shared) (H : Hp), PTs3 (cxComp X scope C ([x] ++ M) fp pins s H) ifs tt)
    (he : ∀ (C : Addr) (fp : List Addr) (pins : List (Addr × Obj)) (s : Shared) (H : Hp), PE3 (cxComp X scope C ([x] ++ M) fp pins s H) NoX elt te)
    (hosc : X.env.scope = osc := by rfl) (hN : X.N = N := by rfl) (hs : ∀ v, foldedSetIterable iter X.env v = pure v := by intro _; rfl) :
    PE3 X W3 (.ListComp elt [⟨.Name x px, iter, ifs, 0⟩] scope pos) (compS3 wi Sh1 tt te js) := e_compG S hjs hc sh1 hi (own1 S) ht he hosc hN hs
end
/-! readings -/
section
variable {σ : St3} {S : Hp3} {Q : K3} {wi : TI3} {js : List Nat} {tt : TT3} {te : TE3} {Sh : D → St3 → Prop}
theorem j_compS (h : wi σ S fun ds Al S1 => ∃ W : Nat → List D → Hp3 → Prop, W 0 [] S1 ∧ (∀ i ys S, W i ys S → Al S ∧ ys.length < sizeLine) ∧
  (∀ i d ys S, ds[i]? = some d → W i ys S → ∃ ρ, Sh d ρ ∧ tt (ρ ++ pick3 σ js) S fun b S2 => if b = true then te (ρ ++ pick3 σ js) S2 fun y S3 => W (i + 1) (ys ++ [y]) S3 else W (i + 1) ys S2) ∧ ∀ ys S, W ds.length ys S → newL S ys Q) : compS3 wi Sh tt te js σ S Q := h
theorem j_yes {P : Bool → Hp3 → Prop} (h : P true S) : yes3 σ S P := h
end
end E3
namespace E3
open PySem PySem.Spec PyProof.Rows L2 EE
section
variable {X : Cx} {W3 : W3T} {es : List Expr} {kt : Nat} {tp pos p : Pos} {a b : Expr} {ta : TA3} {σ : St3} {S : Hp3} {R : RI} {al : TA3}
end
end E3
namespace E3
open PySem PySem.Spec PyProof.Rows L2 EE
/-- as comp_map, where an element leaves something behind -/
theorem comp_mapS {σ : St3} {Q : K3} {te : TE3} {js : List Nat} {ds : List D} {Al : Hp3 → Prop} {S1 : Hp3} (f : Nat → D) (hz : ds.length ≤ 10000) (hA : ∀ S, Sub S1 S → Al S)
    (h : ∀ i d S, ds[i]? = some d → Sub S1 S → ∀ P : K3, (∀ S', Sub S S' → P (f i) S') → te (some d :: pick3 σ js) S P) (q : ∀ S, Sub S1 S → newL S ((List.range ds.length).map f) Q) :
    ∃ W : Nat → List D → Hp3 → Prop, W 0 [] S1 ∧ (∀ i ys S, W i ys S → Al S ∧ ys.length < sizeLine) ∧
  (∀ i d ys S, ds[i]? = some d → W i ys S → te (some d :: pick3 σ js) S fun y S' => W (i + 1) (ys ++ [y]) S') ∧ ∀ ys S, W ds.length ys S → newL S ys Q := by
  refine ⟨fun i ys S => i ≤ ds.length ∧ ys = (List.range i).map f ∧ Sub S1 S, ⟨Nat.zero_le _, rfl, Sub.refl _⟩, ?_, ?_, ?_⟩
  · rintro i ys S ⟨hi, rfl, hs⟩
    refine ⟨hA S hs, ?_⟩
    rw [List.length_map, List.length_range]
    exact Nat.lt_of_le_of_lt (Nat.le_trans hi hz) (by decide)
  · rintro i d ys S hd ⟨hi, rfl, hs⟩
    refine h i d S hd hs _ fun S' hs' => ⟨(List.getElem?_eq_some_iff.mp hd).1, ?_, hs.trans hs'⟩
    rw [List.range_succ, List.map_append]
    rfl
  · rintro ys S ⟨_, rfl, hs⟩
    exact q S hs
end E3

namespace EE
open PySem PySem.Spec PyProof.Rows L2
/-! ### Python's own: max, all, any, count -/
theorem vals_ints : ∀ {ns : List Int} {us : List Value}, Vals (ns.map V.int) us → ∃ ps : List (Int × Tok), us = ps.map (fun p => .int p.1 p.2) ∧ ps.map (·.1) = ns
  | [], _, .nil => ⟨[], rfl, rfl⟩
  | n :: ns, _, .cons r t => by
    obtain ⟨tk, rfl⟩ := r
    obtain ⟨ps, rfl, e⟩ := vals_ints t
    exact ⟨(n, tk) :: ps, rfl, by rw [List.map_cons, e]⟩
theorem vals_bls : ∀ {bs : List Bool} {us : List Value}, Vals (bs.map V.bl) us → us = bs.map Value.bool
  | [], _, .nil => rfl
  | b :: bs, _, .cons r t => by
    cases r
    rw [vals_bls t]
    rfl
section
variable {X : Cx}
theorem range_all (bs : List Bool) : ((List.range bs.length).all fun i => bs.getD i true) = bs.all id := by
  rw [Bool.eq_iff_iff, List.all_eq_true, List.all_eq_true]
  constructor
  · intro h b hb
    obtain ⟨j, hj, rfl⟩ := List.getElem_of_mem hb
    have := h j (List.mem_range.mpr hj)
    rw [List.getD_eq_getElem?_getD, List.getElem?_eq_getElem hj] at this
    exact this
  · intro h j hj
    have hj' := List.mem_range.mp hj
    rw [List.getD_eq_getElem?_getD, List.getElem?_eq_getElem hj']
    exact h _ (List.getElem_mem hj')
theorem range_any (bs : List Bool) : ((List.range bs.length).any fun i => bs.getD i true) = bs.any id := by
  rw [Bool.eq_iff_iff, List.any_eq_true, List.any_eq_true]
  constructor
  · rintro ⟨j, hj, h⟩
    have hj' := List.mem_range.mp hj
    rw [List.getD_eq_getElem?_getD, List.getElem?_eq_getElem hj'] at h
    exact ⟨_, List.getElem_mem hj', h⟩
  · rintro ⟨b, hb, h⟩
    obtain ⟨j, hj, rfl⟩ := List.getElem_of_mem hb
    refine ⟨j, List.mem_range.mpr hj, ?_⟩
    rw [List.getD_eq_getElem?_getD, List.getElem?_eq_getElem hj]
    exact h
theorem bls_truth {prog : Program} {w : World} {A : Around} {bs : List Bool} : TruthOf prog w A (fun i v => (bs.map Value.bool).toArray[i]? = some v) (fun i => bs.getD i true) := by
  intro i v s Q E hP hQ
  rw [List.getElem?_toArray, List.getElem?_map] at hP
  obtain ⟨b, hb, rfl⟩ := Option.map_eq_some_iff.mp hP
  dsimp only at hQ
  rw [List.getD_eq_getElem?_getD, hb] at hQ
  exact wpAny_truthy_bool hQ
theorem call_allL (hc : X.calm = true) : CallR X (.builtin "all") (fun xs H Q => ∃ (a : Addr) (bs : List Bool), xs = [.ref a] ∧ SqL X.K H a (bs.map V.bl) ∧ Q (.bl (bs.all id)) H) := by
  intro pins s σ H xs us Q I r h
  obtain ⟨a, bs, rfl, hq, q⟩ := h
  obtain ⟨u, rfl, r1⟩ := vals1 r
  cases r1
  obtain ⟨its, rv, p, hz⟩ := I.list hq
  obtain rfl := vals_bls rv
  have pl := p.isList
  have hlt : a < s.heap.objs.size := by
    obtain ⟨_, e, _⟩ := pl
    exact Heap.lt_size e
  refine call_all_walk (wpAny_pyIter_list pl ⟨_, _, _, _, _, _, _, rfl, Walks.list (A := X.A.in1) (I.ok.hd hc) s.heap.objs.size a (Nat.ne_of_lt hlt) (bs.map Value.bool).toArray, ⟨⟨_, Heap.get?_push_size _ rfl, rfl, rfl⟩, pl.push _⟩, bls_truth, fun h' tk hk => ?_⟩)
  have hz : (bs.map Value.bool).toArray.size = bs.length := by simp
  rw [hz, range_all]
  refine ⟨.bl _, H, I.kept fun b o e => hk b o (fun hm => ?_) (Heap.get?_push_of_some _ e), rfl, q⟩
  have e1 : b = s.heap.objs.size := by simpa using hm
  exact absurd (Heap.lt_size e) (by rw [e1]; exact Nat.lt_irrefl _)
theorem call_anyL (hc : X.calm = true) : CallR X (.builtin "any") (fun xs H Q => ∃ (a : Addr) (bs : List Bool), xs = [.ref a] ∧ SqL X.K H a (bs.map V.bl) ∧ Q (.bl (bs.any id)) H) := by
  intro pins s σ H xs us Q I r h
  obtain ⟨a, bs, rfl, hq, q⟩ := h
  obtain ⟨u, rfl, r1⟩ := vals1 r
  cases r1
  obtain ⟨its, rv, p, hz⟩ := I.list hq
  obtain rfl := vals_bls rv
  have pl := p.isList
  have hlt : a < s.heap.objs.size := by
    obtain ⟨_, e, _⟩ := pl
    exact Heap.lt_size e
  refine call_any_walk (wpAny_pyIter_list pl ⟨_, _, _, _, _, _, _, rfl, Walks.list (A := X.A.in1) (I.ok.hd hc) s.heap.objs.size a (Nat.ne_of_lt hlt) (bs.map Value.bool).toArray, ⟨⟨_, Heap.get?_push_size _ rfl, rfl, rfl⟩, pl.push _⟩, bls_truth, fun h' tk hk => ?_⟩)
  have hz : (bs.map Value.bool).toArray.size = bs.length := by simp
  rw [hz, range_any]
  refine ⟨.bl _, H, I.kept fun b o e => hk b o (fun hm => ?_) (Heap.get?_push_of_some _ e), rfl, q⟩
  have e1 : b = s.heap.objs.size := by simpa using hm
  exact absurd (Heap.lt_size e) (by rw [e1]; exact Nat.lt_irrefl _)
end
end EE
namespace E3
open PySem PySem.Spec PyProof.Rows L2 EE
section
variable {K : PySem.W.Frag}
theorem bls_down {H : Hp} : ∀ {bs : List Bool} {vs : List V}, Rps K H (bs.map D.bl) vs → vs = bs.map V.bl
  | [], _, .nil => rfl
  | _ :: _, _, .cons (.bl _) t => by rw [bls_down t]; rfl
def all3 (f : List Bool → Bool) : List D → Hp3 → K3 → Prop := fun xs S Q => ∃ (x : D) (bs : List Bool), xs = [x] ∧ IsL S x (bs.map D.bl) ∧ Q (.bl (f bs)) S
theorem dn_all {f : List Bool → Bool} : DnC K (all3 f) (fun xs H Q => ∃ (a : Addr) (bs : List Bool), xs = [.ref a] ∧ SqL K H a (bs.map V.bl) ∧ Q (.bl (f bs)) H) := by
  intro Z ds S Q3 vs H Q r l h c
  obtain ⟨x, bs, rfl, hx, q⟩ := h
  cases r with
  | cons r rr =>
    cases rr
    obtain ⟨a, ws, rfl, h1, h2⟩ := hx.down r l
    rw [bls_down h2] at h1
    exact ⟨a, bs, rfl, h1, c _ S _ H (Kp.refl _ _) (.bl _) l q⟩
def chain3 (r r' : R3) (ta tb tc : TE3) : TE3 := fun σ S Q => ta σ S fun x S1 => tb σ S1 fun y S2 => r x y S2 fun z S3 => ∃ k, z = .bl k ∧ (if k = true then tc σ S3 fun u S4 => r' y u S4 Q else Q (.bl false) S3)
theorem chain_down {Z : Zt} {r r' : R2} {r3 r3' : R3} {ta tb tc : TE3} {τ : L2.St} {H : Hp} {Q : VK} (hd : Dn2 K r3 r) (hd' : Dn2 K r3' r') (h : lE K Z (chain3 r3 r3' ta tb tc) τ H Q) : tChain r r' (lE K Z ta) (lE K Z tb) (lE K Z tc) τ H Q := by
  obtain ⟨σ, S, Q3, hs, hr, ht, hc⟩ := h
  refine ⟨σ, S, _, hs, hr, ht, fun x S1 v H1 k1 r1 l1 q1 => ⟨σ, S1, _, hs.mono k1, l1, q1, fun y S2 w H2 k2 r2 l2 q2 => ?_⟩⟩
  refine hd Z x y S2 _ v w H2 _ (r1.mono k2) r2 l2 q2 fun z S3 u H3 k3 r3 l3 q3 => ?_
  obtain ⟨k, rfl, q3⟩ := q3
  cases r3
  refine ⟨k, rfl, ?_⟩
  cases k with
  | false =>
    rw [if_neg Bool.false_ne_true] at q3 ⊢
    exact hc (.bl false) S3 _ H3 (k1.trans (k2.trans k3)) (.bl false) l3 q3
  | true =>
    rw [if_pos rfl] at q3 ⊢
    exact ⟨σ, S3, _, hs.mono (k1.trans (k2.trans k3)), l3, q3, fun u S4 u' H4 k4 r4 l4 q4 => hd' Z y u S4 _ w u' H4 _ (r2.mono (k3.trans k4)) r4 l4 q4 (hc.mono (k1.trans (k2.trans (k3.trans k4))))⟩
end
section
variable {X : Cx} {W3 : W3T} {a b c : Expr} {ta tb tc : TE3} {pos : Pos} {op op' : CmpOp} {r r' : R2} {r3 r3' : R3}
theorem t_chain (ho : OpR X (compareOp op) r) (hd : Dn2 X.K r3 r) (ho' : OpR X (compareOp op') r') (hd' : Dn2 X.K r3' r') (ha : PE3 X W3 a ta) (hb : PE3 X W3 b tb) (hc : PE3 X W3 c tc) (hm : lastMarks [op, op'] [b, c] = false := by with_unfolding_all rfl) :
    PT3 X W3 (.Compare a [op, op'] [b, c] pos) (test3 (chain3 r3 r3' ta tb tc)) := fun Z => PT.imp (pt_chain ho ho' (ha Z) (hb Z) (hc Z) hm) fun _ _ _ h => test_down (fun _ _ _ h => chain_down hd hd' h) h
end
section
variable {σ : St3} {S : Hp3} {Q : K3} {ta tb tc : TE3} {r r' : R3}
theorem j_chain (h : ta σ S fun x S1 => tb σ S1 fun y S2 => r x y S2 fun z S3 => ∃ k, z = .bl k ∧ (if k = true then tc σ S3 fun u S4 => r' y u S4 Q else Q (.bl false) S3)) : chain3 r r' ta tb tc σ S Q := h
theorem j_all {f : List Bool → Bool} {a : Addr} {bs : List Bool} (hS : S a = some (.lst (bs.map D.bl))) (q : Q (.bl (f bs)) S) : all3 f [.ref a] S Q := ⟨_, bs, rfl, .inl ⟨a, rfl, hS⟩, q⟩
end
/-! an if whose ways are joined behind it -/
def ifm3 (c : TT3) (t u : TS3) : TS3 := ifs3 c t u
theorem s_ifm {X : Cx} {W3 : W3T} {c : Expr} {a b : List Stmt} {tc : TT3} {t u : TS3} {pos : Pos} (hc : PT3 X W3 c tc) (ha : PSs3 X W3 a t) (hb : PSs3 X W3 b u) : PS3 X W3 (.If c a b pos) (ifm3 tc t u) := s_if hc ha hb
theorem j_ifm {tc : TT3} {t u : TS3} {n : St3 → Hp3 → Prop} {rt : K3} {bk ct : St3 → Hp3 → Prop} {σ : St3} {S : Hp3} (Mid : St3 → Hp3 → Prop) (h1 : ∀ n' : St3 → Hp3 → Prop, (∀ σ S, Mid σ S → n' σ S) → ifs3 tc t u ⟨n', rt, bk, ct⟩ σ S)
    (h2 : ∀ σ S, Mid σ S → n σ S) : ifm3 tc t u ⟨n, rt, bk, ct⟩ σ S := h1 n h2
end E3

namespace E3
open PySem PySem.Spec PyProof.Rows L2 EE
abbrev Mat := List (List Int)
structure Mt (m n : Nat) (A : Mat) : Prop where
  len : A.length = m
  row : ∀ r ∈ A, r.length = n
  num : ∀ r ∈ A, ∀ x ∈ r, 0 ≤ x ∧ x ≤ 2
/-- a graph -/
def rowD (r : List Int) : D := .tup (r.map D.int)
def matD (A : Mat) : D := .tup (A.map rowD)
def grD (f t : Str) (A : Mat) : D := .tup [.str f, .str t, matD A]
theorem ints_pure (r : List Int) : D.pures (r.map D.int) = true := D.pures_iff.mpr fun d hd => by
  obtain ⟨x, _, rfl⟩ := List.mem_map.mp hd
  rfl
theorem ints_deep (r : List Int) : deepDs (D.dts (r.map D.int)) ≤ 1 := by
  rw [D.dts_map]
  refine deepDs_le fun d hd => ?_
  obtain ⟨e, he, rfl⟩ := List.mem_map.mp hd
  obtain ⟨x, _, rfl⟩ := List.mem_map.mp he
  simp [D.dt, deepD]
theorem grD_pure (f t : Str) (A : Mat) : (grD f t A).pure = true := by
  have h : D.pures (A.map rowD) = true := D.pures_iff.mpr fun d hd => by
    obtain ⟨r, _, rfl⟩ := List.mem_map.mp hd
    simp only [rowD, D.pure]
    exact ints_pure r
  simp only [grD, matD, D.pure, D.pures, h, Bool.and_self]
theorem grD_deep (f t : Str) (A : Mat) : deepD (grD f t A).dt ≤ 10 := by
  have h : deepDs (D.dts (A.map rowD)) ≤ 3 := by
    rw [D.dts_map]
    refine deepDs_le fun d hd => ?_
    obtain ⟨e, he, rfl⟩ := List.mem_map.mp hd
    obtain ⟨r, _, rfl⟩ := List.mem_map.mp he
    have := ints_deep r
    simp only [rowD, D.dt, deepD]
    omega
  simp only [grD, matD, D.dt, D.dts, deepD, deepDs]
  omega
section
variable {S : Hp3} {Q : K3} {f t : Str} {A : Mat} {r : List Int} {R : RI}
end
end E3

namespace E3
open PySem PySem.Spec PyProof.Rows L2 EE
section
variable {P : Program} {w : World} {K : PySem.W.Frag} {mg : Str → Option Value} {base : Heap} {x : Str} {st : Stmt} {N ps : List Str} {k : Nat}
end
end E3

namespace E3
open PySem PySem.Spec PyProof.Rows L2 EE
end E3

namespace EE
open PySem PySem.Spec PyProof.Rows L2
section
variable {X : Cx}
end
end EE
namespace E3
open PySem PySem.Spec PyProof.Rows L2 EE
end E3

namespace EE
open PySem PySem.Spec PyProof.Rows L2
/-! ### set of a tuple of texts, and how many they are -/
def stS (σ : List Str) (v : Str) : List Str := if v ∈ σ then σ else σ ++ [v]
def met (vs : List Str) : List Str := vs.foldl stS []
section
variable {prog : Program} {w : World} {A : Around} {R : Result → Shared → Prop} {I : Addr} {fp wr : List Addr} {G : Array GenState → Array GenState → Prop} {P : Nat → Value → Prop} {St : Nat → Shared → Prop} {vs : List Str}
end
section
variable {prog : Program} {w : World} {A : Around} {E : Value → Shared → Prop} {s : Shared}
end
end EE
namespace EE
open PySem PySem.Spec PyProof.Rows L2
section
variable {X : Cx}
end
end EE
namespace E3
open PySem PySem.Spec PyProof.Rows L2 EE
end E3

namespace EE
open PySem PySem.Spec PyProof.Rows L2
/-! ### reversed(l), l a list -/
def ItvL (K : PySem.W.Frag) (a : Addr) (n : Nat) : It :=
  ⟨fun i H => i < n ∧ ∃ xs, SqL K H a xs ∧ xs.length = n, fun i H x H' => H' = H ∧ ∀ xs, SqL K H a xs → xs[n - 1 - i]? = some x, fun i _ => n ≤ i⟩
theorem turn_revL {P : Program} {w : World} {K : PySem.W.Frag} {tg : Expr} (a it : Addr) (n : Nat) : Turn P w K tg (ItvL K a n) [it] it (fun i h => i ≤ n ∧ h.IsRevIter it a ((n : Int) - 1 - (i : Int))) where
  mem := by simp
  obj := fun i h st b hb => by
    have e : b = it := by simpa using hb
    subst e
    obtain ⟨_, o, e, c, d⟩ := st
    exact ⟨o, e, fun v z => by rw [d] at z; cases z⟩
  keep := fun i h h' st k => let ⟨hi, o, ho, r⟩ := st; ⟨hi, o, k it (by simp) o ho, r⟩
  item := by
    intro X hP hw hK hc i pins s σ H E I hf st hg
    subst hP hw hK
    obtain ⟨hi, xs, hq, hn⟩ := hg
    obtain ⟨its, rv, p, hz⟩ := I.list hq
    have hl := rv.length
    have hx : xs[n - 1 - i]? = some xs[n - 1 - i] := List.getElem?_eq_getElem (by omega)
    obtain ⟨u, hu, ru⟩ := rv.get hx
    obtain ⟨f0, f1, f2, f3, f4, f5⟩ := hf it (by simp)
    have e1 : (n : Int) - 1 - (i : Int) = ((n - 1 - i : Nat) : Int) := by omega
    have st2 := st.2
    rw [e1] at st2
    refine wpAny_pyNext_rev_item st2 p.isList (x := u) (by simpa using hu) fun h' st' sb => ?_
    have I1 : Inv X pins σ H { s with heap := h' } := I.turned (t' := s.toks) (fun b o hb e => (sb.2 b hb).trans e) f0 f1 f3 f4 f5
    obtain ⟨o, e, c, d⟩ := id st'
    have e2 : ((n - 1 - i : Nat) : Int) - 1 = (n : Int) - 1 - ((i + 1 : Nat) : Int) := by omega
    refine ⟨u, rfl, go_of (s := { s with heap := h' }) e c d (by decide) ⟨xs[n - 1 - i], H, I1, ru, ⟨rfl, fun ys hy => by rw [I.list_inj hy hq]; exact hx⟩, ⟨hi, ?_⟩, fun b hb => (hf b hb).1⟩⟩
    rw [← e2]
    exact st'
  done := by
    intro X hP hw hK hc i pins s σ H E I hf st hg
    subst hP hw hK
    obtain ⟨f0, f1, f2, f3, f4, f5⟩ := hf it (by simp)
    have hg' : n ≤ i := hg
    have e1 : (n : Int) - 1 - (i : Int) = -1 := by have := st.1; omega
    have st2 := st.2
    rw [e1] at st2
    exact wpAny_pyNext_rev_end (I.ok.hd hc) st2 fun h' eb => ⟨rfl, I.turned (t' := s.toks) (fun b o hb e => eb b o hb e) f0 f1 f3 f4 f5⟩
  self := fun _ _ _ _ _ st h => wpAny_pyIter_revIter st.2 h
def iRevL (K : PySem.W.Frag) (te : TA) : TI := fun σ H R => te σ H fun vs H1 => ∃ a xs, vs = [.ref a] ∧ SqL K H1 a xs ∧ R (ItvL K a xs.length) H1
theorem pi_revL {X : Cx} {tg a : Expr} {ta : TA} {p pos : Pos} (hg : Gl X "reversed") (hm : X.mg "reversed" = none) (ha : PA X [a] ta) (hs : starEach [a] X.env = [(false, eval a X.env)] := by rfl) : PI X tg (.Call (.Name "reversed" p) [a] [] pos) (iRevL X.K ta) := by
  intro pins s σ H R I h
  refine Call_ (ld_blt I hg hm boot_rev (PyProof.Rows.callWith_type1 (thn (ha pos pins s σ H _ I h) fun us s1 ⟨vs, H1, I1, r1, q1⟩ => ?_) hs rfl))
  obtain ⟨b, xs, e, hq, q⟩ := q1
  subst e
  cases r1 with
  | cons r rr =>
    cases rr
    cases r
    obtain ⟨its, rv, pt, hz⟩ := I1.list hq
    have hl := rv.length
    refine call_reversed_list pt.isList ?_
    have I2 : Inv X pins σ H1 { s1 with heap := s1.heap.push (revObj b ((its.toArray.size : Int) - 1)) } := I1.kept (t' := s1.toks) fun c o e => Heap.get?_push_of_some _ e
    have st : (s1.heap.push (revObj b ((its.toArray.size : Int) - 1))).IsRevIter s1.heap.objs.size b ((its.toArray.size : Int) - 1) := ⟨_, Heap.get?_push_size _ rfl, rfl, rfl⟩
    refine wpAny_pyIter_revIter st ?_
    have e1 : (its.toArray.size : Int) - 1 = (xs.length : Int) - 1 - ((0 : Nat) : Int) := by simp only [List.size_toArray]; omega
    refine ⟨s1.heap.objs.size, [s1.heap.objs.size], _, _, H1, rfl, I2, turn_revL b _ xs.length, ⟨Nat.zero_le _, by rw [← e1]; exact st⟩, fun c hc => ?_, q⟩
    have e : c = s1.heap.objs.size := by simpa using hc
    subst e
    exact I1.fpOk (Nat.le_refl _) (I1.hok.fresh (Nat.le_refl _))
end EE
namespace E3
open PySem PySem.Spec PyProof.Rows L2 EE
section
variable {X : Cx} {W3 : W3T} {tg : Expr} {pos : Pos}
def iRevL3 (ta : TA3) : TI3 := fun σ S R => ta σ S fun xs S1 => ∃ a ds, xs = [.ref a] ∧ S1 a = some (.lst ds) ∧ R ds.reverse (fun S => S a = some (.lst ds)) S1
theorem i_revL {a : Expr} {ta : TA3} {p : Pos} (hg : Gl X "reversed") (hm : X.mg "reversed" = none) (ha : PA3 X W3 [a] ta) (hs : starEach [a] X.env = [(false, eval a X.env)] := by rfl) : PI3 X W3 tg (.Call (.Name "reversed" p) [a] [] pos) (iRevL3 ta) :=
  fun Z => PI.imp (pi_revL hg hm (ha Z) hs) fun τ H R ⟨σ, S, R3, hs, hr, ht, hc⟩ => by
  refine ⟨σ, S, _, hs, hr, ht, fun xs S1 vs0 H1 k1 r1 l1 q1 => ?_⟩
  obtain ⟨b, ds, rfl, e, q⟩ := q1
  cases r1 with
  | cons r1 rr =>
    cases rr
    cases r1
    obtain ⟨vs, h1, h2⟩ := l1.obj b _ e
    have hl := h2.len
    refine ⟨b, vs, rfl, SqL.of h1, hc _ _ S1 _ H1 k1 l1 q ⟨fun i d S2 H2 k2 l2 al hd => ?_, fun S2 H2 k2 l2 al => ?_⟩⟩
    · have hi : i < ds.length := by
        have := (List.getElem?_eq_some_iff.mp hd).1
        simpa using this
      rw [List.getElem?_reverse hi] at hd
      obtain ⟨ws, h3, h4⟩ := l2.obj b _ al
      have hl4 := h4.len
      obtain ⟨v, hv, rv⟩ := h4.at hd
      rw [hl] at hv
      refine ⟨⟨by omega, ws, SqL.of h3, by omega⟩, fun v' H' y => ?_⟩
      obtain ⟨rfl, y⟩ := y
      have := y ws (SqL.of h3)
      rw [hv] at this
      cases this
      exact ⟨Kp.refl _ _, rv, fun _ z => z, fun _ _ => rfl⟩
    · show vs.length ≤ ds.reverse.length
      rw [List.length_reverse, hl]
      exact Nat.le_refl _
end
end E3

namespace EE
open PySem PySem.Spec PyProof.Rows L2
/-! ### a list comprehension whose own names are read by one within it: cells of its own -/
theorem cells_app : ∀ (names : List (Str × NameKind)) (n : Nat) (acc : List (Str × Addr)), cellsFrom n names acc = cellsFrom n names [] ++ acc
  | [], _, _ => rfl
  | (y, k) :: r, n, acc => by
    unfold cellsFrom
    split
    · rw [cells_app r (n + 1) ((y, n) :: acc), cells_app r (n + 1) [(y, n)], List.append_assoc]; rfl
    · exact cells_app r n acc
theorem cells_name : ∀ (names : List (Str × NameKind)) (n : Nat) (y : Str) (c : Addr), (y, c) ∈ cellsFrom n names [] → (y, NameKind.cell) ∈ names
  | [], _, _, _, h => by cases h
  | (x, k) :: r, n, y, c, h => by
    unfold cellsFrom at h
    split at h
    · rename_i hk
      rw [cells_app, List.mem_append] at h
      rcases h with h | h
      · exact List.mem_cons_of_mem _ (cells_name r _ y c h)
      · have e : (y, c) = (x, n) := by simpa using h
        cases e
        rw [show k = NameKind.cell by simpa using hk]
        exact List.mem_cons_self
    · exact List.mem_cons_of_mem _ (cells_name r n y c h)
theorem nfe_cells {M : Model} {A : Around} {E : Value → Shared → Prop} {s : Shared} {scope : Scope} {globals : Addr} {cl : List (Str × Addr)} {qual : Str} {func : Option Addr} {code : Value} {env : Env} {Q : Env → Shared → Prop} (_hk : scope.kind = .function)
    (hQ : ∀ h', h'.Ns s.heap.objs.size (fun _ => none) → (∀ b o, s.heap.get? b = some o → h'.get? b = some o) → CellsOk h' (s.heap.objs.size + 1) (cellsFrom (s.heap.objs.size + 1) scope.names []) →
      Q { scope := scope, locals := s.heap.objs.size, globals := globals, cells := cellsFrom (s.heap.objs.size + 1) scope.names cl, qual := qual, func := func, code := env.code, frame := env.frame, builtins := env.builtins } { s with heap := h' }) :
    wpAny M A (newFunctionEnv scope globals cl [] qual func code (some env)) Q E s := by
  simp only [newFunctionEnv, Option.isSome_some, if_true]
  refine wpAny_bind (wpAny_alloc ?_)
  refine wpAny_bind (wpAny_layCells _ (fun name kind cells => by cases hkc : kind == NameKind.cell <;> simp [hkc]) _ _ _ _ ?_)
  have ok := cellsFrom_ok scope.names (s.heap.push { cls := .type "dict", data := .dict #[] }) (s.heap.objs.size + 1) [] ⟨fun _ _ hm => (nomatch hm), List.Pairwise.nil⟩ (by rw [Heap.size_push]; exact Nat.le_refl _)
  rw [Heap.size_push] at ok
  rw [show ({ s with heap := s.heap.push { cls := .type "dict", data := .dict #[] } } : Shared).heap.objs.size = s.heap.objs.size + 1 from Heap.size_push ..]
  refine wpAny_bind (wpAny_pure (wpAny_pure ?_))
  exact hQ _ ((Heap.Ns.new s.heap (.type "dict")).keeps (pushCells_keeps _ _)) (fun b o e => pushCells_keeps _ _ b o (Heap.get?_push_of_some _ e)) ok
/-- its own names O, those of the block around it M -/
structure CompScC (osc : Scope) (O M : List Str) (scope : Scope) : Prop where
  kind : scope.kind = .function
  cell : ∀ y ∈ scope.names, y.2 = .cell → scope.names.lookup y.1 = some .cell
  names : ∀ y ∈ scope.names, y.2 = .local → scope.names.lookup y.1 = some .local
  free : ∀ y ∈ scope.names, y.2 = .free → osc.names.lookup y.1 = some .cell
  nd : (O ++ M).Nodup
  mine : ∀ y ∈ M, scope.names.lookup y = some .free
/-- the context of its block -/
def cxCompC (X : Cx) (scope : Scope) (C : Addr) (N : List Str) (fp : List Addr) (pins : List (Addr × Obj)) (s : Shared) (H : Hp) : Cx :=
  { cxComp X scope C N fp pins s H with env := compEnvC scope (cellsFrom (C + 1) scope.names (clOf scope X.env)) C X.env, fn := fun y => scope.names.lookup y == some .cell }
section
variable {X : Cx} {pins : List (Addr × Obj)} {σ : L2.St} {H : Hp} {s : Shared} {scope : Scope} {O M : List Str} {js : List Nat} {C : Addr} {fp : List Addr}
theorem CompScC.cells (S : CompScC X.env.scope O M scope) (I : Inv X pins σ H s) : ∀ y ∈ scope.names, y.2 = .free → ∃ c, X.env.cells.lookup y.1 = some c := fun y hy hk => I.ok.has y.1 (.inl (S.free y hy hk))
theorem CompScC.sub (S : CompScC X.env.scope O M scope) (I : Inv X pins σ H s) {y : Str} {c : Addr} (e : (clOf scope X.env).lookup y = some c) : X.env.cells.lookup y = some c :=
  cl_sub scope.names [] (S.cells I) (fun _ _ h => by simp at h) y c e
theorem CompScC.get (S : CompScC X.env.scope O M scope) (I : Inv X pins σ H s) {s1 : Shared} (ok : CellsOk s1.heap (C + 1) (cellsFrom (C + 1) scope.names [])) {y : Str} {c : Addr} (e : (cellsFrom (C + 1) scope.names (clOf scope X.env)).lookup y = some c) :
    ((y, c) ∈ cellsFrom (C + 1) scope.names [] ∧ (s1.heap.IsCell c none ∧ C + 1 ≤ c)) ∨ X.env.cells.lookup y = some c := by
  rw [cells_app, List.lookup_append] at e
  cases q : (cellsFrom (C + 1) scope.names []).lookup y with
  | none => rw [q] at e; exact .inr (S.sub I (by simpa using e))
  | some c' =>
    rw [q] at e
    have e' : c' = c := by simpa using e
    subst e'
    exact .inl ⟨PySem.mem_of_lookup q, ok.empty y c' (PySem.mem_of_lookup q)⟩
theorem inv_compC {s1 : Shared} {m : Str → Option Value} (S : CompScC X.env.scope O M scope) (hc : X.calm = true) (I : Inv X pins σ H s) (hjs : ∀ (k : Nat) (y : Str), M[k]? = some y → ∃ j : Nat, js[k]? = some j ∧ X.N[j]? = some y) (hlen : js.length = M.length)
    (hf : ∀ b ∈ fp, FpOk X pins H b) (hfl : ∀ b ∈ fp, b < s.heap.objs.size) (hC : s.heap.objs.size ≤ C) (hn : s1.heap.Ns C m) (hk : ∀ b o, s.heap.get? b = some o → s1.heap.get? b = some o)
    (ok : CellsOk s1.heap (C + 1) (cellsFrom (C + 1) scope.names [])) (hos : s1.os = s.os) (hg : AllBare s1.gens) :
    Inv (cxCompC X scope C (O ++ M) fp pins s H) [] (List.replicate O.length none ++ pick σ js) H s1 := by
  have nst : ∀ b ∈ fp, b ∉ frs X.stack := fun b hb z => by
    obtain ⟨f0, f1, f2, _⟩ := hf b hb
    rcases List.mem_cons.mp (I.stkSub b z) with e | e
    · exact f1 e
    · exact f2 e
  have cellK : ∀ (c : Addr) (v : Option Value), s.heap.IsCell c v → s1.heap.IsCell c v := fun c v ⟨o, e, d⟩ => ⟨o, hk c o e, d⟩
  have old : ∀ {y : Str} {c : Addr}, X.env.cells.lookup y = some c → c < C + 1 := fun {y c} e => by
    obtain ⟨v, o, q, _⟩ := I.cell y c e
    exact Nat.lt_succ_of_lt (Nat.lt_of_lt_of_le (Heap.lt_size q) hC)
  have some_of : ∀ {y : Str}, ((∃ c, (cellsFrom (C + 1) scope.names []).lookup y = some c) ∨ ∃ c, (clOf scope X.env).lookup y = some c) → ∃ c, (cellsFrom (C + 1) scope.names (clOf scope X.env)).lookup y = some c := fun {y} h => by
    rw [cells_app, List.lookup_append]
    cases q : (cellsFrom (C + 1) scope.names []).lookup y with
    | some c => exact ⟨c, by simp⟩
    | none =>
      rcases h with ⟨c, h⟩ | ⟨c, h⟩
      · rw [q] at h; cases h
      · exact ⟨c, by simpa using h⟩
  refine ⟨⟨I.ok.mod, S.kind, I.ok.glob, I.ok.blt, hC, fun y z c h1 h2 => ?_, fun y hy => ?_, fun y c h e => ?_, fun _ => I.ok.hd hc, I.ok.frames, .inl rfl, fun b hb => ?_, I.bs,
    Nat.le_trans I.ok.bsz I.sz, fun b o e hb => ?_, nst, I.stack, I.stkFree⟩, hos, hg, Un.kept hk, ⟨m, hn, fun i y v h1 h2 h3 => ?_⟩, fun y c e => ?_, I.hok.fresh hC, fun y c e => ?_, fun p hp => ?_, I.hok.kept hk, ?_⟩
  · rcases S.get I ok h1 with ⟨m1, g1⟩ | o1 <;> rcases S.get I ok h2 with ⟨m2, g2⟩ | o2
    · exact name_of_addr ok.apart m1 m2
    · exact absurd g1.2 (Nat.not_le.mpr (old o2))
    · exact absurd g2.2 (Nat.not_le.mpr (old o1))
    · exact I.ok.inj y z c o1 o2
  · have hy' : (relabel scope X.env).names.lookup y = some .cell ∨ (relabel scope X.env).names.lookup y = some .free := hy
    have cl : (y, NameKind.cell) ∈ scope.names → ∃ c, (cellsFrom (C + 1) scope.names []).lookup y = some c := fun mm =>
      Option.isSome_iff_exists.mp (PySem.W.cellsFrom_some _ _ _ (.inl (S.cell _ mm rfl)))
    have fr : (y, NameKind.cell) ∈ scope.names ∨ (y, NameKind.free) ∈ scope.names := by
      rcases hy' with h | h
      · obtain ⟨k', mm, e | e⟩ := relabel_mem h
        · rw [← e] at mm; exact .inl mm
        · rw [e.1] at mm; exact .inr mm
      · obtain ⟨k', mm, e | e⟩ := relabel_mem h
        · rw [← e] at mm; exact .inr mm
        · exact absurd e.2 (by intro z; cases z)
    rcases fr with fr | fr
    · exact some_of (.inl (cl fr))
    · exact some_of (.inr (cl_has scope.names [] y (.inl fr)))
  · have h' : scope.names.lookup y = some .cell := by simpa [cxCompC] using h
    obtain ⟨c', q⟩ := Option.isSome_iff_exists.mp (PySem.W.cellsFrom_some scope.names (C + 1) [] (.inl h'))
    have e' : (cellsFrom (C + 1) scope.names (clOf scope X.env)).lookup y = some c := e
    rw [cells_app, List.lookup_append, q] at e'
    have e2 : c' = c := by simpa using e'
    subst e2
    exact Nat.le_trans hC (Nat.le_of_lt (ok.empty y c' (PySem.mem_of_lookup q)).2)
  · obtain ⟨f0, f1, f2, f3, f4, f5⟩ := hf b hb
    refine ⟨Nat.ne_of_lt (Nat.lt_of_lt_of_le (hfl b hb) hC), fun y c e => ?_⟩
    rcases S.get I ok e with ⟨_, h⟩ | h
    · exact fun z => Nat.lt_irrefl _ (Nat.lt_of_lt_of_le (Nat.lt_of_lt_of_le (hfl b hb) hC) (z ▸ Nat.le_of_lt h.2))
    · exact f4 y c h
  · obtain ⟨f0, f1, f2, f3, f4, f5⟩ := hf b hb
    rcases f3 with f3 | f3
    · exact I.ok.noex b o e f3
    · exact absurd (Heap.lt_size e) (Nat.not_lt.mpr (Nat.le_trans I.ok.bsz f3))
  · have h1c : (O ++ M)[i]? = some y := h1
    by_cases hi : i < O.length
    · rw [List.getElem?_append_left (by simpa using hi), List.getElem?_replicate, if_pos hi] at h2
      have h2' : (none : Option V) = some v := Option.some.inj h2
      cases h2'
    · have hge : O.length ≤ i := Nat.le_of_not_lt hi
      rw [List.getElem?_append_right hge] at h1c
      rw [List.getElem?_append_right (by simpa using hge), List.length_replicate] at h2
      obtain ⟨j, ej, eN⟩ := hjs _ y h1c
      have eσ : σ[j]? = some (some v) := by
        unfold pick at h2
        rw [List.getElem?_map, ej] at h2
        have z : (σ[j]?).getD none = some v := by simpa using h2
        cases q : σ[j]? with
        | none => rw [q] at z; cases z
        | some o => rw [q] at z; rw [show o = some v from z]
      have hfree := S.mine y (List.mem_of_getElem? h1c)
      have hcell : X.env.kindOf y = some .cell := S.free (y, .free) (PySem.mem_of_lookup hfree) rfl
      obtain ⟨m0, _, hl0⟩ := I.loc
      obtain ⟨u, r, l⟩ := hl0 j y v eN eσ (.inr (.inl hcell))
      refine ⟨u, r, .inr ⟨.inl (relabel_free I.ok.kind hcell hfree), ?_⟩⟩
      obtain ⟨c', e'⟩ := cl_has (env := X.env) scope.names [] y (.inl (PySem.mem_of_lookup hfree))
      have e2 := S.sub I (show (clOf scope X.env).lookup y = some c' from e')
      have e3 : (cellsFrom (C + 1) scope.names (clOf scope X.env)).lookup y = some c' := by
        rw [cells_app, List.lookup_append]
        cases q : (cellsFrom (C + 1) scope.names []).lookup y with
        | none => exact e'
        | some c2 =>
          have := S.cell _ (cells_name _ _ _ _ (PySem.mem_of_lookup q)) rfl
          rw [hfree] at this
          cases this
      rcases l with ⟨z, _⟩ | ⟨_, c, hcc, hic⟩
      · rw [hcell] at z; cases z
      · rw [hcc] at e2
        have : c = c' := Option.some.inj e2
        subst this
        exact ⟨c, e3, cellK c _ hic⟩
  · rcases S.get I ok e with ⟨_, h⟩ | h
    · exact ⟨none, h.1⟩
    · obtain ⟨v, h⟩ := I.cell y c h
      exact ⟨v, cellK c v h⟩
  · rcases S.get I ok e with ⟨_, h⟩ | h
    · exact I.hok.fresh (Nat.le_trans hC (Nat.le_of_lt h.2))
    · exact I.freeC y c h
  · have hp' : p ∈ X.pn ++ pins := by simpa [cxCompC, cxComp] using hp
    obtain ⟨e, n, ne, nf, d⟩ := I.pin p hp'
    refine ⟨hk _ _ e, n, Nat.ne_of_lt (Nat.lt_of_lt_of_le (Heap.lt_size e) hC), fun z => ?_, d⟩
    rcases List.mem_cons.mp (I.stkSub p.1 z) with q | q
    · exact ne q
    · exact nf q
  · show (List.replicate O.length none ++ pick σ js).length = (O ++ M).length
    simp [pick, hlen]
theorem comp_endC {N : List Str} {pins' : List (Addr × Obj)} {σ' : L2.St} {H' : Hp} {s' : Shared} {h' : Heap} (I : Inv X pins σ H s) (hf : ∀ b ∈ fp, FpOk X pins H b) (J : Inv (cxCompC X scope C N fp pins s H) pins' σ' H' s')
    (hC : s.heap.objs.size ≤ C) (hs : Heap.SameBut C s'.heap h') : Inv X pins σ H' { s' with heap := h' } := by
  have u0 : Un (frs X.stack) fp H H' s.heap s'.heap := J.base
  have nC : ∀ b o, s.heap.get? b = some o → b ≠ C := fun b o e z => absurd (Heap.lt_size e) (by rw [z]; exact Nat.not_lt.mpr hC)
  have u : Un (frs X.stack) fp H H' s.heap h' := ⟨fun b o e n hb hx => (hs.2 b (nC b o e)).trans (u0.keep b o e n hb hx), fun b o e n hb hx => let ⟨sl, q⟩ := u0.slot b o e n hb hx; ⟨sl, (hs.2 b (nC b o e)).trans q⟩, u0.free,
    fun b o e hx => let ⟨o', q⟩ := u0.there b o e hx; ⟨o', (hs.2 b (nC b o e)).trans q⟩, u0.tups, u0.frzs, u0.tbls⟩
  have fC : H' C = none := J.free
  have hok : HOk X.prog X.w H' h' := fun b ob e => (J.hok b ob e).stay (fun c w hc q => (hs.2 c (fun z => by
    subst z
    rcases hc with z | z
    · rw [← z, fC] at e; cases e
    · rw [fC] at z; cases z)).trans q) (fun _ q => q) fun _ _ q => q
  exact I.call' (s' := { s' with heap := h' }) (ch := fp) J.os u hok J.bare fun b hb => by
    obtain ⟨f0, f1, f2, f3, f4, f5⟩ := hf b hb
    exact ⟨f3, f1, f4, f5⟩
end
section
variable {X : Cx} {elt iter tg : Expr} {ifs : List Expr} {pos : Pos} {scope : Scope} {O M : List Str} {js : List Nat} {wi : TI} {g : TG} {tt : TT} {te : TE}
theorem comp_blockC {pins : List (Addr × Obj)} {σ : L2.St} {H2 : Hp} {s2 : Shared} {it D : Addr} {fp : List Addr} {tn : Nat → Heap → Prop} {J : It} {W : Nat → Nat → L2.St → Hp → Prop} {Qe : Hp → Prop} {R : Addr → Result → Shared → Prop} {E : Value → Shared → Prop} {m0 : Nat}
    (S : CompScC X.env.scope O M scope) (hc : X.calm = true) (hjs : ∀ (k : Nat) (y : Str), M[k]? = some y → ∃ j : Nat, js[k]? = some j ∧ X.N[j]? = some y) (hlen : js.length = M.length)
    (hg : ∀ (C : Addr) (fp : List Addr) (pins : List (Addr × Obj)) (s : Shared) (H : Hp), PG (cxCompC X scope C (O ++ M) fp pins s H) tg g)
    (ht : ∀ (C : Addr) (fp : List Addr) (pins : List (Addr × Obj)) (s : Shared) (H : Hp), PTs (cxCompC X scope C (O ++ M) fp pins s H) ifs tt)
    (he : ∀ (C : Addr) (fp : List Addr) (pins : List (Addr × Obj)) (s : Shared) (H : Hp), PE (cxCompC X scope C (O ++ M) fp pins s H) elt te)
    (I : Inv X pins σ H2 s2) (T : Turn X.prog X.w X.K tg J fp it tn) (st : tn 0 s2.heap) (hf : ∀ b ∈ fp, FpOk X pins H2 b) (w0 : W 0 m0 (List.replicate O.length none ++ pick σ js) H2)
    (turn : ∀ i m τ H3, W i m τ H3 → (J.stop i H3 ∧ Qe H3) ∨ (J.go i H3 ∧ ∃ N : L2.St → Hp → Prop, (∀ τ' H', N τ' H' → ∃ m', m' < m ∧ W (i + 1) m' τ' H') ∧ ∀ v H', J.yld i H3 v H' →
      g v τ H' fun τ' H4 => tt τ' H4 fun b H5 => if b = true then te τ' H5 fun y H6 => ∃ ys, H6 D = some (.lst ys) ∧ ys.length < sizeLine ∧ N τ' (upd H6 D (.lst (ys ++ [y]))) else N τ' H5))
    (fin : ∀ (C : Addr) (s' : Shared) (H' : Hp) (pins' : List (Addr × Obj)) (σ' : L2.St), s2.heap.objs.size ≤ C → Inv (cxCompC X scope C (O ++ M) fp pins s2 H2) pins' σ' H' s' → Qe H' → R C (.ok .next) s') :
    wpAny (model X.prog X.w) X.A (newFunctionEnv scope X.env.globals (clOf scope X.env) [] X.env.qual none .none (some X.env)) (fun cenv s4 =>
      codeAny (model X.prog X.w) X.A (.compStart (.ListComp elt [⟨tg, iter, ifs, 0⟩] scope pos) 0 (.ref it) (.ref D) { cenv with scope := relabel scope X.env }) (R cenv.locals) s4) E s2 := by
  refine nfe_cells S.kind fun h1 hns old ok => ?_
  have hfl : ∀ b ∈ fp, b < s2.heap.objs.size := fun b hb => by
    obtain ⟨o, e, _⟩ := T.obj 0 _ st b hb
    exact Heap.lt_size e
  have I4 : Inv (cxCompC X scope s2.heap.objs.size (O ++ M) fp pins s2 H2) [] (List.replicate O.length none ++ pick σ js) H2 { s2 with heap := h1 } :=
    inv_compC S hc I hjs hlen hf hfl (Nat.le_refl _) hns old ok rfl I.bare
  have st4 : tn 0 h1 := T.keep _ _ _ st fun b hb o e => old b o e
  have stat : ∀ {H' : Hp}, (∀ b ∈ fp, H' b = none) → ∀ b ∈ fp, FpOk (cxCompC X scope s2.heap.objs.size (O ++ M) fp pins s2 H2) [] H' b := fun {H'} hn b hb => by
    obtain ⟨f0, f1, f2, f3, f4, f5⟩ := hf b hb
    refine ⟨hn b hb, Nat.ne_of_lt (hfl b hb), I4.ok.exfs b hb, .inl hb, fun y c e => ?_, fun p hp => f5 p ?_⟩
    · rcases S.get (s1 := { s2 with heap := h1 }) I ok e with ⟨_, h⟩ | h
      · exact fun z => Nat.lt_irrefl _ (Nat.lt_of_lt_of_le (hfl b hb) (z ▸ Nat.le_of_lt h.2))
      · exact f4 y c h
    · simpa [cxCompC, cxComp] using hp
  have loop : ∀ s3 : Shared, s3 = { s2 with heap := h1 } →
      codeAny (model X.prog X.w) X.A (.compLoop (.ListComp elt [⟨tg, iter, ifs, 0⟩] scope pos) 0 (.ref it) (.ref D) (compEnvC scope (cellsFrom (s2.heap.objs.size + 1) scope.names (clOf scope X.env)) s2.heap.objs.size X.env)) (R s2.heap.objs.size) s3 := by
    rintro s3 rfl
    refine compLoop_if (fun n s' => ∃ (i : Nat) (τ : L2.St) (H' : Hp), Inv (cxCompC X scope s2.heap.objs.size (O ++ M) fp pins s2 H2) [] τ H' s' ∧ tn i s'.heap ∧ (∀ b ∈ fp, H' b = none) ∧ W i n τ H') ?_ m0
      ⟨0, _, H2, I4, st4, fun b hb => (hf b hb).1, w0⟩
    rintro n s5 ⟨i, τ, H5, I5, st5, fr5, w5⟩
    rcases turn i n τ H5 w5 with ⟨stop, qe⟩ | ⟨go, N, hN, step⟩
    · refine thn (T.done (cxCompC X scope s2.heap.objs.size (O ++ M) fp pins s2 H2) rfl rfl rfl rfl i [] s5 _ H5 (fun _ _ => False) I5 (stat fr5) st5 stop) fun r s6 ⟨hr, I6⟩ => ?_
      subst hr
      exact fin _ s6 H5 [] _ (Nat.le_refl _) I6 qe
    · refine thn (T.item (cxCompC X scope s2.heap.objs.size (O ++ M) fp pins s2 H2) rfl rfl rfl rfl i [] s5 _ H5 (fun _ _ => False) I5 (stat fr5) st5 go) fun r s6 ⟨u, hr, h6⟩ => ?_
      subst hr
      refine thn h6 fun _ s7 ⟨v, H7, I7, r7, y7, st7, fr7⟩ => ?_
      have I7' := I7.pinned (stat fr7) (T.obj _ _ st7)
      have back : ∀ {σ9 : L2.St} {H9 : Hp} {s9 : Shared}, Inv (cxCompC X scope s2.heap.objs.size (O ++ M) fp pins s2 H2) ([] ++ pinsAt fp s7.heap) σ9 H9 s9 → N σ9 H9 →
          ∃ m, m < n ∧ ∃ (i : Nat) (τ : L2.St) (H' : Hp), Inv (cxCompC X scope s2.heap.objs.size (O ++ M) fp pins s2 H2) [] τ H' s9 ∧ tn i s9.heap ∧ (∀ b ∈ fp, H' b = none) ∧ W i m τ H' := by
        intro σ9 H9 s9 I9 n9
        obtain ⟨m', hm, w10⟩ := hN σ9 H9 n9
        refine ⟨m', hm, i + 1, σ9, H9, I9.unpinned, T.keep _ _ _ st7 fun b hb o e => (I9.pin (b, o) (List.mem_append_right _ (List.mem_append_right _ (mem_pinsAt hb e)))).1, fun b hb => ?_, w10⟩
        obtain ⟨o, e, d⟩ := T.obj _ _ st7 b hb
        exact (I9.pin (b, o) (List.mem_append_right _ (List.mem_append_right _ (mem_pinsAt hb e)))).2.1
      refine thn (hg s2.heap.objs.size fp pins s2 H2 _ s7 _ H7 v u _ I7' r7 (step v H7 y7)) fun _ s8 ⟨σ8, H8, I8, q8⟩ => ?_
      refine thn (ht s2.heap.objs.size fp pins s2 H2 _ s8 _ H8 _ I8 q8) fun ok s9 ⟨H9, I9, q9⟩ => ?_
      cases ok with
      | false => exact back I9 q9
      | true =>
        refine thn (he s2.heap.objs.size fp pins s2 H2 _ s9 _ H9 _ I9 q9) fun yv s10 ⟨y, H10, I10, r10, ys, hD, hz, n10⟩ => ?_
        refine thn (mt_append (X := cxCompC X scope s2.heap.objs.size (O ++ M) fp pins s2 H2) _ s10 _ H10 (.ref D) [y] (.ref D) [yv] (fun _ H' => N σ8 H') I10 rfl (.cons r10 .nil) ⟨D, ys, y, rfl, rfl, hD, hz, n10⟩) fun _ s11 ⟨_, H11, I11, _, n11⟩ => ?_
        exact back I11 n11
  exact codeAny_compStart_list (loop _ rfl) (wpAny_mono (T.self X.A 0 _ _ _ st4 (loop _ rfl)) (fun _ _ z => z) fun _ _ z => z)
theorem pe_compC (S : CompScC X.env.scope O M scope) (hc : X.calm = true) (hjs : ∀ (k : Nat) (y : Str), M[k]? = some y → ∃ j : Nat, js[k]? = some j ∧ X.N[j]? = some y) (hlen : js.length = M.length) (hi : PI X tg iter wi)
    (hg : ∀ (C : Addr) (fp : List Addr) (pins : List (Addr × Obj)) (s : Shared) (H : Hp), PG (cxCompC X scope C (O ++ M) fp pins s H) tg g)
    (ht : ∀ (C : Addr) (fp : List Addr) (pins : List (Addr × Obj)) (s : Shared) (H : Hp), PTs (cxCompC X scope C (O ++ M) fp pins s H) ifs tt)
    (he : ∀ (C : Addr) (fp : List Addr) (pins : List (Addr × Obj)) (s : Shared) (H : Hp), PE (cxCompC X scope C (O ++ M) fp pins s H) elt te) (hs : ∀ v, foldedSetIterable iter X.env v = pure v := by intro _; rfl) :
    PE X (.ListComp elt [⟨tg, iter, ifs, 0⟩] scope pos) (tCompG wi g tt te O.length js) := by
  intro pins s σ H Q I h
  rw [eval_ListComp]
  refine wpAny_comprehension_free (use := none) rfl hs (clos_ok (S.cells I)) S.kind S.names (thn (hi pins s σ H _ I h) fun xv s1 h1 => thn h1 fun itv s2 h2 => ?_)
  obtain ⟨it, fp, tn, J, H1, rfl, I2, T, st2, f2, q⟩ := h2
  refine wpAny_newObj_type ?_ (by show 0 ≤ sizeLine; decide)
  have hD : H1 s2.heap.objs.size = none := I2.hok.fresh (Nat.le_refl _)
  obtain ⟨W, ⟨m0, w0⟩, turn⟩ := q _ hD
  have I3 : Inv X pins σ (upd H1 s2.heap.objs.size (.lst [])) { s2 with heap := s2.heap.push { cls := .type "list", data := .seq ([] : List Value).toArray } } := I2.lnew (t' := s2.toks) .nil (Nat.zero_le _)
  have fr3 : ∀ b ∈ fp, FpOk X pins (upd H1 s2.heap.objs.size (.lst [])) b := fun b hb => by
    obtain ⟨f0, f⟩ := f2 b hb
    obtain ⟨o, e, _⟩ := T.obj 0 _ st2 b hb
    exact ⟨by rw [upd_ne (Nat.ne_of_lt (Heap.lt_size e))]; exact f0, f⟩
  refine comp_blockC (Qe := fun H' => Q (.ref s2.heap.objs.size) H') (R := fun C => compPost (model X.prog X.w) X.A X.xe none (EP X pins σ Q) (.ref s2.heap.objs.size) C) S hc hjs hlen hg ht he I3 T (T.keep _ _ _ st2 fun b hb o e => Heap.get?_push_of_some _ e) fr3 w0 turn ?_
  intro C s' H' pins' σ' hC Jv qe
  obtain ⟨m, hn, _⟩ := Jv.loc
  exact ⟨m, hn, fun h' hs' => ⟨.ref _, H', comp_endC I3 fr3 Jv hC hs', rfl, qe⟩⟩
end
end EE
namespace E3
open PySem PySem.Spec PyProof.Rows L2 EE
section
variable {X : Cx} {W3 : W3T} {elt iter tg : Expr} {ifs : List Expr} {x x' : Str} {px px' pos tp : Pos} {kt : Nat} {scope osc : Scope} {O M N : List Str} {js : List Nat} {wi : TI3} {g : TG3} {Sh : D → St3 → Prop} {tt : TT3} {te : TE3}
theorem relabel_cell {scope : Scope} {env : Env} {y : Str} (h : scope.names.lookup y = some .cell) : (relabel scope env).names.lookup y = some .cell := by
  have go : ∀ (l : List (Str × NameKind)), l.lookup y = some .cell → (l.map fun (n, k) => if (k == .free && env.scope.kind == .function && env.kindOf n == some .cell) then (n, NameKind.cell) else (n, k)).lookup y = some .cell := by
    intro l
    induction l with
    | nil => intro h; simp at h
    | cons a r ih =>
      obtain ⟨n, k0⟩ := a
      intro h
      rw [List.map_cons]
      by_cases hy : y = n
      · subst hy
        simp only [List.lookup_cons, beq_self_eq_true, Option.some.injEq] at h
        subst h
        simp
      · have hb : (y == n) = false := by simpa using hy
        simp only [List.lookup_cons, hb] at h
        by_cases hcc : (k0 == NameKind.free && env.scope.kind == .function && env.kindOf n == some .cell) = true
        · simp only [hcc, if_true, List.lookup_cons, hb]
          exact ih h
        · dsimp only
          rw [if_neg hcc]
          simp only [List.lookup_cons, hb]
          exact ih h
  exact go scope.names h
/-- one name, read by a comprehension within -/
theorem e_compC (S : CompScC osc [x] M scope) (hx : scope.names.lookup x = some .cell) (hjs : M.map some = js.map fun j => N[j]?) (hc : X.calm = true) (hi : PI3 X W3 (.Name x px) iter wi)
    (ht : ∀ (C : Addr) (fp : List Addr) (pins : List (Addr × Obj)) (s : Shared) (H : Hp), PTs3 (cxCompC X scope C ([x] ++ M) fp pins s H) ifs tt)
    (he : ∀ (C : Addr) (fp : List Addr) (pins : List (Addr × Obj)) (s : Shared) (H : Hp), PE3 (cxCompC X scope C ([x] ++ M) fp pins s H) NoX elt te)
    (hosc : X.env.scope = osc := by rfl) (hN : X.N = N := by rfl) (hs : ∀ v, foldedSetIterable iter X.env v = pure v := by intro _; rfl) :
    PE3 X W3 (.ListComp elt [⟨.Name x px, iter, ifs, 0⟩] scope pos) (compS3 wi Sh1 tt te js) := fun Z => by
  subst hosc hN
  have hg : ∀ (C : Addr) (fp : List Addr) (pins : List (Addr × Obj)) (s : Shared) (H : Hp), PG3 (cxCompC X scope C ([x] ++ M) fp pins s H) NoX (.Name x px) (name3 0) := fun C fp pins s H =>
    g_name (i := 0) S.nd rfl (.inr (relabel_cell hx)) (.inl (by show (scope.names.lookup x == some .cell) = true; rw [hx]; rfl))
  exact PE.imp (pe_compC S hc (js_of hjs).1 (js_of hjs).2 (hi Z) (fun C fp pins s H => (hg C fp pins s H).ex) (fun C fp pins s H => (ht C fp pins s H).ex) (fun C fp pins s H => (he C fp pins s H).ex) hs) fun _ _ _ h => comp_downG sh1 h
/-- the scope of a comprehension's block, by that of the block around it -/
def relabS (scope osc : Scope) : Scope := { scope with names := scope.names.map fun (n, k) => if (k == .free && osc.kind == .function && osc.names.lookup n == some .cell) then (n, .cell) else (n, k) }
/-- a comprehension within one that has cells of its own -/
theorem e_compN {X : Cx} {sc0 osc0 : Scope} {C0 : Addr} {N0 : List Str} {fp0 : List Addr} {pins0 : List (Addr × Obj)} {s0 : Shared} {H0 : Hp} (S : CompScG (relabS sc0 osc0) [x] M scope) (hjs : M.map some = js.map fun j => N0[j]?) (hi : PI3 (cxCompC X sc0 C0 N0 fp0 pins0 s0 H0) W3 (.Name x px) iter wi)
    (ht : ∀ (C : Addr) (fp : List Addr) (pins : List (Addr × Obj)) (s : Shared) (H : Hp), PTs3 (cxComp (cxCompC X sc0 C0 N0 fp0 pins0 s0 H0) scope C ([x] ++ M) fp pins s H) ifs tt)
    (he : ∀ (C : Addr) (fp : List Addr) (pins : List (Addr × Obj)) (s : Shared) (H : Hp), PE3 (cxComp (cxCompC X sc0 C0 N0 fp0 pins0 s0 H0) scope C ([x] ++ M) fp pins s H) NoX elt te)
    (hosc : X.env.scope = osc0 := by rfl) (hs : ∀ v, foldedSetIterable iter (cxCompC X sc0 C0 N0 fp0 pins0 s0 H0).env v = pure v := by intro _; rfl) :
    PE3 (cxCompC X sc0 C0 N0 fp0 pins0 s0 H0) W3 (.ListComp elt [⟨.Name x px, iter, ifs, 0⟩] scope pos) (compS3 wi Sh1 tt te js) := by
  subst hosc
  exact e_comp1 (osc := relabS sc0 X.env.scope) (N := N0) S hjs rfl hi ht he rfl rfl hs
end
section
variable {σ : St3} {Q : K3} {js : List Nat} {te : TE3} {Sh : D → St3 → Prop}
/-- as comp_sel, all items chosen, where an element leaves something behind -/
theorem comp_mapC {ds : List D} {Al : Hp3 → Prop} {S1 : Hp3} (f : Nat → D) (hz : ds.length ≤ 10000) (hA : ∀ S, Sub S1 S → Al S)
    (h : ∀ i d S, ds[i]? = some d → Sub S1 S → ∃ ρ, Sh d ρ ∧ ∀ P : K3, (∀ S', Sub S S' → P (f i) S') → te (ρ ++ pick3 σ js) S P) (q : ∀ S, Sub S1 S → newL S ((List.range ds.length).map f) Q) :
    ∃ W : Nat → List D → Hp3 → Prop, W 0 [] S1 ∧ (∀ i ys S, W i ys S → Al S ∧ ys.length < sizeLine) ∧
  (∀ i d ys S, ds[i]? = some d → W i ys S → ∃ ρ, Sh d ρ ∧ yes3 (ρ ++ pick3 σ js) S fun b S2 => if b = true then te (ρ ++ pick3 σ js) S2 fun y S3 => W (i + 1) (ys ++ [y]) S3 else W (i + 1) ys S2) ∧ ∀ ys S, W ds.length ys S → newL S ys Q := by
  refine ⟨fun i ys S => i ≤ ds.length ∧ ys = (List.range i).map f ∧ Sub S1 S, ⟨Nat.zero_le _, rfl, Sub.refl _⟩, ?_, ?_, ?_⟩
  · rintro i ys S ⟨hi, rfl, hs⟩
    refine ⟨hA S hs, ?_⟩
    rw [List.length_map, List.length_range]
    exact Nat.lt_of_le_of_lt (Nat.le_trans hi hz) (by decide)
  · rintro i d ys S hd ⟨hi, rfl, hs⟩
    obtain ⟨ρ, hρ, h⟩ := h i d S hd hs
    refine ⟨ρ, hρ, j_yes ?_⟩
    rw [if_pos rfl]
    refine h _ fun S' hs' => ⟨(List.getElem?_eq_some_iff.mp hd).1, ?_, hs.trans hs'⟩
    rw [List.range_succ, List.map_append]
    rfl
  · rintro ys S ⟨_, rfl, hs⟩
    exact q S hs
end
end E3

namespace EE
open PySem PySem.Spec PyProof.Rows L2
section
variable {X : Cx}
/-- t + u, t empty or not -/
def rCatE (K : PySem.W.Frag) : R2 := fun x y H Q => ∃ a b xs ys, x = .ref a ∧ y = .ref b ∧ SqT K H a xs ∧ SqT K H b ys ∧ xs.length + ys.length ≤ sizeLine ∧
  (xs = [] → Q (.ref b) H) ∧ (xs ≠ [] → (ys = [] → Q (.ref a) H) ∧ (ys ≠ [] → ∀ p, H p = none → Q (.ref p) (upd H p (.tup (xs ++ ys)))))
theorem op_catE : OpR X (binaryOp .Add) (rCatE X.K) := by
  intro pins s σ H x y v u Q I rx ry h
  obtain ⟨a, b, xs, ys, rfl, rfl, ha, hb, hz, q0, q1⟩ := h
  by_cases hx : xs = []
  · cases rx
    cases ry
    obtain ⟨its, r1, p1, _⟩ := I.tuple ha
    obtain ⟨its2, r2, p2, _⟩ := I.tuple hb
    have hi : its = [] := r1.nil_iff.mpr hx
    obtain ⟨⟨cls, dd, data, sl⟩, ho, hc, n, hd⟩ := id p1
    obtain ⟨⟨cls2, dd2, data2, sl2⟩, ho2, hc2, n2, hd2⟩ := id p2
    simp only at hc hd hc2 hd2
    subst hc hd hc2 hd2
    exact concat_meets ⟨_, ho, rfl⟩ ⟨_, ho2, rfl⟩ noFill_tuple_add seq_tuple_add PySem.F.slot_tuple_add PySem.F.entry_tuple_add (PySem.F.args_tuple_add_2 _ _)
      (tuple_addW0 a b its.toArray its2.toArray n n2 dd dd2 sl sl2 (by simp [hi])) ⟨ho, ho2, ⟨.ref b, H, I, rfl, q0 hx⟩⟩
  · exact op_catT pins s σ H (.ref a) (.ref b) v u Q I rx ry ⟨a, b, xs, ys, rfl, rfl, ha, hb, hx, hz, (q1 hx).1, (q1 hx).2⟩
/-- int(b), b True or False -/
theorem call_intB : CallR X (.type "int") (fun xs H Q => ∃ b : Bool, xs = [.bl b] ∧ Q (.int (if b then 1 else 0)) H) := by
  intro pins s σ H xs us Q I r h
  obtain ⟨b, rfl, q⟩ := h
  obtain ⟨u, rfl, r1⟩ := vals1 r
  obtain rfl : u = Value.bool b := r1
  exact call_int_bool ⟨.int (if b then 1 else 0), H, I.tok _, ⟨_, rfl⟩, q⟩
end
end EE
namespace E3
open PySem PySem.Spec PyProof.Rows L2 EE
section
variable {K : PySem.W.Frag} {S : Hp3} {Q : K3}
def catE3 : R3 := fun x y S Q => ∃ ds es, x = .tup ds ∧ y = .tup es ∧ ds.length + es.length ≤ sizeLine ∧ Q (.tup (ds ++ es)) S
theorem dn_catE : Dn2 K catE3 (rCatE K) := by
  intro Z x y S Q3 v w H Q rx ry l h c
  obtain ⟨ds, es, rfl, rfl, hz, q⟩ := h
  cases rx with
  | @tup a vs _ h1 h2 =>
    cases ry with
    | @tup b ws _ h3 h4 =>
      refine ⟨a, b, vs, ws, rfl, rfl, h1, h3, by rw [← h2.len, ← h4.len]; exact hz, fun e => ?_, fun _ => ⟨fun e => ?_, fun _ => tup.down q (h2.append h4) l c⟩⟩
      · subst e
        cases h2
        rw [List.nil_append] at q
        exact c _ S _ H (Kp.refl _ _) (.tup h3 h4) l q
      · subst e
        cases h4
        rw [List.append_nil] at q
        exact c _ S _ H (Kp.refl _ _) (.tup h1 h2) l q
theorem j_catE {ds es : List D} (hz : ds.length + es.length ≤ sizeLine) (q : Q (.tup (ds ++ es)) S) : catE3 (.tup ds) (.tup es) S Q := ⟨ds, es, rfl, rfl, hz, q⟩
def intB3 : List D → Hp3 → K3 → Prop := fun xs S Q => ∃ b : Bool, xs = [.bl b] ∧ Q (.int (if b then 1 else 0)) S
theorem dn_intOfB : DnC K intB3 (fun xs H Q => ∃ b : Bool, xs = [.bl b] ∧ Q (.int (if b then 1 else 0)) H) := by
  intro Z ds S Q3 vs H Q r l h c
  obtain ⟨b, rfl, q⟩ := h
  cases r with
  | cons r rr =>
    cases rr
    cases r
    exact ⟨b, rfl, c _ S _ H (Kp.refl _ _) (.int _) l q⟩
theorem j_intB {b : Bool} (q : Q (.int (if b then 1 else 0)) S) : intB3 [.bl b] S Q := ⟨b, rfl, q⟩
theorem j_inL {a : Addr} {xs : List Str} {z : Str} (hS : S a = some (.lst (xs.map D.str))) (q : Q (.bl (decide (z ∈ xs))) S) : in3 false (.str z) (.ref a) S Q :=
  ⟨_, .inl (.inl ⟨a, rfl, hS⟩), rfl, flat_strs xs, by rw [memD_strs, if_neg Bool.false_ne_true]; exact q⟩
theorem j_notinTS {xs : List Str} {z : Str} (q : Q (.bl (!decide (z ∈ xs))) S) : in3 true (.str z) (.tup (xs.map D.str)) S Q :=
  ⟨_, .inr rfl, rfl, flat_strs xs, by rw [memD_strs, if_pos rfl]; exact q⟩
theorem cutD_last {xs : List D} : cutD xs none (some (-1)) = xs.dropLast := by
  unfold cutD HT.sIx
  simp only [List.drop_zero, Nat.sub_zero]
  rw [if_pos (by decide), List.dropLast_eq_take]
  congr 1
  omega
end
section
variable {σ : St3} {S : Hp3} {R : RI} {al : TA3}
def revLA (R : RI) (xs : List D) (S : Hp3) : Prop := ∃ a ds, xs = [.ref a] ∧ S a = some (.lst ds) ∧ R ds.reverse (fun S => S a = some (.lst ds)) S
theorem j_iRevL (h : al σ S fun xs S1 => revLA R xs S1) : iRevL3 al σ S R := h
theorem j_revL {a : Addr} {ds : List D} (hS : S a = some (.lst ds)) (q : R ds.reverse (fun S => S a = some (.lst ds)) S) : revLA R [.ref a] S := ⟨a, ds, rfl, hS, q⟩
end
end E3

namespace E3
open PySem PySem.Spec PyProof.Rows L2 EE
/-! ### sends, each with what is known where it stands -/
def Sy.base : Sy → Option Str
  | .name x => some x
  | .left a => a.base
  | .right a => a.base
  | _ => none
def optD : Option Str → D
  | some x => .str x
  | none => .non
/-- what is known of a path that forks -/
def Sy.bases (a : Sy) : List Str := a.base.toList
def Sy.pp (ext : Sy → List Str) : Sy → List Str → List (Sy × List Str)
  | .fork a b c, k => [(a, k), (b, k ++ ext a), (c, k)]
  | s, k => s.parts.map fun a => (a, k)
mutual
def Sy.plc (ext : Sy → List Str) : Sy → List Str → List (Sy × List Str)
  | .name x, k => [(.name x, k)]
  | .bud, k => [(.bud, k)]
  | .pair a b, k => (.pair a b, k) :: (a.plc ext k ++ b.plc ext k)
  | .left a, k => (.left a, k) :: a.plc ext k
  | .right a, k => (.right a, k) :: a.plc ext k
  | .fork a b c, k => (.fork a b c, k) :: (a.plc ext k ++ (b.plc ext (k ++ ext a) ++ c.plc ext k))
  | .send x as, k => (.send x as, k) :: Sy.plcs ext as k
def Sy.plcs (ext : Sy → List Str) : List Sy → List Str → List (Sy × List Str)
  | [], _ => []
  | a :: as, k => a.plc ext k ++ Sy.plcs ext as k
end
def plcL (ext : Sy → List Str) (ps : List (Sy × List Str)) : List (Sy × List Str) := (ps.map fun p => p.1.plc ext p.2).flatten
theorem plcs_eq (ext : Sy → List Str) (k : List Str) : ∀ as : List Sy, Sy.plcs ext as k = plcL ext (as.map fun a => (a, k))
  | [] => rfl
  | a :: as => by rw [Sy.plcs, plcs_eq ext k as]; rfl
theorem plc_pp (ext : Sy → List Str) (s : Sy) (k : List Str) : s.plc ext k = (s, k) :: plcL ext (s.pp ext k) := by
  cases s <;> simp [Sy.plc, Sy.pp, Sy.parts, plcL]
  rw [plcs_eq]
  simp [plcL, Function.comp_def]
theorem plcL_append (ext : Sy → List Str) (as bs : List (Sy × List Str)) : plcL ext (as ++ bs) = plcL ext as ++ plcL ext bs := by simp [plcL]
theorem plcL_cons (ext : Sy → List Str) (a : Sy × List Str) (bs : List (Sy × List Str)) : plcL ext (a :: bs) = a.1.plc ext a.2 ++ plcL ext bs := by simp [plcL]
theorem plcL_len (ext : Sy → List Str) : ∀ as : List (Sy × List Str), as.length ≤ (plcL ext as).length
  | [] => by simp
  | a :: as => by
    have := plcL_len ext as
    rw [plcL_cons, plc_pp]
    simp
    omega
theorem pp_fst (ext : Sy → List Str) (s : Sy) (k : List Str) : (s.pp ext k).map (·.1) = s.parts := by cases s <;> simp [Sy.pp, Sy.parts, Function.comp_def]
mutual
theorem Sy.plc_fst (ext : Sy → List Str) : ∀ (s : Sy) (k : List Str), (s.plc ext k).map (·.1) = s.pre
  | .name _, _ => rfl
  | .bud, _ => rfl
  | .pair a b, k => by simp [Sy.plc, Sy.pre, Sy.plc_fst ext a, Sy.plc_fst ext b]
  | .left a, k => by simp [Sy.plc, Sy.pre, Sy.plc_fst ext a]
  | .right a, k => by simp [Sy.plc, Sy.pre, Sy.plc_fst ext a]
  | .fork a b c, k => by simp [Sy.plc, Sy.pre, Sy.plc_fst ext a, Sy.plc_fst ext b, Sy.plc_fst ext c]
  | .send x as, k => by simp [Sy.plc, Sy.pre, Sy.plcs_fst ext as]
theorem Sy.plcs_fst (ext : Sy → List Str) : ∀ (as : List Sy) (k : List Str), (Sy.plcs ext as k).map (·.1) = Sy.pres as
  | [], _ => rfl
  | a :: as, k => by simp [Sy.plcs, Sy.pres, Sy.plc_fst ext a, Sy.plcs_fst ext as]
end
mutual
/-- a relation between what is known on two sides goes through -/
theorem Sy.plc_rel {e1 e2 : Sy → List Str} {R : List Str → List Str → Prop} {A : Sy → Prop} (hA : ∀ a b c, A (.fork a b c) → A a) (step : ∀ a k1 k2, A a → R k1 k2 → R (k1 ++ e1 a) (k2 ++ e2 a)) :
    ∀ (s : Sy) (k1 k2 : List Str), (∀ a ∈ s.pre, A a) → R k1 k2 → Paired (fun p q => p.1 = q.1 ∧ R p.2 q.2) (s.plc e1 k1) (s.plc e2 k2)
  | .name _, k1, k2, _, r => .cons ⟨rfl, r⟩ .nil
  | .bud, k1, k2, _, r => .cons ⟨rfl, r⟩ .nil
  | .pair a b, k1, k2, h, r => .cons ⟨rfl, r⟩ (paired_append (Sy.plc_rel hA step a k1 k2 (fun x hx => h x (by simp [Sy.pre, hx])) r) (Sy.plc_rel hA step b k1 k2 (fun x hx => h x (by simp [Sy.pre, hx])) r))
  | .left a, k1, k2, h, r => .cons ⟨rfl, r⟩ (Sy.plc_rel hA step a k1 k2 (fun x hx => h x (by simp [Sy.pre, hx])) r)
  | .right a, k1, k2, h, r => .cons ⟨rfl, r⟩ (Sy.plc_rel hA step a k1 k2 (fun x hx => h x (by simp [Sy.pre, hx])) r)
  | .fork a b c, k1, k2, h, r => .cons ⟨rfl, r⟩ (paired_append (Sy.plc_rel hA step a k1 k2 (fun x hx => h x (by simp [Sy.pre, hx])) r)
      (paired_append (Sy.plc_rel hA step b _ _ (fun x hx => h x (by simp [Sy.pre, hx])) (step a k1 k2 (hA a b c (h _ (by simp [Sy.pre]))) r)) (Sy.plc_rel hA step c k1 k2 (fun x hx => h x (by simp [Sy.pre, hx])) r)))
  | .send x as, k1, k2, h, r => .cons ⟨rfl, r⟩ (Sy.plcs_rel hA step as k1 k2 (fun x hx => h x (by simp [Sy.pre, hx])) r)
theorem Sy.plcs_rel {e1 e2 : Sy → List Str} {R : List Str → List Str → Prop} {A : Sy → Prop} (hA : ∀ a b c, A (.fork a b c) → A a) (step : ∀ a k1 k2, A a → R k1 k2 → R (k1 ++ e1 a) (k2 ++ e2 a)) :
    ∀ (as : List Sy) (k1 k2 : List Str), (∀ a ∈ Sy.pres as, A a) → R k1 k2 → Paired (fun p q => p.1 = q.1 ∧ R p.2 q.2) (Sy.plcs e1 as k1) (Sy.plcs e2 as k2)
  | [], _, _, _, _ => .nil
  | a :: as, k1, k2, h, r => paired_append (Sy.plc_rel hA step a k1 k2 (fun x hx => h x (by simp [Sy.pres, hx])) r) (Sy.plcs_rel hA step as k1 k2 (fun x hx => h x (by simp [Sy.pres, hx])) r)
end
def ppD (p : Sy × List Str) : D := .tup [p.1.d, .tup (p.2.map D.str)]
/-- what a send tells of a parameter -/
def toldN (p : Str) (a : Sy) (k : List Str) : Int :=
  match a with
  | .bud => if p ∈ k then 2 else 1
  | .name x => if x = p then 1 else 0
  | a => if a.base = some p then (if p ∈ k then 2 else 1) else 0
def grOf (told : Str → Sy → List Str → Int) (e : Er) (q : Sy × List Str) : List (Str × Str × Mat) :=
  match q.1 with
  | .send x as => [(e.name, x, e.ps.map fun p => as.map fun a => told p a q.2)]
  | _ => []
def trD (g : Str × Str × Mat) : D := grD g.1 g.2.1 g.2.2
def graphsOf (told : Str → Sy → List Str → Int) (ext : Sy → List Str) (prog : List Er) : List (Str × Str × Mat) := (prog.map fun e => ((e.body.plc ext []).map (grOf told e)).flatten).flatten
section
variable {K : PySem.W.Frag} {S : Hp3} {Q : K3}
/-- a text or None, unlike a text -/
def neO3 : R3 := fun x y S Q => ∃ (o : Option Str) (p : Str), x = optD o ∧ y = .str p ∧ Q (.bl (!decide (o = some p))) S
theorem dn_neO : Dn2 K neO3 rNe := by
  intro Z x y S Q3 v w H Q rx ry l h c
  obtain ⟨o, p, rfl, rfl, q⟩ := h
  cases ry
  cases o with
  | none =>
    cases rx
    refine ⟨rfl, ?_⟩
    have e : decide (V.non = V.str p) = decide ((none : Option Str) = some p) := by simp
    rw [e]
    exact c _ S _ H (Kp.refl _ _) (.bl _) l q
  | some x =>
    cases rx
    refine ⟨rfl, ?_⟩
    have e : decide (V.str x = V.str p) = decide (some x = some p) := by rw [Bool.eq_iff_iff]; simp
    rw [e]
    exact c _ S _ H (Kp.refl _ _) (.bl _) l q
theorem j_neO {o : Option Str} {p : Str} (q : Q (.bl (!decide (o = some p))) S) : neO3 (optD o) (.str p) S Q := ⟨o, p, rfl, rfl, q⟩
end
end E3
namespace E3
open PySem PySem.Spec PyProof.Rows L2 EE
/-! ### paths as texts -/
def Sy.txt : Sy → Str
  | .name x => x
  | .left a => (a.txt ++ " ") ++ "left"
  | .right a => (a.txt ++ " ") ++ "right"
  | _ => ""
def Sy.pfx1 : Sy → List Str
  | .name x => [x]
  | .left a => a.pfx1 ++ [(a.txt ++ " ") ++ "left"]
  | .right a => a.pfx1 ++ [(a.txt ++ " ") ++ "right"]
  | _ => []
/-- a path and all it goes through, as texts -/
def Sy.pfx (s : Sy) : List Str := if s.base.isSome then s.pfx1 else []
def wrap : List Bool → Sy → Sy
  | [], r => r
  | true :: l, r => .left (wrap l r)
  | false :: l, r => .right (wrap l r)
def tagB (b : Bool) : Str := if b then "left" else "right"
theorem wrap_base : ∀ (bs : List Bool) (r : Sy), (wrap bs r).base = r.base
  | [], _ => rfl
  | true :: l, r => wrap_base l r
  | false :: l, r => wrap_base l r
theorem wrap_snoc : ∀ (bs : List Bool) (b : Bool) (r : Sy), wrap (bs ++ [b]) r = wrap bs (wrap [b] r)
  | [], _, _ => rfl
  | true :: l, b, r => by simp only [List.cons_append, wrap, wrap_snoc l b r]
  | false :: l, b, r => by simp only [List.cons_append, wrap, wrap_snoc l b r]
theorem wrap_txt (b : Bool) (l : List Bool) (r : Sy) : (wrap (b :: l) r).txt = ((wrap l r).txt ++ " ") ++ tagB b := by cases b <;> rfl
theorem wrap_pfx (b : Bool) (l : List Bool) (r : Sy) : (wrap (b :: l) r).pfx1 = (wrap l r).pfx1 ++ [((wrap l r).txt ++ " ") ++ tagB b] := by cases b <;> rfl
theorem wrap_deep : ∀ (bs : List Bool) (r : Sy), (wrap bs r).deep = bs.length + r.deep
  | [], _ => by simp [wrap]
  | true :: l, r => by simp only [wrap, Sy.deep, wrap_deep l r, List.length_cons]; omega
  | false :: l, r => by simp only [wrap, Sy.deep, wrap_deep l r, List.length_cons]; omega
theorem pfx_head : ∀ {s : Sy} {x : Str}, s.base = some x → ∃ l, s.pfx1 = x :: l
  | .name y, x, h => by cases h; exact ⟨[], rfl⟩
  | .left a, x, h => let ⟨l, e⟩ := pfx_head (s := a) h; ⟨l ++ [(a.txt ++ " ") ++ "left"], by simp [Sy.pfx1, e]⟩
  | .right a, x, h => let ⟨l, e⟩ := pfx_head (s := a) h; ⟨l ++ [(a.txt ++ " ") ++ "right"], by simp [Sy.pfx1, e]⟩
  | .bud, _, h => by cases h
  | .pair _ _, _, h => by cases h
  | .fork _ _ _, _, h => by cases h
  | .send _ _, _, h => by cases h
/-- what the law reckons of a parameter -/
def toldL (p : Str) (a : Sy) (k : List Str) : Int :=
  match a with
  | .bud => 1 + (if p ∈ k then 1 else 0)
  | a => if a.base = some p then 1 + (if ∃ t ∈ a.pfx.dropLast, t ∈ k then 1 else 0) else 0
theorem eq_nil {S : Hp3} {a b : Addr} {ds : List D} {n : Nat} {Q : K3} (ha : S a = some (.lst ds)) (hb : S b = some (.lst [])) (hp : ∀ d ∈ ds, d.pure = true) (hd : ∀ d ∈ ds, deepD d.dt + 1 ≤ n) (h1 : 1 ≤ n) (q : Q (.bl ds.isEmpty) S) : eqD3 n (.ref a) (.ref b) S Q := by
  refine ⟨.lst (D.dts ds), .lst [], .ref ha (Dns.of (D.pures_iff.mpr hp)), .ref hb .nil, ?_, ?_⟩
  · simp only [deepD]
    have : deepDs (D.dts ds) ≤ n - 1 := by
      rw [D.dts_map]
      refine deepDs_le fun d hd' => ?_
      obtain ⟨x, hx, rfl⟩ := List.mem_map.mp hd'
      have := hd x hx
      omega
    omega
  · have e : eqD (.lst (D.dts ds)) (.lst []) = ds.isEmpty := by cases ds <;> simp [eqD, eqDs, D.dts]
    rw [e]
    exact q
end E3

namespace E3
open PySem PySem.Spec PyProof.Rows L2 EE
/-! ### the law's graphs are the program's -/
theorem str_cps_app (a b : Str) : (a ++ b).cps.toList = a.cps.toList ++ b.cps.toList := by
  show (Str.append a b).cps.toList = _
  simp [Str.append]
theorem str_ext {a b : Str} (h : a.cps.toList = b.cps.toList) : a = b := by
  cases a
  cases b
  congr 1
  exact Array.toList_inj.mp h
/-- a text up to its first blank -/
def stem (t : Str) : List Nat := t.cps.toList.takeWhile (fun c => c != 32)
theorem take_app {p : Nat → Bool} : ∀ (a b : List Nat), (∀ c ∈ a, p c = true) → (a ++ b).takeWhile p = a ++ b.takeWhile p
  | [], _, _ => rfl
  | c :: a, b, h => by
    rw [List.cons_append, List.takeWhile_cons, if_pos (h c List.mem_cons_self), take_app a b fun d hd => h d (List.mem_cons_of_mem _ hd)]
    rfl
theorem NameOk.stem {x : Str} (h : NameOk x) : stem x = x.cps.toList := by
  obtain ⟨cs, rfl, _, _, h⟩ := h
  unfold E3.stem
  rw [textOf_codes]
  have := take_app cs [] (p := fun c => c != 32) fun c hc => by
    have := h c hc
    simp
    omega
  simpa using this
/-- a longer path has the same stem -/
theorem take_blank : ∀ (a b : List Nat), (∃ c ∈ a, c = 32) → (a ++ b).takeWhile (fun c => c != 32) = a.takeWhile (fun c => c != 32)
  | [], _, ⟨c, h, _⟩ => by simp at h
  | d :: a, b, ⟨c, h, e⟩ => by
    rw [List.cons_append, List.takeWhile_cons, List.takeWhile_cons]
    by_cases hd : d = 32
    · subst hd; rfl
    · have hb : (d != 32) = true := by simpa using hd
      rw [if_pos hb, if_pos hb]
      rcases List.mem_cons.mp h with z | z
      · exact absurd (z ▸ e) hd
      · rw [take_blank a b ⟨c, z, e⟩]
theorem stem_step {t u : Str} {x : Str} (hx : NameOk x) (h : stem t = x.cps.toList) (h2 : t = x ∨ ∃ c ∈ t.cps.toList, c = 32) : stem ((t ++ " ") ++ u) = x.cps.toList ∧ ∃ c ∈ ((t ++ " ") ++ u).cps.toList, c = 32 := by
  have eb : (" " : Str).cps.toList = [32] := by decide +kernel
  have e : ((t ++ " ") ++ u).cps.toList = t.cps.toList ++ (32 :: u.cps.toList) := by
    rw [str_cps_app, str_cps_app, eb]
    simp
  refine ⟨?_, 32, by rw [e]; simp, rfl⟩
  unfold stem
  rw [e]
  rcases h2 with rfl | h2
  · obtain ⟨cs, rfl, _, _, hc⟩ := hx
    rw [textOf_codes, take_app _ _ fun c hh => by have := hc c hh; simp; omega]
    simp
  · rw [take_blank _ _ h2]
    exact h
theorem txt_stem {x : Str} (hx : NameOk x) : ∀ {s : Sy}, s.base = some x → stem s.txt = x.cps.toList ∧ (s.txt = x ∨ ∃ c ∈ s.txt.cps.toList, c = 32)
  | .name y, h => by cases h; exact ⟨hx.stem, .inl rfl⟩
  | .left a, h => let ⟨h1, h2⟩ := txt_stem hx (s := a) h; let ⟨h3, h4⟩ := stem_step (u := "left") hx h1 h2; ⟨h3, .inr h4⟩
  | .right a, h => let ⟨h1, h2⟩ := txt_stem hx (s := a) h; let ⟨h3, h4⟩ := stem_step (u := "right") hx h1 h2; ⟨h3, .inr h4⟩
  | .bud, h => by cases h
  | .pair _ _, h => by cases h
  | .fork _ _ _, h => by cases h
  | .send _ _, h => by cases h
theorem pfx1_stem {x : Str} (hx : NameOk x) : ∀ {s : Sy}, s.base = some x → ∀ t ∈ s.pfx1, stem t = x.cps.toList
  | .name y, h, t, ht => by cases h; rw [List.mem_singleton.mp ht]; exact hx.stem
  | .left a, h, t, ht => by
    rcases List.mem_append.mp ht with ht | ht
    · exact pfx1_stem hx (s := a) h t ht
    · rw [List.mem_singleton.mp ht]
      have := txt_stem hx (s := a) h
      exact (stem_step hx this.1 this.2).1
  | .right a, h, t, ht => by
    rcases List.mem_append.mp ht with ht | ht
    · exact pfx1_stem hx (s := a) h t ht
    · rw [List.mem_singleton.mp ht]
      have := txt_stem hx (s := a) h
      exact (stem_step hx this.1 this.2).1
  | .bud, h, _, _ => by cases h
  | .pair _ _, h, _, _ => by cases h
  | .fork _ _ _, h, _, _ => by cases h
  | .send _ _, h, _, _ => by cases h
/-- what is known on the two sides -/
def KRel (k1 k2 : List Str) : Prop := ∀ p, NameOk p → (p ∈ k1 ↔ p ∈ k2) ∧ ∀ t ∈ k2, stem t = p.cps.toList → p ∈ k2
theorem KRel.nil : KRel [] [] := fun p _ => ⟨Iff.rfl, fun t ht => by simp at ht⟩
theorem KRel.step {a : Sy} {k1 k2 : List Str} (ha : ∀ x, a.base = some x → NameOk x) (r : KRel k1 k2) : KRel (k1 ++ a.bases) (k2 ++ a.pfx) := by
  cases hb : a.base with
  | none =>
    have e1 : a.bases = [] := by unfold Sy.bases; rw [hb]; rfl
    have e2 : a.pfx = [] := by unfold Sy.pfx; rw [hb]; rfl
    rw [e1, e2, List.append_nil, List.append_nil]
    exact r
  | some x =>
    have hx := ha x hb
    have e1 : a.bases = [x] := by unfold Sy.bases; rw [hb]; rfl
    have e2 : a.pfx = a.pfx1 := by unfold Sy.pfx; rw [hb]; rfl
    obtain ⟨l, el⟩ := pfx_head hb
    have hmem : x ∈ a.pfx1 := by rw [el]; exact List.mem_cons_self
    intro p hp
    obtain ⟨r1, r2⟩ := r p hp
    rw [e1, e2]
    refine ⟨⟨fun h => ?_, fun h => ?_⟩, fun t ht es => ?_⟩
    · rcases List.mem_append.mp h with h | h
      · exact List.mem_append_left _ (r1.mp h)
      · rw [List.mem_singleton.mp h]; exact List.mem_append_right _ hmem
    · rcases List.mem_append.mp h with h | h
      · exact List.mem_append_left _ (r1.mpr h)
      · have h1 := pfx1_stem hx hb p h
        rw [hp.stem] at h1
        rw [str_ext h1]
        simp
    · rcases List.mem_append.mp ht with ht | ht
      · exact List.mem_append_left _ (r2 t ht es)
      · have h1 := pfx1_stem hx hb t ht
        rw [es] at h1
        rw [str_ext h1]
        exact List.mem_append_right _ hmem
theorem told_same {p : Str} {a : Sy} {k1 k2 : List Str} (hp : NameOk p) (r : KRel k1 k2) : toldN p a k1 = toldL p a k2 := by
  obtain ⟨r1, r2⟩ := r p hp
  have long : a.base = some p → 2 ≤ a.pfx.length → ((∃ t ∈ a.pfx.dropLast, t ∈ k2) ↔ p ∈ k1) := fun hb hl => by
    have e2 : a.pfx = a.pfx1 := by unfold Sy.pfx; rw [hb]; rfl
    obtain ⟨l, el⟩ := pfx_head hb
    rw [e2] at hl ⊢
    refine ⟨fun ⟨t, ht, hk⟩ => r1.mpr (r2 t hk (pfx1_stem hp hb t (List.dropLast_subset _ ht))), fun h => ⟨p, ?_, r1.mp h⟩⟩
    rw [el] at hl ⊢
    cases l with
    | nil => simp at hl
    | cons y l => simp
  have plen : ∀ b : Sy, b.base = some p → 1 ≤ b.pfx1.length := fun b hb => by
    obtain ⟨l, el⟩ := pfx_head hb
    rw [el]
    simp
  cases a with
  | bud =>
    simp only [toldN, toldL]
    by_cases h : p ∈ k1
    · rw [if_pos h, if_pos (r1.mp h)]; rfl
    · rw [if_neg h, if_neg (fun z => h (r1.mpr z))]; rfl
  | name x =>
    simp only [toldN, toldL, Sy.base, Sy.pfx, Sy.pfx1, Option.isSome_some, if_true, List.dropLast_singleton]
    by_cases h : x = p
    · rw [if_pos h, if_pos (by rw [h]), if_neg (by simp)]; rfl
    · rw [if_neg h, if_neg (by simpa using h)]
  | left b =>
    simp only [toldN, toldL]
    by_cases h : (Sy.left b).base = some p
    · have := long h (by
        have e2 : (Sy.left b).pfx = (Sy.left b).pfx1 := by unfold Sy.pfx; rw [h]; rfl
        have := plen b h
        rw [e2]
        simp only [Sy.pfx1, List.length_append, List.length_cons, List.length_nil]
        omega)
      rw [if_pos h, if_pos h]
      by_cases h1 : p ∈ k1
      · rw [if_pos h1, if_pos (this.mpr h1)]; rfl
      · rw [if_neg h1, if_neg (fun z => h1 (this.mp z))]; rfl
    · rw [if_neg h, if_neg h]
  | right b =>
    simp only [toldN, toldL]
    by_cases h : (Sy.right b).base = some p
    · have := long h (by
        have e2 : (Sy.right b).pfx = (Sy.right b).pfx1 := by unfold Sy.pfx; rw [h]; rfl
        have := plen b h
        rw [e2]
        simp only [Sy.pfx1, List.length_append, List.length_cons, List.length_nil]
        omega)
      rw [if_pos h, if_pos h]
      by_cases h1 : p ∈ k1
      · rw [if_pos h1, if_pos (this.mpr h1)]; rfl
      · rw [if_neg h1, if_neg (fun z => h1 (this.mp z))]; rfl
    · rw [if_neg h, if_neg h]
  | pair _ _ => simp [toldN, toldL, Sy.base]
  | fork _ _ _ => simp [toldN, toldL, Sy.base]
  | send _ _ => simp [toldN, toldL, Sy.base]
mutual
theorem Sy.wf_in {ar : Str → Option Nat} {ps : List Str} : ∀ {s : Sy}, s.wf ar ps → ∀ a ∈ s.pre, a.wf ar ps
  | .name x, h, a, ha => by simp only [Sy.pre, List.mem_singleton] at ha; subst ha; exact h
  | .bud, h, a, ha => by simp only [Sy.pre, List.mem_singleton] at ha; subst ha; exact h
  | .pair x y, h, a, ha => by
    simp only [Sy.pre, List.mem_cons, List.mem_append] at ha
    rcases ha with rfl | ha | ha
    · exact h
    · simp only [Sy.wf] at h; exact Sy.wf_in h.1 a ha
    · simp only [Sy.wf] at h; exact Sy.wf_in h.2 a ha
  | .left x, h, a, ha => by
    simp only [Sy.pre, List.mem_cons] at ha
    rcases ha with rfl | ha
    · exact h
    · simp only [Sy.wf] at h; exact Sy.wf_in h a ha
  | .right x, h, a, ha => by
    simp only [Sy.pre, List.mem_cons] at ha
    rcases ha with rfl | ha
    · exact h
    · simp only [Sy.wf] at h; exact Sy.wf_in h a ha
  | .fork x y z, h, a, ha => by
    simp only [Sy.pre, List.mem_cons, List.mem_append] at ha
    rcases ha with rfl | ha | ha | ha
    · exact h
    · simp only [Sy.wf] at h; exact Sy.wf_in h.1 a ha
    · simp only [Sy.wf] at h; exact Sy.wf_in h.2.1 a ha
    · simp only [Sy.wf] at h; exact Sy.wf_in h.2.2 a ha
  | .send x as, h, a, ha => by
    simp only [Sy.pre, List.mem_cons] at ha
    rcases ha with rfl | ha
    · exact h
    · simp only [Sy.wf] at h; exact Sy.wfs_in h.2.2.2 a ha
theorem Sy.wfs_in {ar : Str → Option Nat} {ps : List Str} : ∀ {as : List Sy}, Sy.wfs ar ps as → ∀ a ∈ Sy.pres as, a.wf ar ps
  | [], _, a, ha => by simp [Sy.pres] at ha
  | x :: xs, h, a, ha => by
    simp only [Sy.pres, List.mem_append] at ha
    simp only [Sy.wfs] at h
    rcases ha with ha | ha
    · exact Sy.wf_in h.1 a ha
    · exact Sy.wfs_in h.2 a ha
end
theorem wf_base {ar : Str → Option Nat} {ps : List Str} : ∀ {s : Sy} {x : Str}, s.wf ar ps → s.base = some x → x ∈ ps
  | .name y, x, h, hb => by cases hb; exact h
  | .left a, x, h, hb => wf_base (s := a) (by simpa only [Sy.wf] using h) hb
  | .right a, x, h, hb => wf_base (s := a) (by simpa only [Sy.wf] using h) hb
  | .bud, _, _, hb => by cases hb
  | .pair _ _, _, _, hb => by cases hb
  | .fork _ _ _, _, _, hb => by cases hb
  | .send _ _, _, _, hb => by cases hb
theorem wf_parts {ar : Str → Option Nat} {ps : List Str} {s : Sy} (h : s.wf ar ps) : s.parts.length ≤ 4 := by
  cases s <;> simp [Sy.parts]
  simp only [Sy.wf] at h
  exact h.2.2.1
theorem grOf_same {e : Er} {s : Sy} {k1 k2 : List Str} (hps : ∀ x ∈ e.ps, NameOk x) (r : KRel k1 k2) : grOf toldN e (s, k1) = grOf toldL e (s, k2) := by
  cases s with
  | send x as =>
    simp only [grOf]
    congr 3
    refine List.map_congr_left fun p hp => ?_
    exact List.map_congr_left fun a _ => told_same (hps p hp) r
  | _ => rfl
theorem flat_same {α β : Type} {F : α → α → Prop} {f g : α → List β} : ∀ {xs ys : List α}, Paired F xs ys → (∀ x y, F x y → f x = g y) → (xs.map f).flatten = (ys.map g).flatten
  | _, _, .nil, _ => rfl
  | _, _, .cons h r, hf => by rw [List.map_cons, List.map_cons, List.flatten_cons, List.flatten_cons, hf _ _ h, flat_same r hf]
theorem graphs_same {ar : Str → Option Nat} : ∀ {prog : List Er}, (∀ e ∈ prog, (∀ x ∈ e.ps, NameOk x) ∧ e.body.wf ar e.ps) → graphsOf toldN Sy.bases prog = graphsOf toldL Sy.pfx prog := by
  intro prog h
  unfold graphsOf
  congr 1
  refine List.map_congr_left fun e he => ?_
  obtain ⟨hps, hw⟩ := h e he
  refine flat_same (Sy.plc_rel (R := KRel) (A := fun a => a.wf ar e.ps) (fun a b c z => by simp only [Sy.wf] at z; exact z.1) (fun a k1 k2 ha r => r.step fun x hx => hps x (wf_base ha hx)) e.body [] [] (fun a ha => Sy.wf_in hw a ha) KRel.nil) ?_
  rintro ⟨s1, k1⟩ ⟨s2, k2⟩ ⟨e1, r⟩
  dsimp only at e1 r
  subst e1
  exact grOf_same hps r
/-! ### how many -/
theorem grOf_len {told : Str → Sy → List Str → Int} {e : Er} {q : Sy × List Str} : (grOf told e q).length ≤ 1 := by
  obtain ⟨s, k⟩ := q
  cases s <;> simp [grOf]
theorem gr_len {told : Str → Sy → List Str → Int} {e : Er} : ∀ l : List (Sy × List Str), ((l.map (grOf told e)).flatten).length ≤ l.length
  | [] => by simp
  | q :: l => by
    have h1 := grOf_len (told := told) (e := e) (q := q)
    have h2 := gr_len (told := told) (e := e) l
    rw [List.map_cons, List.flatten_cons, List.length_append, List.length_cons]
    omega
theorem plc_len (ext : Sy → List Str) (s : Sy) (k : List Str) : (s.plc ext k).length = s.pre.length := by
  rw [← Sy.plc_fst ext s k, List.length_map]
theorem gr_cnt {told : Str → Sy → List Str → Int} {e : Er} : ∀ l : List (Sy × List Str), ((l.map (grOf told e)).flatten).length = ((l.map Prod.fst).filter fun a => match a with | .send _ _ => true | _ => false).length
  | [] => rfl
  | (s, k) :: l => by
    have ih := gr_cnt (told := told) (e := e) l
    rw [List.map_cons, List.flatten_cons, List.length_append, List.map_cons, ih]
    cases s <;> simp [grOf, List.filter_cons]
    omega
theorem grOfs_sends {told : Str → Sy → List Str → Int} {ext : Sy → List Str} {e : Er} : (((e.body.plc ext []).map (grOf told e)).flatten).length = e.body.sends := by
  rw [gr_cnt, Sy.plc_fst]
  rfl
theorem graphsOf_sends {told : Str → Sy → List Str → Int} {ext : Sy → List Str} {z : Nat} : ∀ {prog : List Er}, (∀ e ∈ prog, e.body.sends ≤ z) → (graphsOf told ext prog).length ≤ prog.length * z
  | [], _ => by simp [graphsOf]
  | e :: prog, h => by
    have h1 := grOfs_sends (told := told) (ext := ext) (e := e)
    have h0 := h e List.mem_cons_self
    have h2 := graphsOf_sends (told := told) (ext := ext) (prog := prog) fun b hb => h b (List.mem_cons_of_mem _ hb)
    have e1 : graphsOf told ext (e :: prog) = ((e.body.plc ext []).map (grOf told e)).flatten ++ graphsOf told ext prog := by simp [graphsOf]
    rw [e1, List.length_append, List.length_cons, Nat.succ_mul]
    omega
/-- what is known is no more than the depth -/
theorem plc_known {ext : Sy → List Str} {m : Nat} (he : ∀ a, (ext a).length ≤ m) : ∀ (n : Nat) (s : Sy) (k : List Str), s.deep ≤ n → ∀ p ∈ s.plc ext k, p.2.length ≤ k.length + n * m
  | 0, s, k, h, p, hp => by cases s <;> simp [Sy.deep] at h
  | n + 1, s, k, h, p, hp => by
    rw [plc_pp] at hp
    rcases List.mem_cons.mp hp with rfl | hp
    · dsimp only; omega
    · unfold plcL at hp
      obtain ⟨l, hl, hp⟩ := List.mem_flatten.mp hp
      obtain ⟨⟨a, k'⟩, ha, rfl⟩ := List.mem_map.mp hl
      have hk : k'.length ≤ k.length + m ∧ a.deep ≤ n := by
        cases s with
        | fork x y z =>
          simp only [Sy.pp, List.mem_cons, List.not_mem_nil, or_false, Prod.mk.injEq] at ha
          simp only [Sy.deep] at h
          have := he x
          rcases ha with ⟨rfl, rfl⟩ | ⟨rfl, rfl⟩ | ⟨rfl, rfl⟩
          · exact ⟨by omega, by omega⟩
          · exact ⟨by rw [List.length_append]; omega, by omega⟩
          · exact ⟨by omega, by omega⟩
        | name x => simp [Sy.pp, Sy.parts] at ha
        | bud => simp [Sy.pp, Sy.parts] at ha
        | pair x y =>
          simp only [Sy.pp, Sy.parts, List.map_cons, List.map_nil, List.mem_cons, List.not_mem_nil, or_false, Prod.mk.injEq] at ha
          simp only [Sy.deep] at h
          rcases ha with ⟨rfl, rfl⟩ | ⟨rfl, rfl⟩ <;> exact ⟨by omega, by omega⟩
        | left x =>
          simp only [Sy.pp, Sy.parts, List.map_cons, List.map_nil, List.mem_cons, List.not_mem_nil, or_false, Prod.mk.injEq] at ha
          simp only [Sy.deep] at h
          obtain ⟨rfl, rfl⟩ := ha
          exact ⟨by omega, by omega⟩
        | right x =>
          simp only [Sy.pp, Sy.parts, List.map_cons, List.map_nil, List.mem_cons, List.not_mem_nil, or_false, Prod.mk.injEq] at ha
          simp only [Sy.deep] at h
          obtain ⟨rfl, rfl⟩ := ha
          exact ⟨by omega, by omega⟩
        | send x as =>
          simp only [Sy.pp, Sy.parts, List.mem_map, Prod.mk.injEq] at ha
          obtain ⟨b, hb, rfl, rfl⟩ := ha
          have := Sy.deeps_mem hb
          simp only [Sy.deep] at h
          exact ⟨by omega, by omega⟩
      have := plc_known he n a k' hk.2 p hp
      have e : (n + 1) * m = n * m + m := Nat.succ_mul n m
      omega
theorem bases_len (a : Sy) : a.bases.length ≤ 1 := by
  unfold Sy.bases
  cases a.base <;> simp
theorem pfx1_len : ∀ s : Sy, s.pfx1.length ≤ s.deep
  | .name _ => by simp [Sy.pfx1, Sy.deep]
  | .left a => by have := pfx1_len a; simp only [Sy.pfx1, Sy.deep, List.length_append, List.length_cons, List.length_nil]; omega
  | .right a => by have := pfx1_len a; simp only [Sy.pfx1, Sy.deep, List.length_append, List.length_cons, List.length_nil]; omega
  | .bud => by simp [Sy.pfx1]
  | .pair _ _ => by simp [Sy.pfx1]
  | .fork _ _ _ => by simp [Sy.pfx1]
  | .send _ _ => by simp [Sy.pfx1]
theorem pfx_len (s : Sy) : s.pfx.length ≤ s.deep := by
  unfold Sy.pfx
  split
  · exact pfx1_len s
  · simp
theorem mem_pres {a b : Sy} : ∀ {as : List Sy}, a ∈ as → b ∈ a.pre → b ∈ Sy.pres as
  | c :: as, h, hb => by
    rw [Sy.pres, List.mem_append]
    rcases List.mem_cons.mp h with rfl | h
    · exact .inl hb
    · exact .inr (mem_pres h hb)
theorem pres_part {a : Sy} : ∀ {as : List Sy}, a ∈ as → a.pre.length ≤ (Sy.pres as).length
  | c :: as, h => by
    rw [Sy.pres, List.length_append]
    rcases List.mem_cons.mp h with rfl | h
    · omega
    · have := pres_part h; omega
/-- within bounds, for the law's walk -/
structure GiOk (n : Nat) (e : Er) (s : Sy) (k : List Str) : Prop where
  deep : s.deep ≤ n
  n50 : n ≤ 50
  kl : k.length + n * 100 ≤ 10000
  ps : e.ps.length ≤ 1000
  size : s.pre.length ≤ 100000
  all : ∀ a ∈ s.pre, a.parts.length ≤ 1000 ∧ ∀ x, a.base = some x → x.length ≤ 1000
theorem GiOk.part {n : Nat} {e : Er} {s : Sy} {k : List Str} (h : GiOk (n + 1) e s k) {a : Sy} {k' : List Str} (ha : (a, k') ∈ s.pp Sy.pfx k) : GiOk n e a k' := by
  have hmem : a ∈ s.parts := by rw [← pp_fst Sy.pfx s k]; exact List.mem_map_of_mem (f := Prod.fst) ha
  have hpre : ∀ b ∈ a.pre, b ∈ s.pre := fun b hb => by rw [Sy.pre_parts]; exact List.mem_cons_of_mem _ (mem_pres hmem hb)
  have hsz : a.pre.length ≤ s.pre.length := by
    have := pres_part hmem
    rw [Sy.pre_parts s, List.length_cons]
    omega
  have h1 := h.deep
  have h2 := h.n50
  have h3 := h.kl
  have hd : a.deep ≤ n ∧ k'.length ≤ k.length + 100 := by
    cases s with
    | fork x y z =>
      simp only [Sy.pp, List.mem_cons, List.not_mem_nil, or_false, Prod.mk.injEq] at ha
      simp only [Sy.deep] at h1
      have := pfx_len x
      rcases ha with ⟨rfl, rfl⟩ | ⟨rfl, rfl⟩ | ⟨rfl, rfl⟩
      · exact ⟨by omega, by omega⟩
      · exact ⟨by omega, by rw [List.length_append]; omega⟩
      · exact ⟨by omega, by omega⟩
    | name x => simp [Sy.pp, Sy.parts] at ha
    | bud => simp [Sy.pp, Sy.parts] at ha
    | pair x y =>
      simp only [Sy.pp, Sy.parts, List.map_cons, List.map_nil, List.mem_cons, List.not_mem_nil, or_false, Prod.mk.injEq] at ha
      simp only [Sy.deep] at h1
      rcases ha with ⟨rfl, rfl⟩ | ⟨rfl, rfl⟩ <;> exact ⟨by omega, by omega⟩
    | left x =>
      simp only [Sy.pp, Sy.parts, List.map_cons, List.map_nil, List.mem_cons, List.not_mem_nil, or_false, Prod.mk.injEq] at ha
      simp only [Sy.deep] at h1
      obtain ⟨rfl, rfl⟩ := ha
      exact ⟨by omega, by omega⟩
    | right x =>
      simp only [Sy.pp, Sy.parts, List.map_cons, List.map_nil, List.mem_cons, List.not_mem_nil, or_false, Prod.mk.injEq] at ha
      simp only [Sy.deep] at h1
      obtain ⟨rfl, rfl⟩ := ha
      exact ⟨by omega, by omega⟩
    | send x as =>
      simp only [Sy.pp, Sy.parts, List.mem_map, Prod.mk.injEq] at ha
      obtain ⟨b, hb, rfl, rfl⟩ := ha
      have := Sy.deeps_mem hb
      simp only [Sy.deep] at h1
      exact ⟨by omega, by omega⟩
  exact ⟨hd.1, by omega, by have := hd.2; omega, h.ps, by have := h.size; omega, fun b hb => h.all b (hpre b hb)⟩
/-- what the walk has found when so many parts are behind it -/
def giAcc (e : Er) (s : Sy) (k : List Str) (j : Nat) : List (Str × Str × Mat) := grOf toldL e (s, k) ++ ((plcL Sy.pfx ((s.pp Sy.pfx k).take j)).map (grOf toldL e)).flatten
theorem giAcc_0 {e : Er} {s : Sy} {k : List Str} : giAcc e s k 0 = grOf toldL e (s, k) := by simp [giAcc, plcL]
theorem giAcc_end {e : Er} {s : Sy} {k : List Str} {j : Nat} (h : s.parts.length ≤ j) : giAcc e s k j = ((s.plc Sy.pfx k).map (grOf toldL e)).flatten := by
  have hl : (s.pp Sy.pfx k).length = s.parts.length := by rw [← pp_fst Sy.pfx s k, List.length_map]
  unfold giAcc
  rw [List.take_of_length_le (by omega), plc_pp]
  simp
theorem giAcc_snoc {e : Er} {s : Sy} {k : List Str} {j : Nat} {a : Sy} {k' : List Str} (h : (s.pp Sy.pfx k)[j]? = some (a, k')) : giAcc e s k (j + 1) = giAcc e s k j ++ ((a.plc Sy.pfx k').map (grOf toldL e)).flatten := by
  unfold giAcc
  have ht : (s.pp Sy.pfx k).take (j + 1) = (s.pp Sy.pfx k).take j ++ [(a, k')] := by rw [List.take_succ, h]; rfl
  rw [ht, plcL_append]
  simp [plcL]
theorem giAcc_le {e : Er} {s : Sy} {k : List Str} {j : Nat} : (giAcc e s k j).length ≤ s.pre.length := by
  have h1 := gr_len (told := toldL) (e := e) (s.plc Sy.pfx k)
  rw [plc_len] at h1
  refine Nat.le_trans ?_ h1
  rw [plc_pp]
  conv => rhs; rw [← List.take_append_drop j (s.pp Sy.pfx k)]
  unfold giAcc
  rw [plcL_append]
  simp only [List.map_cons, List.flatten_cons, List.map_append, List.flatten_append, List.length_append]
  omega
/-- the known ones, where it is no fork's second -/
theorem pp_same {s : Sy} {k : List Str} {j : Nat} {a : Sy} (h : s.parts[j]? = some a) (hf : ∀ x y z, s = .fork x y z → j ≠ 1) : (s.pp Sy.pfx k)[j]? = some (a, k) := by
  cases s with
  | fork x y z =>
    have hj := hf x y z rfl
    match j, h, hj with
    | 0, h, _ => cases h; rfl
    | 1, _, hj => exact absurd rfl hj
    | 2, h, _ => cases h; rfl
    | j + 3, h, _ => simp [Sy.parts] at h
  | name x => simp [Sy.parts] at h
  | bud => simp [Sy.parts] at h
  | pair x y => simp only [Sy.pp, List.getElem?_map, h, Option.map_some]
  | left x => simp only [Sy.pp, List.getElem?_map, h, Option.map_some]
  | right x => simp only [Sy.pp, List.getElem?_map, h, Option.map_some]
  | send x as => simp only [Sy.pp, List.getElem?_map, h, Option.map_some]
end E3

/-! ### a closure of pairs, no more than forty -/
namespace CL
section
variable {α : Type} [DecidableEq α]
abbrev Fd (α : Type) := List (α × List Int)
/-- none twice, no more than forty -/
structure Ok (f : Fd α) : Prop where
  nd : (f.map Prod.fst).Nodup
  len : f.length ≤ 40
theorem Ok.nil : Ok ([] : Fd α) := ⟨by simp, by simp⟩
variable {fit : α → α → Bool} {cmp : α → α → α}
section
variable {β : Type} [DecidableEq β] {φ : α → β} {Gd : α → Prop} {C : List β} (inj : ∀ a b, Gd a → Gd b → φ a = φ b → a = b)
/-- within bounds of another closure -/
def In (φ : α → β) (Gd : α → Prop) (C : List β) (f : Fd α) : Prop := ∀ a ∈ f.map Prod.fst, Gd a ∧ φ a ∈ C
include inj
end
/-! #### what holds of all -/
section
variable {Pr : α → Prop}
end
end
end CL

namespace EE
open PySem PySem.Spec PyProof.Rows L2
section
variable {prog : Program} {w : World} {A : Around} {E : Value → Shared → Prop} {s : Shared}
end
section
variable {prog : Program} {w : World} {A : Around} {E : Value → Shared → Prop} {s : Shared}
end
section
variable {X : Cx} {tg a : Expr} {ta : TA} {p pos : Pos}
end
end EE

namespace EE
open PySem PySem.Spec PyProof.Rows L2
section
variable {X : Cx} {pins : List (Addr × Obj)} {σ : L2.St} {J : It} {fp : List Addr} {it D : Addr} {tn : Nat → Heap → Prop} {R : Result → Shared → Prop}
end
namespace FE
end FE
section
variable {X : Cx} {a : Expr} {ta : TA} {p p2 pos pos2 : Pos} {g : TG} {tt : TT} {te : TE}
end
end EE
namespace E3
open PySem PySem.Spec PyProof.Rows L2 EE
section
variable {X : Cx} {W3 : W3T} {tg : Expr} {pos pos2 p p2 : Pos} {a : Expr} {ta : TA3} {σ : St3} {S : Hp3} {R : RI} {al : TA3}
end
end E3

namespace EE
open PySem PySem.Spec PyProof.Rows L2
/-! ### x in l, l a list of data that hold data -/
section
variable {X : Cx}
end
end EE
namespace E3
open PySem PySem.Spec PyProof.Rows L2 EE
section
variable {P : Program} {w : World} {K : PySem.W.Frag} {mg : Str → Option Value} {base : Heap} {x : Str} {st : Stmt} {N ps : List Str} {k : Nat}
end
/-! in, deep -/
section
variable {K : PySem.W.Frag} {S : Hp3} {Q : K3}
end
/-! ### graphs as data -/
abbrev Gr := Str × Str × Mat
section
variable {S : Hp3} {Q : K3}
end
/-! ### graphs that fit together -/
structure Gd (ar : Str → Option Nat) (g : Gr) : Prop where
  ex : ∃ m n, ar g.1 = some m ∧ ar g.2.1 = some n ∧ 1 ≤ m ∧ 1 ≤ n ∧ m ≤ 4 ∧ n ≤ 4 ∧ Mt m n g.2.2
end E3

namespace E3
open PySem PySem.Spec PyProof.Rows L2 EE
end E3
namespace E3
open PySem PySem.Spec PyProof.Rows L2 EE
section
variable {K : PySem.W.Frag} {S : Hp3} {Q : K3}
end
end E3
namespace E3
abbrev cD (counts : List Nat) : List D := counts.map fun c : Nat => D.int (c : Int)
end E3

namespace E3
open PySem PySem.Spec PyProof.Rows L2 EE
end E3

namespace E3
open PySem PySem.Spec PyProof.Rows L2 EE
/-! ### tables of names -/
def tb (xs ys : List Str) (x : Str) : Str := ys.getD (xs.idxOf x) ""
end E3

set_option maxHeartbeats 4000000
namespace LW
open PySem PySem.Spec PyProof.Rows L2 EE E3
local macro_rules | `(tactic| decreasing_trivial) => `(tactic| repeat (first | (with_reducible refine j_seq ?_) | (with_reducible refine j_set ?_) | ((with_reducible apply j_v); exact rfl) | (with_reducible refine j_c ?_) | (with_reducible refine j_o ?_) | (with_reducible refine j_i3 ?_) | (with_reducible refine j_cons ?_) | (with_reducible refine j_nil ?_) | (with_reducible refine j_ifs ?_) | (with_reducible refine j_test ?_) | (with_reducible refine j_eb ?_) | (with_reducible refine j_ei ?_) | (with_reducible refine j_ret ?_) | (with_reducible refine j_drop ?_) | (with_reducible refine j_next ?_) | (with_reducible refine j_asg ?_) | (with_reducible refine j_name ?_) | (with_reducible refine j_eqI ?_) | (with_reducible refine j_neI ?_) | (with_reducible refine j_eqS ?_) | (with_reducible refine j_neS ?_) | (with_reducible refine j_isN ?_) | ((with_reducible refine j_mod ?_ ?_); (first | decide | omega)) | ((with_reducible refine j_div ?_ ?_); (first | exact ⟨by decide, by decide⟩ | omega)) | ((with_reducible refine j_pow ?_ ?_); exact ⟨by decide, by decide, by decide⟩) | ((with_reducible refine j_mul ?_ ?_); (first | exact .inl ⟨by decide, by decide⟩ | exact .inr ⟨by decide, by decide⟩)) | (with_reducible refine j_neg ?_) | (with_reducible refine j_and ?_) | (with_reducible refine j_or ?_) | (with_reducible refine j_not ?_) | (with_reducible refine j_andv ?_) | (with_reducible refine j_ifx ?_) | (with_reducible refine j_truth ?_) | (with_reducible refine j_truL (by assumption) ?_) | (with_reducible refine j_truL up_same ?_) | (with_reducible refine E3.j_tup ?_) | (with_reducible refine j_lst ?_) | ((with_reducible refine j_sz ?_ ?_); exact small_le (Nat.le_of_ble_eq_true rfl)) | (with_reducible refine j_cb ?_) | (with_reducible refine j_call ?_) | (with_reducible refine j_bm ?_) | (with_reducible refine j_bm0 ?_) | (with_reducible refine j_tyL (by assumption) ?_) | (with_reducible refine j_tyL up_same ?_) | ((with_reducible apply j_ixT); (first | exact rfl | exact atI_0 | exact atI_1 | exact atI_2 | exact atI_3)) | ((with_reducible apply j_ixL (by assumption)); (first | exact rfl | exact atI_0 | exact atI_1 | exact atI_2 | exact atI_3)) | ((with_reducible apply j_ixL up_same); (first | exact rfl | exact atI_0 | exact atI_1 | exact atI_2 | exact atI_3)) | ((with_reducible apply j_ixR); exact rfl) | (with_reducible refine j_lenT ?_) | (with_reducible refine j_lenR ?_) | (with_reducible refine j_lenL (by assumption) ?_) | (with_reducible refine j_lenL up_same ?_) | (with_reducible refine j_toListL (by assumption) ?_) | (with_reducible refine j_toTupL (by assumption) ?_) | (with_reducible refine j_toTupL up_same ?_) | ((with_reducible apply j_isBL (by assumption)); exact rfl) | ((with_reducible apply j_isBL up_same); exact rfl) | ((with_reducible apply j_isB); (exact rfl); (exact rfl)) | (with_reducible refine j_sl ?_) | (with_reducible refine j_nopart ?_) | (with_reducible refine j_part ?_) | (with_reducible refine j_slL (by assumption) ?_) | (with_reducible refine j_slL up_same ?_) | (with_reducible refine j_slT ?_) | (with_reducible refine j_comp ?_) | (with_reducible refine j_compS ?_) | (with_reducible refine j_yes ?_) | (with_reducible refine j_iRevL ?_) | (with_reducible refine j_revL (by assumption) ?_) | (with_reducible refine j_revL up_same ?_) | ((with_reducible refine j_catE ?_ ?_); exact small_le (Nat.le_of_ble_eq_true rfl)) | (with_reducible refine j_intB ?_) | (with_reducible refine j_notinTS ?_) | (with_reducible refine j_inL (by assumption) ?_) | (with_reducible refine j_neO ?_) | (with_reducible refine j_chain ?_) | (with_reducible refine j_for ?_) | (with_reducible refine j_iList ?_) | (with_reducible refine j_iTup ?_) | (with_reducible refine j_iR1 ?_) | (with_reducible refine j_iR2 ?_) | (with_reducible refine j_iL (by assumption) ?_) | (with_reducible refine j_iL up_same ?_) | (with_reducible refine j_iT ?_) | ((with_reducible refine j_inT ?_ ?_ ?_); (exact rfl); (exact rfl)) | (with_reducible refine j_setL ?_) | ((with_reducible apply j_esL (by assumption)); (first | exact rfl | exact ixN_0 | exact ixN_1)) | ((with_reducible apply j_esL up_same); (first | exact rfl | exact ixN_0 | exact ixN_1)) | (with_reducible refine iteD rfl ?_) | (with_reducible refine iteNS rfl ?_) | (with_reducible refine iteT ?_) | (with_reducible refine iteF ?_) | (with_reducible refine iteD (by assumption) ?_) | (with_reducible refine iteDN (by assumption) ?_) | (with_reducible refine iteN (by assumption) ?_) | (with_reducible refine iteNS (by assumption) ?_) | ((with_reducible refine iteBt ?_ ?_); exact rfl) | ((with_reducible refine iteBf ?_ ?_); exact rfl) | (with_reducible refine iteBt (by decide +kernel) ?_) | (with_reducible refine iteBf (by decide +kernel) ?_) | (with_reducible refine iteD (by omega) ?_) | (with_reducible refine iteDN (by omega) ?_) | (with_reducible refine iteN (by omega) ?_) | (with_reducible refine iteNS (by omega) ?_) | ((with_reducible refine j_rng2 ?_ ?_); (first | exact ⟨by decide, by decide, by decide, by decide⟩ | exact ⟨by omega, by omega, by omega, by omega⟩)) | ((with_reducible refine j_rng ?_ ?_); (first | exact ⟨by decide, by decide⟩ | exact ⟨by omega, by omega⟩)) | ((with_reducible refine j_lenS ?_ ?_); assumption)))
def top (i : Nat) : Stmt := PySem.Challenge.pw_errandend_k08_graphs.main.body.getD i (.Pass ⟨0, 0, 0, 0⟩)
abbrev s_parts : Stmt := top 1
theorem sc_parts : FnScope ["saying"] ["saying"] (defScope s_parts) := ⟨rfl, rfl, rfl, by decide +kernel, rfl, by decide +kernel, by decide +kernel⟩
abbrev s_graphs : Stmt := top 3
theorem sc_graphs : FnScope ["program", "found", "errand", "placed", "send", "rows"] ["program"] (defScope s_graphs) := ⟨rfl, rfl, rfl, by decide +kernel, rfl, by decide +kernel, by decide +kernel⟩
abbrev s_placed_sends : Stmt := top 4
theorem sc_placed_sends : FnScope ["body", "found", "pending", "placed", "inner"] ["body"] (defScope s_placed_sends) := ⟨rfl, rfl, rfl, by decide +kernel, rfl, by decide +kernel, by decide +kernel⟩
abbrev s_placed_parts : Stmt := top 5
theorem sc_placed_parts : FnScope ["saying", "known", "param", "inner"] ["saying", "known"] (defScope s_placed_parts) := ⟨rfl, rfl, rfl, by decide +kernel, rfl, by decide +kernel, by decide +kernel⟩
abbrev s_path_parameter : Stmt := top 6
theorem sc_path_parameter : FnScope ["saying", "rest"] ["saying"] (defScope s_path_parameter) := ⟨rfl, rfl, rfl, by decide +kernel, rfl, by decide +kernel, by decide +kernel⟩
abbrev s_told_row : Stmt := top 7
theorem sc_told_row : FnScope ["param", "sayings", "known"] ["param", "sayings", "known"] (defScope s_told_row) := ⟨rfl, rfl, rfl, by decide +kernel, rfl, by decide +kernel, by decide +kernel⟩
abbrev s_told_number : Stmt := top 8
theorem sc_told_number : FnScope ["param", "saying", "known"] ["param", "saying", "known"] (defScope s_told_number) := ⟨rfl, rfl, rfl, by decide +kernel, rfl, by decide +kernel, by decide +kernel⟩
abbrev s_cell_at : Stmt := top 10
theorem sc_cell_at : FnScope ["script", "k"] ["script", "k"] (defScope s_cell_at) := ⟨rfl, rfl, rfl, by decide +kernel, rfl, by decide +kernel, by decide +kernel⟩
abbrev s_names : Stmt := top 11
theorem sc_names : FnScope ["cell", "many", "base", "left", "k", "place", "found", "turn"] ["cell", "many"] (defScope s_names) := ⟨rfl, rfl, rfl, by decide +kernel, rfl, by decide +kernel, by decide +kernel⟩
abbrev s_next : Stmt := top 12
theorem sc_next : FnScope ["script", "spot"] ["script", "spot"] (defScope s_next) := ⟨rfl, rfl, rfl, by decide +kernel, rfl, by decide +kernel, by decide +kernel⟩
abbrev s_saying : Stmt := top 13
theorem sc_saying : FnScope ["script", "spot", "names", "counts", "params", "deep", "cell", "kind", "parts_v", "to", "row"] ["script", "spot", "names", "counts", "params", "deep"] (defScope s_saying) := ⟨rfl, rfl, rfl, by decide +kernel, rfl, by decide +kernel, by decide +kernel⟩
abbrev s_drawn : Stmt := top 14
theorem sc_drawn : FnScope ["script", "spot", "most", "deep", "head", "many", "names", "params", "counts", "program", "k", "mine"] ["script", "spot", "most", "deep"] (defScope s_drawn) := ⟨rfl, rfl, rfl, by decide +kernel, rfl, by decide +kernel, by decide +kernel⟩
abbrev s_path : Stmt := top 15
theorem sc_path : FnScope ["cell", "params", "saying", "k"] ["cell", "params"] (defScope s_path) := ⟨rfl, rfl, rfl, by decide +kernel, rfl, by decide +kernel, by decide +kernel⟩
abbrev s_arg : Stmt := top 16
theorem sc_arg : FnScope ["cell", "params"] ["cell", "params"] (defScope s_arg) := ⟨rfl, rfl, rfl, by decide +kernel, rfl, by decide +kernel, by decide +kernel⟩
abbrev s_send : Stmt := top 17
theorem sc_send : FnScope ["script", "spot", "names", "counts", "params", "to"] ["script", "spot", "names", "counts", "params"] (defScope s_send) := ⟨rfl, rfl, rfl, by decide +kernel, rfl, by decide +kernel, by decide +kernel⟩
abbrev s_body : Stmt := top 18
theorem sc_body : FnScope ["script", "spot", "names", "counts", "params", "shape", "inner", "other", "row", "last"] ["script", "spot", "names", "counts", "params"] (defScope s_body) := ⟨rfl, rfl, rfl, by decide +kernel, rfl, by decide +kernel, by decide +kernel⟩
abbrev s_program : Stmt := top 19
theorem sc_program : FnScope ["script", "spot", "most", "head", "many", "names", "params", "counts", "program", "k", "mine"] ["script", "spot", "most"] (defScope s_program) := ⟨rfl, rfl, rfl, by decide +kernel, rfl, by decide +kernel, by decide +kernel⟩
abbrev s_is_graph : Stmt := top 20
theorem sc_is_graph : FnScope ["found", "row", "told"] ["found"] (defScope s_is_graph) := ⟨rfl, rfl, rfl, by decide +kernel, rfl, by decide +kernel, by decide +kernel⟩
abbrev s_prefixes : Stmt := top 21
theorem sc_prefixes : FnScope ["saying", "steps", "path", "found", "step"] ["saying"] (defScope s_prefixes) := ⟨rfl, rfl, rfl, by decide +kernel, rfl, by decide +kernel, by decide +kernel⟩
abbrev s_told : Stmt := top 22
theorem sc_told : FnScope ["param", "saying", "known", "found"] ["param", "saying", "known"] (defScope s_told) := ⟨rfl, rfl, rfl, by decide +kernel, rfl, by decide +kernel, by decide +kernel⟩
abbrev s_graphs_in : Stmt := top 23
theorem sc_graphs_in : FnScope ["errand", "saying", "known", "found", "rows", "one", "k", "more"] ["errand", "saying", "known"] (defScope s_graphs_in) := ⟨rfl, rfl, rfl, by decide +kernel, rfl, by decide +kernel, by decide +kernel⟩
abbrev s_graphs_l : Stmt := top 24
theorem sc_graphs_l : FnScope ["program", "found", "errand"] ["program"] (defScope s_graphs_l) := ⟨rfl, rfl, rfl, by decide +kernel, rfl, by decide +kernel, by decide +kernel⟩
abbrev s_law : Stmt := top 25
theorem sc_law : FnScope ["script", "program", "kept", "due", "found"] ["script"] (defScope s_law) := ⟨rfl, rfl, rfl, by decide +kernel, rfl, by decide +kernel, by decide +kernel⟩
structure Gs (K : PySem.W.Frag) (mg : Str → Option Value) : Prop where
  len : mg "len" = none
  range : mg "range" = none
  isinstance : mg "isinstance" = none
  str : mg "str" = none
  tuple : mg "tuple" = none
  list : mg "list" = none
  int : mg "int" = none
  bool : mg "bool" = none
  reversed : mg "reversed" = none
  all : mg "all" = none
  any : mg "any" = none
section
variable {P : Program} {w : World} {K : PySem.W.Frag} {mg : Str → Option Value} {base : Heap} {adr : Rf → Addr}
/-- the k-th cell, nought where there is none -/
def cellAt (ns : List Int) (k : Int) : Int := ns.getD k.toNat 0
def sp_cell_at : Sp3 := vS fun ds q => ∃ (ns : List Int) (k : Int), ds = [.rol (ns.map D.int), .int k] ∧ 0 ≤ k ∧ q (.int (cellAt ns k))
theorem ok_cell_at {k : Nat} (h : Has K mg "_law_cell_at" s_cell_at ["script", "k"]) (G : Gs K mg) : Cal3 P w K mg base (k + 1) "_law_cell_at" ["script", "k"] sp_cell_at := by
  refine h.val sc_cell_at (fun ds q ⟨ns, k, e, _⟩ => by rw [e]; rfl) fun f cdv A outer s H E ds q hr ⟨ns, k, e, h0, hq⟩ => ?_
  subst e
  refine ⟨_, (s_cons (s_if (t_cmp op_lt dn_intB (e_v 1) (e_callB call_len_seq dn_len rfl G.len PySem.boot_len (a_cons (e_v 0) a_nil)) (nomark _)) (s_one (s_ret (e_ix ix_list dn_ixL (e_v 0) (e_v 1) (fun _ _ => rfl)))) s_nil)
 (s_one (s_ret e_int))), ?_⟩
  decreasing_trivial
  have hl : (ns.map D.int).length = ns.length := List.length_map _
  refine iteD2 (fun c => ?_) (fun c => ?_)
  · rw [hl] at c
    have hk : k.toNat < ns.length := by omega
    decreasing_trivial
    refine j_ixR (atI_of h0 (v := .int (cellAt ns k)) ?_) hq
    rw [List.getElem?_map, List.getElem?_eq_getElem hk]
    simp [cellAt, List.getD_eq_getElem?_getD, List.getElem?_eq_getElem hk]
  · rw [hl] at c
    have hk : ns.length ≤ k.toNat := by omega
    decreasing_trivial
    have e : cellAt ns k = 0 := by simp [cellAt, List.getD_eq_getElem?_getD, List.getElem?_eq_none hk]
    rw [e] at hq
    exact hq

def sp_next : Sp3 := wrV fun ds S q => ∃ (ns : List Int) (sp : Addr) (i : Int) (rs : List D), ds = [.rol (ns.map D.int), .ref sp] ∧ S sp = some (.lst (.int i :: rs)) ∧ 0 ≤ i ∧ q (.int (cellAt ns i)) sp (.lst (.int (i + 1) :: rs))
theorem ok_next {k : Nat} (h : Has K mg "_law_next" s_next ["script", "spot"]) (C_cell_at : Cal3 P w K mg base k "_law_cell_at" ["script", "k"] sp_cell_at) : Cal3 P w K mg base (k + 1) "_law_next" ["script", "spot"] sp_next := by
  refine h.wrV sc_next (fun ds S q ⟨ns, sp, i, rs, e, _⟩ => by rw [e]; rfl) fun f cdv A outer s H E ds S q hr ⟨ns, sp, i, rs, e, hS, hi, hq⟩ => ?_
  subst e
  refine ⟨_, (s_cons (s_asg (e_op op_add dn_int (e_ix ix_list dn_ixL (e_v 1) e_int (fun _ _ => rfl)) e_int) (g_sub (e_v 1) e_int))
 (s_one (s_ret (e_call C_cell_at hr rfl (a_cons (e_v 0) (a_cons (e_op op_sub dn_int (e_ix ix_list dn_ixL (e_v 1) e_int (fun _ _ => rfl)) e_int) a_nil)))))), ?_⟩
  decreasing_trivial
  refine ⟨ns, i + 1 - 1, rfl, by omega, sp, _, Sub.refl _, ?_⟩
  have e : i + 1 - 1 = i := by omega
  rw [e]
  exact hq

def sp_names : Sp3 := lSt fun ds q => ∃ c n : Int, ds = [.int c, .int n] ∧ 0 ≤ c ∧ 1 ≤ n ∧ n ≤ 12 ∧ ∀ xs : List Str, Row n.toNat xs → q (xs.map D.str)
theorem ok_names {k : Nat} (h : Has K mg "_law_names" s_names ["cell", "many"]) (G : Gs K mg) : Cal3 P w K mg base (k + 1) "_law_names" ["cell", "many"] sp_names := by
  refine h.lst sc_names (fun ds q ⟨c, n, e, _⟩ => by rw [e]; rfl) fun f cdv A outer s H E ds q hr ⟨c, n, e, hc, hn1, hn2, hq⟩ => ?_
  subst e
  refine ⟨_, (s_cons (s_set (i := 2) sc_names.nd rfl (Or.inr rfl) e_str)
 (s_cons (s_set (i := 3) sc_names.nd rfl (Or.inl rfl) (e_op op_fdiv dn_intC (e_v 0) e_int))
 (s_cons (s_for PassesOwn.never rfl (i_range1 rfl G.range (a_cons (e_op op_mod dn_intC (e_v 0) e_int) a_nil)) (g_name (i := 4) sc_names.nd rfl (Or.inl rfl)) (s_cons (s_set (i := 2) sc_names.nd rfl (Or.inr rfl) (e_op op_add_str dn_addS (e_v 2) (e_ix ix_str dn_ixS e_str (e_op op_mod dn_intC (e_v 3) e_int) (fun _ _ => rfl))))
 (s_one (s_set (i := 3) sc_names.nd rfl (Or.inl rfl) (e_op op_fdiv dn_intC (e_v 3) e_int)))))
 (s_cons (s_set (i := 5) sc_names.nd rfl (Or.inr rfl) (e_op op_mod dn_intC (e_op op_fdiv dn_intC (e_v 0) e_int) (e_op op_add dn_int (e_callB call_len_str dn_lenS rfl G.len PySem.boot_len (a_cons (e_v 2) a_nil)) e_int)))
 (s_cons (s_comp (i := 6) (osc := defScope s_names) (N := ["cell", "many", "base", "left", "k", "place", "found", "turn"]) (M := ["base", "place"]) (js := [2, 5]) ⟨rfl, by decide +kernel, by decide +kernel, rfl, by decide +kernel, by decide +kernel, by decide +kernel⟩ (by decide +kernel) rfl (i_range1 rfl G.range (a_cons (e_v 1) a_nil)) (fun _ _ _ _ _ => (e_op op_add_str dn_addS (e_op op_add_str dn_addS (e_slice sl_str dn_slS (e_v 1) p_none (p_some (e_v 2))) (e_ix ix_str dn_ixS e_str (e_v 0) (fun _ _ => rfl))) (e_slice sl_str dn_slS (e_v 1) (p_some (e_v 2)) p_none))) sc_names.nd rfl rfl)
 (s_cons (s_if (PW3.pt (w_and (t_cmp op_lt dn_intB (e_v 1) e_int (nomark _)) (w_and1 (t_cmp op_eq dn_eqI (e_op op_mod dn_intC (e_op op_fdiv dn_intC (e_v 0) e_int) e_int) e_int (nomark _))))) (s_one (s_comp (i := 6) (osc := defScope s_names) (N := ["cell", "many", "base", "left", "k", "place", "found", "turn"]) (M := ["base"]) (js := [2]) ⟨rfl, by decide +kernel, by decide +kernel, rfl, by decide +kernel, by decide +kernel, by decide +kernel⟩ (by decide +kernel) rfl (i_range1 rfl G.range (a_cons (e_v 1) a_nil)) (fun _ _ _ _ _ => (e_op op_add_str dn_addS (e_slice sl_str dn_slS (e_v 1) p_none (p_some e_int)) (e_slice sl_str dn_slS e_str p_none (p_some (e_op op_add dn_int (e_v 0) e_int))))) sc_names.nd rfl rfl)) s_nil)
 (s_cons (s_if (PW3.pt (w_and (t_cmp op_lt dn_intB (e_v 1) e_int (nomark _)) (w_and1 (t_cmp op_eq dn_eqI (e_op op_mod dn_intC (e_op op_fdiv dn_intC (e_v 0) e_int) e_int) e_int (nomark _))))) (s_one (s_comp (i := 6) (osc := defScope s_names) (N := ["cell", "many", "base", "left", "k", "place", "found", "turn"]) (M := ["base"]) (js := [2]) ⟨rfl, by decide +kernel, by decide +kernel, rfl, by decide +kernel, by decide +kernel, by decide +kernel⟩ (by decide +kernel) rfl (i_range1 rfl G.range (a_cons (e_v 1) a_nil)) (fun _ _ _ _ _ => (e_op op_add_str dn_addS (e_slice sl_str dn_slS e_str (p_some (e_op op_sub dn_int e_int (e_v 0))) p_none) (e_slice sl_str dn_slS (e_v 1) p_none (p_some e_int)))) sc_names.nd rfl rfl)) s_nil)
 (s_cons (s_set (i := 7) sc_names.nd rfl (Or.inl rfl) (e_op op_mod dn_intC (e_op op_fdiv dn_intC (e_v 0) e_int) (e_v 1)))
 (s_one (s_ret (e_op op_cat dn_catL (e_slice sl_list dn_slL (e_v 6) (p_some (e_v 7)) p_none) (e_slice sl_list dn_slL (e_v 6) p_none (p_some (e_v 7)))))))))))))), ?_⟩
  decreasing_trivial
  refine ⟨fun i σ S => ∃ (lf : Int) (cs : List Nat) (x4 : Option D), σ = [some (.int c), some (.int n), some (.str (textOf cs)), some (.int lf), x4, none, none, none] ∧ cs.length = i ∧ Letters cs ∧ S = emp,
    ⟨_, [], none, rfl, rfl, fun c hc => by simp at hc, rfl⟩, fun _ _ _ _ => trivial, ?turn, ?done⟩
  case turn =>
    rintro i d σ S hd ⟨lf, cs, x4, rfl, hl, hL, rfl⟩
    obtain ⟨hi, rfl⟩ := nums_at hd
    have m26 := Int.emod_lt_of_pos lf (show (0 : Int) < 26 by decide)
    have n26 := Int.emod_nonneg lf (show (26 : Int) ≠ 0 by decide)
    decreasing_trivial
    refine j_ixS (cp := 97 + (lf % 26).toNat) ?_ ?_ ?_
    · rw [s_alpha, textOf_len]; decide
    · rw [s_alpha, textOf_codes]
      exact at_alpha n26 m26
    refine j_addS (y := textOf [97 + (lf % 26).toNat]) ?_ ?_
    · rw [textOf_len, textOf_len]
      refine small_le ?_
      simp only [List.length_cons, List.length_nil]
      omega
    rw [textOf_cat]
    decreasing_trivial
    refine ⟨_, cs ++ [97 + (lf % 26).toNat], _, rfl, by simp [hl], fun d hd => ?_, rfl⟩
    rcases List.mem_append.mp hd with hd | hd
    · exact hL d hd
    · simp at hd
      omega
  rintro σ S ⟨lf, cs, x4, rfl, hl, hL, rfl⟩
  rw [nums_len] at hl
  have hl7 : cs.length ≤ 7 := by omega
  have lz : ∀ ds : List Nat, ds.length ≤ 100 → (textOf ds).length ≤ sizeLine := fun ds h => by rw [textOf_len]; exact small_le (by omega)
  have hz := lz cs (by omega)
  decreasing_trivial
  rw [textOf_len]
  have p0 := Int.emod_nonneg (c / 11) (show ((cs.length : Int) + 1) ≠ 0 by omega)
  obtain ⟨pl, epl⟩ : ∃ pl, (c / 11) % ((cs.length : Int) + 1) = pl := ⟨_, rfl⟩
  rw [epl] at p0 ⊢
  refine comp_map (fun k => .str (textOf (nm1 cs pl.toNat k))) (by rw [nums_len]; omega) trivial ?e1 ?_
  case e1 =>
    intro i d hd P hP
    obtain ⟨hi, rfl⟩ := nums_at hd
    decreasing_trivial
    refine j_slS hz ?_
    rw [textOf_codes, cutT_to p0]
    decreasing_trivial
    refine j_ixS (cp := 97 + i) ?_ ?_ ?_
    · rw [s_alpha12, textOf_len]; decide
    · rw [s_alpha12, textOf_codes, at_alpha (by omega) (by omega)]
      simp
    refine j_addS (y := textOf [97 + i]) ?_ ?_
    · rw [textOf_len, textOf_len, List.length_take]
      exact small_le (by simp only [List.length_cons, List.length_nil]; omega)
    rw [textOf_cat]
    decreasing_trivial
    refine j_slS hz ?_
    rw [textOf_codes, cutT_from p0]
    refine j_addS ?_ ?_
    · rw [textOf_len, textOf_len, List.length_append, List.length_take, List.length_drop]
      exact small_le (by simp only [List.length_cons, List.length_nil]; omega)
    rw [textOf_cat]
    exact hP
  rw [nums_len]
  intro D1 hD1
  have m1 : ∀ f : Nat → List Nat, ((List.range n.toNat).map fun k => D.str (textOf (f k))) = ((List.range n.toNat).map fun k => textOf (f k)).map D.str := fun f => by rw [List.map_map]; rfl
  rw [m1]
  have R1 : Row n.toNat ((List.range n.toNat).map fun k => textOf (nm1 cs pl.toNat k)) := row1 hL hl7 (by omega)
  -- the tail, from any row
  by_cases h5 : n < 5
  case' neg =>
    decreasing_trivial
    generalize hxs : ((List.range n.toNat).map fun k => textOf (nm1 cs pl.toNat k)) = xs at *
    generalize hS3 : up emp D1 (.lst (xs.map D.str)) = S3
    have hD3 : S3 D1 = some (.lst (xs.map D.str)) := by rw [← hS3]; exact up_same
  case' pos =>
    by_cases e1 : c / 17 % 3 = 1
    case' pos =>
      have e2 : ¬ c / 17 % 3 = 2 := by omega
      decreasing_trivial
      refine comp_map (fun k => .str (textOf (nm2 cs k))) (by rw [nums_len]; omega) trivial ?e2 ?_
      case e2 =>
        intro i d hd P hP
        obtain ⟨hi, rfl⟩ := nums_at hd
        decreasing_trivial
        refine j_slS hz ?_
        rw [textOf_codes, cutT_to (by decide)]
        decreasing_trivial
        refine j_slS (by rw [s_abcd]; exact lz _ (by decide)) ?_
        rw [s_abcd, textOf_codes, cutT_to (by omega)]
        have ei : ((0 : Int) + (i : Int) + 1).toNat = i + 1 := by omega
        rw [ei]
        refine j_addS ?_ ?_
        · rw [textOf_len, textOf_len, List.length_take, List.length_take]
          exact small_le (by omega)
        rw [textOf_cat]
        exact hP
      rw [nums_len]
      intro D2 hD2
      rw [m1]
      have R2 : Row n.toNat ((List.range n.toNat).map fun k => textOf (nm2 cs k)) := row2 hL (by omega)
      decreasing_trivial
      clear R1
      generalize hxs : ((List.range n.toNat).map fun k => textOf (nm2 cs k)) = xs at *
      generalize hS3 : up _ D2 (.lst (xs.map D.str)) = S3
      have hD3 : S3 D2 = some (.lst (xs.map D.str)) := by rw [← hS3]; exact up_same
    case' neg =>
      by_cases e2 : c / 17 % 3 = 2
      case' pos =>
        decreasing_trivial
        refine comp_map (fun k => .str (textOf (nm3 cs k))) (by rw [nums_len]; omega) trivial ?e3 ?_
        case e3 =>
          intro i d hd P hP
          obtain ⟨hi, rfl⟩ := nums_at hd
          decreasing_trivial
          refine j_slS (by rw [s_abcd]; exact lz _ (by decide)) ?_
          rw [s_abcd, textOf_codes, cutT_from (by omega)]
          have ei : ((3 : Int) - (0 + (i : Int))).toNat = 3 - i := by omega
          rw [ei]
          decreasing_trivial
          refine j_slS hz ?_
          rw [textOf_codes, cutT_to (by decide)]
          refine j_addS ?_ ?_
          · rw [textOf_len, textOf_len, List.length_take, List.length_drop]
            exact small_le (by simp only [List.length_cons, List.length_nil]; omega)
          rw [textOf_cat]
          exact hP
        rw [nums_len]
        intro D2 hD2
        rw [m1]
        have R2 : Row n.toNat ((List.range n.toNat).map fun k => textOf (nm3 cs k)) := row3 hL (by omega)
        decreasing_trivial
        clear R1
        generalize hxs : ((List.range n.toNat).map fun k => textOf (nm3 cs k)) = xs at *
        generalize hS3 : up _ D2 (.lst (xs.map D.str)) = S3
        have hD3 : S3 D2 = some (.lst (xs.map D.str)) := by rw [← hS3]; exact up_same
      case' neg =>
        decreasing_trivial
        generalize hxs : ((List.range n.toNat).map fun k => textOf (nm1 cs pl.toNat k)) = xs at *
        generalize hS3 : up emp D1 (.lst (xs.map D.str)) = S3
        have hD3 : S3 D1 = some (.lst (xs.map D.str)) := by rw [← hS3]; exact up_same
  all_goals
    have R : Row n.toNat xs := by assumption
    have t0 := Int.emod_nonneg (c / 13) (show n ≠ 0 by omega)
    decreasing_trivial
    rw [cutD_from t0]
    intro p1 hp1
    have hD4 := up_get (o := .lst ((xs.map D.str).drop (c / 13 % n).toNat)) hD3 hp1
    decreasing_trivial
    rw [cutD_to t0]
    intro p2 hp2
    have hxl := R.len
    refine j_catL (up_get up_same hp2) up_same ?_ ?_
    · rw [List.length_drop, List.length_take, List.length_map]
      exact small_le (by omega)
    intro r hr'
    refine ⟨r, _, rfl, up_same, ?_⟩
    have := hq _ (R.turn (t := (c / 13 % n).toNat))
    rw [List.map_append, List.map_drop, List.map_take] at this
    exact this

def sp_parts : Sp3 := vS fun ds q => ∃ s : Sy, ds = [s.d] ∧ q (.tup (s.parts.map Sy.d))
theorem ok_parts {k : Nat} (h : Has K mg "parts" s_parts ["saying"]) (G : Gs K mg) : Cal3 P w K mg base (k + 1) "parts" ["saying"] sp_parts := by
  refine h.val sc_parts (fun ds q ⟨s, e, _⟩ => by rw [e]; rfl) fun f cdv A outer s0 H E ds q hr hA => ?_
  obtain ⟨s, rfl, hq⟩ := hA
  refine ⟨_, (s_cons (s_if (t_cmp op_in_seq dn_in (e_ix ix_tup dn_ixT (e_v 0) e_int (fun _ _ => rfl)) (e_tup (a_cons e_str (a_cons e_str a_nil))) (by with_unfolding_all rfl)) (s_one (s_ret (e_tup a_nil))) s_nil)
 (s_cons (s_if (t_cmp op_eq dn_eqS (e_ix ix_tup dn_ixT (e_v 0) e_int (fun _ _ => rfl)) e_str (nomark _)) (s_one (s_ret (e_ix ix_tup dn_ixT (e_v 0) e_int (fun _ _ => rfl)))) s_nil)
 (s_one (s_ret (e_slice sl_tupA dn_slT (e_v 0) (p_some e_int) p_none))))), ?_⟩
  cases s with
  | name x =>
    simp only [Sy.d]
    decreasing_trivial
    exact hq
  | bud =>
    simp only [Sy.d]
    decreasing_trivial
    exact hq
  | pair a b =>
    simp only [Sy.d]
    decreasing_trivial
    exact hq
  | left a =>
    simp only [Sy.d]
    decreasing_trivial
    exact hq
  | right a =>
    simp only [Sy.d]
    decreasing_trivial
    exact hq
  | fork a b c =>
    simp only [Sy.d]
    decreasing_trivial
    exact hq
  | send x as =>
    simp only [Sy.d]
    decreasing_trivial
    rw [Sy.ds_map]
    exact hq

def sp_path_parameter : Sp3 := vS fun ds q => ∃ s : Sy, ds = [s.d] ∧ q (optD s.base)
theorem ok_path_parameter {k : Nat} (h : Has K mg "path_parameter" s_path_parameter ["saying"]) (G : Gs K mg) : Cal3 P w K mg base (k + 1) "path_parameter" ["saying"] sp_path_parameter := by
  refine h.val sc_path_parameter (fun ds q ⟨s, e, _⟩ => by rw [e]; rfl) fun f cdv A outer s0 H E ds q hr hA => ?_
  obtain ⟨s, rfl, hq⟩ := hA
  refine ⟨_, (s_cons (s_set (i := 1) sc_path_parameter.nd rfl (Or.inl rfl) (e_v 0))
 (s_cons (s_while PassesOwn.never (t_cmp op_in_seq dn_in (e_ix ix_tup dn_ixT (e_v 1) e_int (fun _ _ => rfl)) (e_tup (a_cons e_str (a_cons e_str a_nil))) (by with_unfolding_all rfl)) (s_one (s_set (i := 1) sc_path_parameter.nd rfl (Or.inl rfl) (e_ix ix_tup dn_ixT (e_v 1) e_int (fun _ _ => rfl)))))
 (s_one (s_ret (e_ifExp (t_cmp op_eq dn_eqS (e_ix ix_tup dn_ixT (e_v 1) e_int (fun _ _ => rfl)) e_str (nomark _)) (e_ix ix_tup dn_ixT (e_v 1) e_int (fun _ _ => rfl)) e_non))))), ?_⟩
  decreasing_trivial
  refine j_while (fun m σ S => ∃ r : Sy, σ = [some s.d, some r.d] ∧ r.base = s.base ∧ m = r.deep) _ ⟨s, rfl, rfl, rfl⟩ ?_
  rintro m σ S ⟨r, rfl, hb, rfl⟩
  rw [← hb] at hq
  cases r with
  | left a =>
    simp only [Sy.d]
    decreasing_trivial
    exact ⟨a.deep, by simp only [Sy.deep]; omega, a, rfl, hb, rfl⟩
  | right a =>
    simp only [Sy.d]
    decreasing_trivial
    exact ⟨a.deep, by simp only [Sy.deep]; omega, a, rfl, hb, rfl⟩
  | name x =>
    simp only [Sy.d]
    decreasing_trivial
    exact hq
  | bud =>
    simp only [Sy.d]
    decreasing_trivial
    exact hq
  | pair a b =>
    simp only [Sy.d]
    decreasing_trivial
    exact hq
  | fork a b c =>
    simp only [Sy.d]
    decreasing_trivial
    exact hq
  | send x as =>
    simp only [Sy.d]
    decreasing_trivial
    exact hq

def sp_told_number : Sp3 := vS fun ds q => ∃ (p : Str) (s : Sy) (k : List Str), ds = [.str p, s.d, .tup (k.map D.str)] ∧ q (.int (toldN p s k))
theorem ok_told_number {k : Nat} (h : Has K mg "told_number" s_told_number ["param", "saying", "known"]) (G : Gs K mg) (C_path_parameter : Cal3 P w K mg base k "path_parameter" ["saying"] sp_path_parameter) :
    Cal3 P w K mg base (k + 1) "told_number" ["param", "saying", "known"] sp_told_number := by
  refine h.val sc_told_number (fun ds q ⟨_, _, _, e, _⟩ => by rw [e]; rfl) fun f cdv A outer s0 H E ds q hr hA => ?_
  obtain ⟨p, s, kn, rfl, hq⟩ := hA
  refine ⟨_, (s_cons (s_if (PW3.pt (w_and (t_cmp op_ne dn_neS (e_ix ix_tup dn_ixT (e_v 1) e_int (fun _ _ => rfl)) e_str (nomark _)) (w_and1 (t_cmp op_ne dn_neO (e_call C_path_parameter hr rfl (a_cons (e_v 1) a_nil)) (e_v 0) (nomark _))))) (s_one (s_ret e_int)) s_nil)
 (s_cons (s_if (PW3.pt (w_or (t_cmp op_eq dn_eqS (e_ix ix_tup dn_ixT (e_v 1) e_int (fun _ _ => rfl)) e_str (nomark _)) (w_or1 (t_cmp op_notIn_seq dn_in (e_v 0) (e_v 2) (by with_unfolding_all rfl))))) (s_one (s_ret e_int)) s_nil)
 (s_one (s_ret e_int)))), ?_⟩
  by_cases hk : p ∈ kn
  · cases s with
    | bud =>
      simp only [Sy.d]
      decreasing_trivial
      simpa [toldN, hk] using hq
    | name x =>
      by_cases hs : Sy.base (.name x) = some p
      · simp only [Sy.d]
        decreasing_trivial
        refine ⟨(.name x), rfl, ?_⟩
        decreasing_trivial
        have hs' := hs
        simp only [Sy.base, Option.some.injEq] at hs'
        simpa [toldN, hs'] using hq
      · simp only [Sy.d]
        decreasing_trivial
        refine ⟨(.name x), rfl, ?_⟩
        decreasing_trivial
        have hs' := hs
        simp only [Sy.base, Option.some.injEq] at hs'
        simpa [toldN, hs'] using hq
    | pair a b =>
      by_cases hs : Sy.base (.pair a b) = some p
      · simp only [Sy.d]
        decreasing_trivial
        refine ⟨(.pair a b), rfl, ?_⟩
        decreasing_trivial
        simpa [toldN, hs, hk] using hq
      · simp only [Sy.d]
        decreasing_trivial
        refine ⟨(.pair a b), rfl, ?_⟩
        decreasing_trivial
        simpa [toldN, hs, hk] using hq
    | left a =>
      by_cases hs : Sy.base (.left a) = some p
      · simp only [Sy.d]
        decreasing_trivial
        refine ⟨(.left a), rfl, ?_⟩
        decreasing_trivial
        simpa [toldN, hs, hk] using hq
      · simp only [Sy.d]
        decreasing_trivial
        refine ⟨(.left a), rfl, ?_⟩
        decreasing_trivial
        simpa [toldN, hs, hk] using hq
    | right a =>
      by_cases hs : Sy.base (.right a) = some p
      · simp only [Sy.d]
        decreasing_trivial
        refine ⟨(.right a), rfl, ?_⟩
        decreasing_trivial
        simpa [toldN, hs, hk] using hq
      · simp only [Sy.d]
        decreasing_trivial
        refine ⟨(.right a), rfl, ?_⟩
        decreasing_trivial
        simpa [toldN, hs, hk] using hq
    | fork a b c =>
      by_cases hs : Sy.base (.fork a b c) = some p
      · simp only [Sy.d]
        decreasing_trivial
        refine ⟨(.fork a b c), rfl, ?_⟩
        decreasing_trivial
        simpa [toldN, hs, hk] using hq
      · simp only [Sy.d]
        decreasing_trivial
        refine ⟨(.fork a b c), rfl, ?_⟩
        decreasing_trivial
        simpa [toldN, hs, hk] using hq
    | send x as =>
      by_cases hs : Sy.base (.send x as) = some p
      · simp only [Sy.d]
        decreasing_trivial
        refine ⟨(.send x as), rfl, ?_⟩
        decreasing_trivial
        simpa [toldN, hs, hk] using hq
      · simp only [Sy.d]
        decreasing_trivial
        refine ⟨(.send x as), rfl, ?_⟩
        decreasing_trivial
        simpa [toldN, hs, hk] using hq
  · cases s with
    | bud =>
      simp only [Sy.d]
      decreasing_trivial
      simpa [toldN, hk] using hq
    | name x =>
      by_cases hs : Sy.base (.name x) = some p
      · simp only [Sy.d]
        decreasing_trivial
        refine ⟨(.name x), rfl, ?_⟩
        decreasing_trivial
        have hs' := hs
        simp only [Sy.base, Option.some.injEq] at hs'
        simpa [toldN, hs'] using hq
      · simp only [Sy.d]
        decreasing_trivial
        refine ⟨(.name x), rfl, ?_⟩
        decreasing_trivial
        have hs' := hs
        simp only [Sy.base, Option.some.injEq] at hs'
        simpa [toldN, hs'] using hq
    | pair a b =>
      by_cases hs : Sy.base (.pair a b) = some p
      · simp only [Sy.d]
        decreasing_trivial
        refine ⟨(.pair a b), rfl, ?_⟩
        decreasing_trivial
        simpa [toldN, hs, hk] using hq
      · simp only [Sy.d]
        decreasing_trivial
        refine ⟨(.pair a b), rfl, ?_⟩
        decreasing_trivial
        simpa [toldN, hs, hk] using hq
    | left a =>
      by_cases hs : Sy.base (.left a) = some p
      · simp only [Sy.d]
        decreasing_trivial
        refine ⟨(.left a), rfl, ?_⟩
        decreasing_trivial
        simpa [toldN, hs, hk] using hq
      · simp only [Sy.d]
        decreasing_trivial
        refine ⟨(.left a), rfl, ?_⟩
        decreasing_trivial
        simpa [toldN, hs, hk] using hq
    | right a =>
      by_cases hs : Sy.base (.right a) = some p
      · simp only [Sy.d]
        decreasing_trivial
        refine ⟨(.right a), rfl, ?_⟩
        decreasing_trivial
        simpa [toldN, hs, hk] using hq
      · simp only [Sy.d]
        decreasing_trivial
        refine ⟨(.right a), rfl, ?_⟩
        decreasing_trivial
        simpa [toldN, hs, hk] using hq
    | fork a b c =>
      by_cases hs : Sy.base (.fork a b c) = some p
      · simp only [Sy.d]
        decreasing_trivial
        refine ⟨(.fork a b c), rfl, ?_⟩
        decreasing_trivial
        simpa [toldN, hs, hk] using hq
      · simp only [Sy.d]
        decreasing_trivial
        refine ⟨(.fork a b c), rfl, ?_⟩
        decreasing_trivial
        simpa [toldN, hs, hk] using hq
    | send x as =>
      by_cases hs : Sy.base (.send x as) = some p
      · simp only [Sy.d]
        decreasing_trivial
        refine ⟨(.send x as), rfl, ?_⟩
        decreasing_trivial
        simpa [toldN, hs, hk] using hq
      · simp only [Sy.d]
        decreasing_trivial
        refine ⟨(.send x as), rfl, ?_⟩
        decreasing_trivial
        simpa [toldN, hs, hk] using hq

def sp_told_row : Sp3 := vS fun ds q => ∃ (p : Str) (as : List Sy) (k : List Str), ds = [.str p, .tup (as.map Sy.d), .tup (k.map D.str)] ∧ as.length ≤ 1000 ∧ q (rowD (as.map fun a => toldN p a k))
theorem ok_told_row {k : Nat} (h : Has K mg "told_row" s_told_row ["param", "sayings", "known"]) (G : Gs K mg) (C_told_number : Cal3 P w K mg base k "told_number" ["param", "saying", "known"] sp_told_number) :
    Cal3 P w K mg base (k + 1) "told_row" ["param", "sayings", "known"] sp_told_row := by
  refine h.val sc_told_row (fun ds q ⟨_, _, _, e, _⟩ => by rw [e]; rfl) fun f cdv A outer s0 H E ds q hr hA => ?_
  obtain ⟨p, as, kn, rfl, hl, hq⟩ := hA
  refine ⟨_, (s_one (s_ret (e_callTy call_tuple_of dn_toTup rfl G.tuple boot_tuple (a_cons (e_comp (osc := defScope s_told_row) (N := ["param", "sayings", "known"]) (M := ["param", "known"]) (js := [0, 2]) ⟨rfl, by decide +kernel, by decide +kernel, rfl, by decide +kernel, by decide +kernel, by decide +kernel⟩ (by decide +kernel) rfl (i_tup (e_v 1)) (fun _ _ _ _ _ => (e_call C_told_number hr rfl (a_cons (e_v 1) (a_cons (e_v 0) (a_cons (e_v 2) a_nil)))))) a_nil)))), ?_⟩
  decreasing_trivial
  refine comp_map (fun i => .int (toldN p (as.getD i .bud) kn)) (by rw [List.length_map]; omega) trivial ?_ ?_
  · intro i d hd P hP
    rw [List.getElem?_map] at hd
    obtain ⟨a, ha, rfl⟩ := Option.map_eq_some_iff.mp hd
    rw [List.getD_eq_getElem?_getD, ha] at hP
    decreasing_trivial
    exact ⟨p, a, kn, rfl, hP⟩
  have el : ((List.range (as.map Sy.d).length).map fun i => D.int (toldN p (as.getD i .bud) kn)) = (as.map fun a => toldN p a kn).map D.int := by
    rw [List.length_map, List.map_map]
    apply List.ext_getElem?
    intro i
    rw [List.getElem?_map, List.getElem?_map]
    by_cases hi : i < as.length
    · rw [List.getElem?_range hi, List.getElem?_eq_getElem hi]
      simp [List.getD_eq_getElem?_getD, hi]
    · rw [List.getElem?_eq_none (by simpa using hi), List.getElem?_eq_none (by omega)]
      rfl
  rw [el]
  intro p1 hp1
  decreasing_trivial
  exact hq

def sp_placed_parts : Sp3 := lSt fun ds q => ∃ (s : Sy) (k : List Str), ds = [s.d, .tup (k.map D.str)] ∧ k.length ≤ 1000 ∧ s.parts.length ≤ 1000 ∧ q ((s.pp Sy.bases k).map ppD)
theorem ok_placed_parts {k : Nat} (h : Has K mg "placed_parts" s_placed_parts ["saying", "known"]) (G : Gs K mg) (C_parts : Cal3 P w K mg base k "parts" ["saying"] sp_parts) (C_path_parameter : Cal3 P w K mg base k "path_parameter" ["saying"] sp_path_parameter) :
    Cal3 P w K mg base (k + 1) "placed_parts" ["saying", "known"] sp_placed_parts := by
  refine h.lst sc_placed_parts (fun ds q ⟨_, _, e, _⟩ => by rw [e]; rfl) fun f cdv A outer s0 H E ds q hr hA => ?_
  obtain ⟨s, kn, rfl, hk, hp, hq⟩ := hA
  refine ⟨_, (s_cons (s_if (t_cmp op_ne dn_neS (e_ix ix_tup dn_ixT (e_v 0) e_int (fun _ _ => rfl)) e_str (nomark _)) (s_one (s_ret (e_comp (osc := defScope s_placed_parts) (N := ["saying", "known", "param", "inner"]) (M := ["known"]) (js := [1]) ⟨rfl, by decide +kernel, by decide +kernel, rfl, by decide +kernel, by decide +kernel, by decide +kernel⟩ (by decide +kernel) rfl (i_tup (e_call C_parts hr rfl (a_cons (e_v 0) a_nil))) (fun _ _ _ _ _ => (e_tup (a_cons (e_v 0) (a_cons (e_v 1) a_nil))))))) s_nil)
 (s_cons (s_set (i := 2) sc_placed_parts.nd rfl (Or.inl rfl) (e_call C_path_parameter hr rfl (a_cons (e_ix ix_tup dn_ixT (e_v 0) e_int (fun _ _ => rfl)) a_nil)))
 (s_cons (s_set (i := 3) sc_placed_parts.nd rfl (Or.inl rfl) (e_ifExp (t_cmp op_isN dn_isN (e_v 2) e_non (nomark _)) (e_v 1) (e_op op_catE dn_catE (e_v 1) (e_tup (a_cons (e_v 2) a_nil)))))
 (s_one (s_ret (e_lst (a_cons (e_tup (a_cons (e_ix ix_tup dn_ixT (e_v 0) e_int (fun _ _ => rfl)) (a_cons (e_v 1) a_nil))) (a_cons (e_tup (a_cons (e_ix ix_tup dn_ixT (e_v 0) e_int (fun _ _ => rfl)) (a_cons (e_v 3) a_nil))) (a_cons (e_tup (a_cons (e_ix ix_tup dn_ixT (e_v 0) e_int (fun _ _ => rfl)) (a_cons (e_v 1) a_nil))) a_nil))))))))), ?_⟩
  by_cases hf : ∃ a b c, s = .fork a b c
  · obtain ⟨a, b, c, rfl⟩ := hf
    simp only [Sy.d]
    decreasing_trivial
    refine ⟨a, rfl, ?_⟩
    cases hb : a.base with
    | none =>
      simp only [optD]
      decreasing_trivial
      intro p1 hp1
      decreasing_trivial
      refine ⟨p1, _, rfl, up_same, ?_⟩
      simpa [Sy.pp, ppD, Sy.bases, hb] using hq
    | some x =>
      simp only [optD]
      decreasing_trivial
      refine j_catE (by rw [List.length_map]; exact small_le (by simp; omega)) ?_
      decreasing_trivial
      intro p1 hp1
      decreasing_trivial
      refine ⟨p1, _, rfl, up_same, ?_⟩
      simpa [Sy.pp, ppD, Sy.bases, hb] using hq
  · have et : ∃ t r, s.d = .tup (.str t :: r) ∧ ¬ t = "fork" := by
      cases s <;> first | exact ⟨_, _, rfl, by decide⟩ | exact (hf ⟨_, _, _, rfl⟩).elim
    obtain ⟨t, r, ed, ht⟩ := et
    have ep : s.pp Sy.bases kn = s.parts.map fun a => (a, kn) := by
      cases s <;> first | rfl | exact (hf ⟨_, _, _, rfl⟩).elim
    have es : D.tup (.str t :: r) = s.d := ed.symm
    rw [ed]
    decreasing_trivial
    refine ⟨s, by rw [ed], ?_⟩
    decreasing_trivial
    refine comp_map (fun i => .tup [(s.parts.getD i .bud).d, .tup (kn.map D.str)]) (by rw [List.length_map]; omega) trivial ?_ ?_
    · intro i d hd P hP
      rw [List.getElem?_map] at hd
      obtain ⟨a, ha, rfl⟩ := Option.map_eq_some_iff.mp hd
      rw [List.getD_eq_getElem?_getD, ha] at hP
      decreasing_trivial
      exact hP
    have el : ((List.range (s.parts.map Sy.d).length).map fun i => D.tup [(s.parts.getD i .bud).d, .tup (kn.map D.str)]) = (s.pp Sy.bases kn).map ppD := by
      rw [List.length_map, ep, List.map_map]
      apply List.ext_getElem?
      intro i
      rw [List.getElem?_map, List.getElem?_map]
      by_cases hi : i < s.parts.length
      · rw [List.getElem?_range hi, List.getElem?_eq_getElem hi]
        simp [List.getD_eq_getElem?_getD, hi, ppD]
      · rw [List.getElem?_eq_none (by simpa using hi), List.getElem?_eq_none (by omega)]
        rfl
    rw [el]
    intro p1 hp1
    decreasing_trivial
    exact ⟨p1, _, rfl, up_same, hq⟩

def sp_placed_sends : Sp3 := lSt fun ds q => ∃ s : Sy, ds = [s.d] ∧ s.pre.length ≤ 100000 ∧ (∀ p ∈ s.plc Sy.bases [], p.2.length ≤ 1000 ∧ p.1.parts.length ≤ 1000) ∧ q (((s.plc Sy.bases []).filter fun p => p.1.nm.isSome).map ppD)
theorem ok_placed_sends {k : Nat} (h : Has K mg "placed_sends" s_placed_sends ["body"]) (G : Gs K mg) (C_placed_parts : Cal3 P w K mg base k "placed_parts" ["saying", "known"] sp_placed_parts) :
    Cal3 P w K mg base (k + 1) "placed_sends" ["body"] sp_placed_sends := by
  refine h.lst sc_placed_sends (fun ds q ⟨s, e, _⟩ => by rw [e]; rfl) fun f cdv A outer s0 H E ds q hr hA => ?_
  obtain ⟨s, rfl, hz, hk, hq⟩ := hA
  refine ⟨_, (s_cons (s_set (i := 1) sc_placed_sends.nd rfl (Or.inl rfl) (e_lst a_nil))
 (s_cons (s_set (i := 2) sc_placed_sends.nd rfl (Or.inl rfl) (e_lst (a_cons (e_tup (a_cons (e_v 0) (a_cons (e_tup a_nil) a_nil))) a_nil)))
 (s_cons (s_while PassesOwn.never (t_truth (e_v 2) (fun _ => rfl)) (s_cons (s_set (i := 3) sc_placed_sends.nd rfl (Or.inl rfl) (e_bm0 PySem.F.plainAttrs_list PySem.F.slot_list_pop PySem.F.type_list_pop mt_popS dn_pop (e_v 2)))
 (s_cons (s_if (t_cmp op_eq dn_eqS (e_ix ix_tup dn_ixT (e_ix ix_tup dn_ixT (e_v 3) e_int (fun _ _ => rfl)) e_int (fun _ _ => rfl)) e_str (nomark _)) (s_one (s_expr (e_bm PySem.F.plainAttrs_list PySem.F.slot_list_append PySem.F.type_list_append mt_append dn_append (e_v 1) (a_cons (e_v 3) a_nil)))) s_nil)
 (s_one (s_for PassesOwn.never rfl (i_revL rfl G.reversed (a_cons (e_call C_placed_parts hr rfl (a_cons (e_ix ix_tup dn_ixT (e_v 3) e_int (fun _ _ => rfl)) (a_cons (e_ix ix_tup dn_ixT (e_v 3) e_int (fun _ _ => rfl)) a_nil))) a_nil)) (g_name (i := 4) sc_placed_sends.nd rfl (Or.inl rfl)) (s_one (s_expr (e_bm PySem.F.plainAttrs_list PySem.F.slot_list_append PySem.F.type_list_append mt_append dn_append (e_v 2) (a_cons (e_v 4) a_nil)))))))))
 (s_one (s_ret (e_v 1)))))), ?_⟩
  have hz' : (s.plc Sy.bases []).length ≤ 100000 := by
    have := congrArg List.length (Sy.plc_fst Sy.bases s [])
    rw [List.length_map] at this
    omega
  decreasing_trivial
  intro pf hpf
  decreasing_trivial
  intro pe hpe
  have hne : pf ≠ pe := ne3 up_same hpe
  decreasing_trivial
  refine j_while (fun m σ S => ∃ (fs ps : List (Sy × List Str)) (x3 x4 : Option D), σ = [some s.d, some (.ref pf), some (.ref pe), x3, x4] ∧ S pf = some (.lst ((fs.filter fun p => p.1.nm.isSome).map ppD)) ∧ S pe = some (.lst (ps.map ppD)) ∧ fs ++ plcL Sy.bases ps.reverse = s.plc Sy.bases [] ∧ m = (plcL Sy.bases ps.reverse).length)
    _ ⟨[], [(s, [])], none, none, rfl, up_get up_same hpe, up_same, by simp [plcL], rfl⟩ ?_
  rintro m σ S ⟨fs, ps, x3, x4, rfl, hf, he, hfs, rfl⟩
  decreasing_trivial
  rcases snoc_cases ps with rfl | ⟨ps', s', rfl⟩
  · refine iteF ?_
    decreasing_trivial
    refine ⟨pf, _, rfl, hf, ?_⟩
    have e : fs = s.plc Sy.bases [] := by simpa [plcL] using hfs
    rw [e]
    exact hq
  · have eb : (!((ps' ++ [s']).map ppD).isEmpty) = true := by simp
    rw [eb]
    refine iteT ?_
    have hlen := congrArg List.length hfs
    rw [List.length_append] at hlen
    have er : (ps' ++ [s']).reverse = s' :: ps'.reverse := by simp
    rw [er, plcL_cons, plc_pp] at hfs hlen
    simp only [List.length_append, List.length_cons] at hlen
    have hmem : s' ∈ s.plc Sy.bases [] := by
      rw [← hfs]
      simp
    obtain ⟨k1, k2⟩ := hk s' hmem
    have hfl : (fs.filter fun p => p.1.nm.isSome).length ≤ fs.length := List.length_filter_le _ _
    have he' : S pe = some (.lst (ps'.map ppD ++ [ppD s'])) := by rw [he]; simp
    obtain ⟨s1, kn⟩ := s'
    dsimp only at hlen hfs k1 k2
    have et : ∃ t r, s1.d = .tup (.str t :: r) ∧ (s1.nm.isSome = true → t = "send") ∧ (s1.nm.isSome = false → ¬ t = "send") := by
      cases s1 <;> exact ⟨_, _, rfl, fun z => by first | rfl | (simp [Sy.nm] at z), fun z => by first | decide | (simp [Sy.nm] at z)⟩
    obtain ⟨t, r, ed, ht1, ht2⟩ := et
    decreasing_trivial
    refine j_pop he' ?_
    have ev : ppD (s1, kn) = .tup [.tup (.str t :: r), .tup (kn.map D.str)] := by unfold ppD; rw [ed]
    rw [ev]
    have hf1 : up S pe (.lst (ps'.map ppD)) pf = some (.lst ((fs.filter fun p => p.1.nm.isSome).map ppD)) := by rw [up_ne hne]; exact hf
    have he1 : up S pe (.lst (ps'.map ppD)) pe = some (.lst (ps'.map ppD)) := up_same
    have done : ∀ (S3 : Hp3) (x4 : Option D), S3 pf = some (.lst (((fs ++ [(s1, kn)]).filter fun p => p.1.nm.isSome).map ppD)) → S3 pe = some (.lst ((ps' ++ (s1.pp Sy.bases kn).reverse).map ppD)) →
        ∃ m', m' < (plcL Sy.bases (ps' ++ [(s1, kn)]).reverse).length ∧ ∃ (fs ps : List (Sy × List Str)) (x3 x4' : Option D), [some s.d, some (.ref pf), some (.ref pe), some (.tup [.tup (.str t :: r), .tup (kn.map D.str)]), x4] = [some s.d, some (D.ref pf), some (.ref pe), x3, x4'] ∧
          S3 pf = some (.lst ((fs.filter fun p => p.1.nm.isSome).map ppD)) ∧ S3 pe = some (.lst (ps.map ppD)) ∧ fs ++ plcL Sy.bases ps.reverse = s.plc Sy.bases [] ∧ m' = (plcL Sy.bases ps.reverse).length := fun S3 x4 g1 g2 => by
      refine ⟨_, ?_, fs ++ [(s1, kn)], ps' ++ (s1.pp Sy.bases kn).reverse, _, _, rfl, g1, g2, ?_, rfl⟩
      · rw [er, plcL_cons, plc_pp]
        simp only [List.reverse_append, List.reverse_reverse, plcL_append, List.length_append, List.length_cons]
        omega
      · rw [← hfs]
        simp [plcL_append]
    have hpl : (s1.pp Sy.bases kn).length ≤ (plcL Sy.bases (s1.pp Sy.bases kn)).length := plcL_len _ _
    have hpl' : ps'.length ≤ (plcL Sy.bases ps'.reverse).length := by
      have := plcL_len Sy.bases ps'.reverse
      simpa using this
    have el : (((s1.pp Sy.bases kn).map ppD).reverse).length = (s1.pp Sy.bases kn).length := by simp
    cases hnm : s1.nm.isSome
    have e1 := ht2 hnm
    decreasing_trivial
    have g1 : up S pe (.lst (ps'.map ppD)) pf = some (.lst (((fs ++ [(s1, kn)]).filter fun p => p.1.nm.isSome).map ppD)) := by
      rw [hf1]
      simp [List.filter_append, hnm]
    have g2 := he1
    generalize up S pe (.lst (ps'.map ppD)) = S2 at g1 g2 ⊢
    rotate_left
    have e1 := ht1 hnm
    subst e1
    decreasing_trivial
    refine j_append hf1 (by rw [List.length_map]; exact small_lt (by omega)) ?_
    have g1 : up (up S pe (.lst (ps'.map ppD))) pf (.lst (((fs.filter fun p => p.1.nm.isSome).map ppD) ++ [.tup [.tup (.str "send" :: r), .tup (kn.map D.str)]])) pf = some (.lst (((fs ++ [(s1, kn)]).filter fun p => p.1.nm.isSome).map ppD)) := by
      rw [up_same]
      simp [List.filter_append, hnm, ppD, ed]
    have g2 : up (up S pe (.lst (ps'.map ppD))) pf (.lst (((fs.filter fun p => p.1.nm.isSome).map ppD) ++ [.tup [.tup (.str "send" :: r), .tup (kn.map D.str)]])) pe = some (.lst (ps'.map ppD)) := by
      rw [up_ne (Ne.symm hne)]; exact he1
    generalize up (up S pe (.lst (ps'.map ppD))) pf (.lst (((fs.filter fun p => p.1.nm.isSome).map ppD) ++ [.tup [.tup (.str "send" :: r), .tup (kn.map D.str)]])) = S2 at g1 g2 ⊢
    decreasing_trivial
    all_goals
      refine ⟨s1, kn, by rw [ed], k1, k2, ?_⟩
      intro pl hpl2
      have n1 : pf ≠ pl := ne3 g1 hpl2
      have n2 : pe ≠ pl := ne3 g2 hpl2
      decreasing_trivial
      refine ⟨fun i σ S' => ∃ x4, σ = [some s.d, some (.ref pf), some (.ref pe), _, x4] ∧ S' pl = some (.lst ((s1.pp Sy.bases kn).map ppD)) ∧ S' pf = some (.lst (((fs ++ [(s1, kn)]).filter fun p => p.1.nm.isSome).map ppD)) ∧
          S' pe = some (.lst (ps'.map ppD ++ (((s1.pp Sy.bases kn).map ppD).reverse).take i)), ⟨_, rfl, up_same, up_get g1 hpl2, by rw [up_get g2 hpl2]; simp⟩, fun i σ S' ⟨_, _, g, _⟩ => g, ?_, ?_⟩
      · rintro i d σ S' hd ⟨y4, rfl, h1, h2, h3⟩
        have hi := (List.getElem?_eq_some_iff.mp hd).1
        rw [el] at hi
        decreasing_trivial
        refine j_append h3 ?_ ?_
        · rw [List.length_append, List.length_take, List.length_map, el]
          exact small_lt (by omega)
        refine ⟨_, rfl, by rw [up_ne (Ne.symm n2)]; exact h1, by rw [up_ne hne]; exact h2, ?_⟩
        rw [up_same, List.take_succ, hd, List.append_assoc]
        rfl
      · rintro σ S' ⟨y4, rfl, h1, h2, h3⟩
        refine done S' _ h2 ?_
        rw [h3, List.take_of_length_le (Nat.le_refl _), List.map_append, List.map_reverse]

def GrOk (e : Er) : Prop := e.body.pre.length ≤ 100000 ∧ (∀ p ∈ e.body.plc Sy.bases [], p.2.length ≤ 1000 ∧ p.1.parts.length ≤ 1000) ∧ e.ps.length ≤ 1000
def sp_graphs : Sp3 := rdL fun ds S q => ∃ (a : Addr) (prog : List Er), ds = [.ref a] ∧ S a = some (.lst (prog.map Er.d)) ∧ (∀ e ∈ prog, GrOk e) ∧ (graphsOf toldN Sy.bases prog).length ≤ 100000 ∧ q ((graphsOf toldN Sy.bases prog).map trD)
theorem gr_snoc {told : Str → Sy → List Str → Int} {ext : Sy → List Str} {prog : List Er} {i : Nat} {e : Er} (he : prog[i]? = some e) : graphsOf told ext (prog.take (i + 1)) = graphsOf told ext (prog.take i) ++ ((e.body.plc ext []).map (grOf told e)).flatten := by
  have htk : prog.take (i + 1) = prog.take i ++ [e] := by rw [List.take_succ, he]; rfl
  rw [htk]
  simp [graphsOf]
theorem gr_le {told : Str → Sy → List Str → Int} {ext : Sy → List Str} {prog : List Er} (i : Nat) : (graphsOf told ext (prog.take i)).length ≤ (graphsOf told ext prog).length := by
  conv => rhs; rw [← List.take_append_drop i prog]
  simp only [graphsOf, List.map_append, List.flatten_append, List.length_append]
  omega
theorem gr_filter {told : Str → Sy → List Str → Int} {e : Er} : ∀ l : List (Sy × List Str), ((l.filter fun p => p.1.nm.isSome).map (grOf told e)).flatten = (l.map (grOf told e)).flatten
  | [] => rfl
  | (s, k) :: l => by
    have ih := gr_filter (told := told) (e := e) l
    cases s with
    | send x as =>
      have e1 : (((Sy.send x as, k) : Sy × List Str) :: l).filter (fun p => p.1.nm.isSome) = (Sy.send x as, k) :: l.filter fun p => p.1.nm.isSome := rfl
      rw [e1, List.map_cons, List.flatten_cons, List.map_cons, List.flatten_cons, ih]
    | name x => exact ih
    | bud => exact ih
    | pair _ _ => exact ih
    | left _ => exact ih
    | right _ => exact ih
    | fork _ _ _ => exact ih
theorem ok_graphs {k : Nat} (h : Has K mg "graphs" s_graphs ["program"]) (G : Gs K mg) (C_placed_sends : Cal3 P w K mg base k "placed_sends" ["body"] sp_placed_sends) (C0 : Cal3 P w K mg base k "told_row" ["param", "sayings", "known"] sp_told_row) :
    Cal3 P w K mg base (k + 1) "graphs" ["program"] sp_graphs := by
  have C_told_row := C0
  refine h.rdL sc_graphs (fun ds S q ⟨_, _, e, _⟩ => by rw [e]; rfl) fun f cdv A outer s0 H E ds S q hr hA => ?_
  obtain ⟨pr, prog, rfl, hS, hok, hz, hq⟩ := hA
  refine ⟨_, (s_cons (s_set (i := 1) sc_graphs.nd rfl (Or.inl rfl) (e_lst a_nil))
 (s_cons (s_for PassesOwn.never rfl (i_list (e_v 0)) (g_name (i := 2) sc_graphs.nd rfl (Or.inl rfl)) (s_one (s_for PassesOwn.never rfl (i_list (e_call C_placed_sends hr rfl (a_cons (e_ix ix_tup dn_ixT (e_v 2) e_int (fun _ _ => rfl)) a_nil))) (g_name (i := 3) sc_graphs.nd rfl (Or.inr rfl)) (s_cons (s_set (i := 4) sc_graphs.nd rfl (Or.inr rfl) (e_ix ix_tup dn_ixT (e_v 3) e_int (fun _ _ => rfl)))
 (s_cons (s_comp (i := 5) (osc := defScope s_graphs) (N := ["program", "found", "errand", "placed", "send", "rows"]) (M := ["send", "placed"]) (js := [4, 3]) ⟨rfl, by decide +kernel, by decide +kernel, rfl, by decide +kernel, by decide +kernel, by decide +kernel⟩ (by decide +kernel) rfl (i_tup (e_ix ix_tup dn_ixT (e_v 2) e_int (fun _ _ => rfl))) (fun _ _ _ _ _ => (e_call C_told_row hr rfl (a_cons (e_v 0) (a_cons (e_ix ix_tup dn_ixT (e_v 1) e_int (fun _ _ => rfl)) (a_cons (e_ix ix_tup dn_ixT (e_v 2) e_int (fun _ _ => rfl)) a_nil))))) sc_graphs.nd rfl rfl)
 (s_one (s_expr (e_bm PySem.F.plainAttrs_list PySem.F.slot_list_append PySem.F.type_list_append mt_append dn_append (e_v 1) (a_cons (e_tup (a_cons (e_ix ix_tup dn_ixT (e_v 2) e_int (fun _ _ => rfl)) (a_cons (e_ix ix_tup dn_ixT (e_v 4) e_int (fun _ _ => rfl)) (a_cons (e_callTy call_tuple_of dn_toTup rfl G.tuple boot_tuple (a_cons (e_v 5) a_nil)) a_nil)))) a_nil)))))))))
 (s_one (s_ret (e_v 1))))), ?_⟩
  decreasing_trivial
  intro pf hpf
  have hne : pr ≠ pf := ne3 hS hpf
  have hS1 := up_get (o := .lst []) hS hpf
  decreasing_trivial
  refine ⟨fun i σ S' => ∃ x2 x3 x4 x5, σ = [some (.ref pr), some (.ref pf), x2, x3, x4, x5] ∧ Sub S S' ∧ S' pf = some (.lst ((graphsOf toldN Sy.bases (prog.take i)).map trD)), ⟨none, none, none, none, rfl, (Sub.refl S).up hpf, by rw [up_same]; rfl⟩,
    fun i σ S' ⟨x2, x3, x4, x5, _, h1, _⟩ => h1 _ _ hS, ?_, ?_⟩
  · rintro i d σ S' hd ⟨x2, x3, x4, x5, rfl, h1, h2⟩
    rw [List.getElem?_map] at hd
    obtain ⟨e, he, rfl⟩ := Option.map_eq_some_iff.mp hd
    have hem : e ∈ prog := List.mem_of_getElem? he
    obtain ⟨o1, o2, o3⟩ := hok e hem
    have hsn := gr_snoc (told := toldN) (ext := Sy.bases) he
    have hbd := gr_le (told := toldN) (ext := Sy.bases) (prog := prog) (i + 1)
    rw [hsn, List.length_append] at hbd
    unfold Er.d
    decreasing_trivial
    refine ⟨e.body, rfl, o1, o2, ?_⟩
    intro pl hpl
    have hne2 : pf ≠ pl := ne3 h2 hpl
    obtain ⟨L, hL⟩ : ∃ L, L = (e.body.plc Sy.bases []).filter fun p => p.1.nm.isSome := ⟨_, rfl⟩
    rw [← hL]
    have hLf : (L.map (grOf toldN e)).flatten = ((e.body.plc Sy.bases []).map (grOf toldN e)).flatten := by rw [hL]; exact gr_filter _
    decreasing_trivial
    refine ⟨fun j σ S2 => ∃ x3 x4 x5, σ = [some (.ref pr), some (.ref pf), some e.d, x3, x4, x5] ∧ Sub S S2 ∧ S2 pl = some (.lst (L.map ppD)) ∧ S2 pf = some (.lst ((graphsOf toldN Sy.bases (prog.take i) ++ ((L.take j).map (grOf toldN e)).flatten).map trD)),
      ⟨_, _, _, rfl, h1.up hpl, up_same, by rw [up_get h2 hpl]; simp⟩, fun j σ S2 ⟨_, _, _, _, _, g, _⟩ => g, ?_, ?_⟩
    · rintro j d σ S2 hd ⟨y3, y4, y5, rfl, g1, g2, g3⟩
      rw [List.getElem?_map] at hd
      obtain ⟨⟨a, kn⟩, ha, rfl⟩ := Option.map_eq_some_iff.mp hd
      have haL : (a, kn) ∈ L := List.mem_of_getElem? ha
      rw [hL, List.mem_filter] at haL
      obtain ⟨p1, p2⟩ := o2 _ haL.1
      have htk2 : L.take (j + 1) = L.take j ++ [(a, kn)] := by rw [List.take_succ, ha]; rfl
      have hln : ((L.take j).map (grOf toldN e)).flatten.length ≤ (((e.body.plc Sy.bases []).map (grOf toldN e)).flatten).length := by
        rw [← hLf]
        conv => rhs; rw [← List.take_append_drop j L]
        simp only [List.map_append, List.flatten_append, List.length_append]
        omega
      cases a with
      | send x as =>
        have p2' : as.length ≤ 1000 := p2
        unfold ppD Er.d
        simp only [Sy.d, Sy.ds_map]
        decreasing_trivial
        refine comp_map (fun i => rowD (as.map fun a => toldN (e.ps.getD i "") a kn)) (by rw [List.length_map]; omega) trivial ?_ ?_
        · intro i d hd P hP
          rw [List.getElem?_map] at hd
          obtain ⟨p, hp, rfl⟩ := Option.map_eq_some_iff.mp hd
          rw [List.getD_eq_getElem?_getD, hp] at hP
          decreasing_trivial
          exact ⟨p, as, kn, rfl, p2', hP⟩
        have el : ((List.range (e.ps.map D.str).length).map fun i => rowD (as.map fun a => toldN (e.ps.getD i "") a kn)) = (e.ps.map fun p => as.map fun a => toldN p a kn).map rowD := by
          rw [List.length_map, List.map_map]
          apply List.ext_getElem?
          intro i
          rw [List.getElem?_map, List.getElem?_map]
          by_cases hi : i < e.ps.length
          · rw [List.getElem?_range hi, List.getElem?_eq_getElem hi]
            simp [List.getD_eq_getElem?_getD, hi]
          · rw [List.getElem?_eq_none (by simpa using hi), List.getElem?_eq_none (by omega)]
            rfl
        rw [el]
        intro p3 hp3
        have g4 := up_get (o := .lst ((e.ps.map fun p => as.map fun a => toldN p a kn).map rowD)) g3 hp3
        have n3 : pf ≠ p3 := ne3 g3 hp3
        decreasing_trivial
        refine j_append g4 (by rw [List.length_map, List.length_append]; exact small_lt (by omega)) ?_
        refine ⟨_, _, _, rfl, ?_, ?_, ?_⟩
        · intro b o hb
          rw [up_ne]
          · exact (g1.up hp3) b o hb
          · rintro rfl; rw [hpf] at hb; cases hb
        · rw [up_ne (Ne.symm hne2)]; exact up_get g2 hp3
        · rw [up_same, htk2]
          simp [grOf, trD, grD, matD]
      | name x => simp [Sy.nm] at haL
      | bud => simp [Sy.nm] at haL
      | pair _ _ => simp [Sy.nm] at haL
      | left _ => simp [Sy.nm] at haL
      | right _ => simp [Sy.nm] at haL
      | fork _ _ _ => simp [Sy.nm] at haL
    · rintro σ S2 ⟨y3, y4, y5, rfl, g1, g2, g3⟩
      refine ⟨_, _, _, _, rfl, g1, ?_⟩
      rw [g3, List.length_map, List.take_length, hsn, hLf]
  · rintro σ S' ⟨x2, x3, x4, x5, rfl, h1, h2⟩
    rw [List.length_map, List.take_length] at h2
    decreasing_trivial
    exact ⟨pf, _, rfl, hpf, h1, h2, hq⟩

def sp_saying (n : Nat) : Sp3 := wrV fun ds S q => ∃ (ns : List Int) (sp nm ct : Addr) (i b deep : Int) (names ps : List Str) (counts : List Nat), ds = [.rol (ns.map D.int), .ref sp, .ref nm, .ref ct, .tup (ps.map D.str), .int deep] ∧
  S sp = some (.lst [.int i, .int b]) ∧ S nm = some (.lst (names.map D.str)) ∧ S ct = some (.lst (cD counts)) ∧ sp ≠ nm ∧ sp ≠ ct ∧ 0 ≤ i ∧ 0 ≤ b ∧ 1 ≤ deep ∧ deep ≤ n ∧ 1 ≤ ps.length ∧ ps.length ≤ 4 ∧
  1 ≤ names.length ∧ names.Nodup ∧ names.length = counts.length ∧ (∀ c ∈ counts, 1 ≤ c ∧ c ≤ 4) ∧
  ∀ (s : Sy) (i2 b2 : Int), s.wf (arOf names counts) ps → (s.deep : Int) ≤ deep → i ≤ i2 → 0 ≤ b2 → (s.sends : Int) + b2 ≤ b → q s.d sp (.lst [.int i2, .int b2])
theorem ok_saying (h : Has K mg "_law_saying" s_saying ["script", "spot", "names", "counts", "params", "deep"]) (G : Gs K mg) (C0 : Cal3 P w K mg base 2 "_law_next" ["script", "spot"] sp_next) :
    ∀ n : Nat, Cal3 P w K mg base (n + 3) "_law_saying" ["script", "spot", "names", "counts", "params", "deep"] (sp_saying n)
  | 0 => h.none3 (fun ds S Q E ⟨ns, sp, nm, ct, i, b, deep, names, ps, counts, _, _, _, _, _, _, _, _, h1, h2, _⟩ => by omega) _
  | n + 1 => by
    have C_saying := ok_saying h G C0 n
    have C_next := C0.mono (show 2 ≤ n + 3 by omega)
    refine h.wrV sc_saying (fun ds S q ⟨ns, sp, nm, ct, i, b, deep, names, ps, counts, e, _⟩ => by rw [e]; rfl) fun f cdv A outer s H E ds S q hr hA => ?_
    obtain ⟨ns, sp, nm, ct, i, b, deep, names, ps, counts, rfl, hsp, hnm, hct, n1, n2, hi, hb, d1, dn, p1, p4, m1, nd, hlc, hc4, hq⟩ := hA
    refine ⟨_, (s_cons (s_set (i := 6) sc_saying.nd rfl (Or.inl rfl) (e_call C_next hr rfl (a_cons (e_v 0) (a_cons (e_v 1) a_nil))))
 (s_cons (s_set (i := 7) sc_saying.nd rfl (Or.inl rfl) (e_op op_mod dn_intC (e_v 6) e_int))
 (s_cons (s_if (PW3.pt (w_or (t_cmp op_lt dn_intB (e_v 5) e_int (nomark _)) (w_or1 (t_cmp op_eq dn_eqI (e_v 7) e_int (nomark _))))) (s_one (s_ret (e_tup (a_cons e_str (a_cons (e_ix ix_tup dn_ixT (e_v 4) (e_op op_mod dn_intC (e_op op_fdiv dn_intC (e_v 6) e_int) (e_callB call_len_seq dn_len rfl G.len PySem.boot_len (a_cons (e_v 4) a_nil))) (fun _ _ => rfl)) a_nil))))) s_nil)
 (s_cons (s_if (t_cmp op_eq dn_eqI (e_v 7) e_int (nomark _)) (s_one (s_ret (e_tup (a_cons e_str a_nil)))) s_nil)
 (s_cons (s_if (PW3.pt (w_or (t_cmp op_eq dn_eqI (e_v 7) e_int (nomark _)) (w_or1 (t_cmp op_eq dn_eqI (e_v 7) e_int (nomark _))))) (s_one (s_ret (e_tup (a_cons (e_ix ix_list dn_ixL (e_lst (a_cons e_str (a_cons e_str a_nil))) (e_op op_sub dn_int (e_v 7) e_int) (fun _ _ => rfl)) (a_cons (e_call C_saying hr rfl (a_cons (e_v 0) (a_cons (e_v 1) (a_cons (e_v 2) (a_cons (e_v 3) (a_cons (e_v 4) (a_cons (e_op op_sub dn_int (e_v 5) e_int) a_nil))))))) a_nil))))) s_nil)
 (s_cons (s_set (i := 8) sc_saying.nd rfl (Or.inl rfl) e_int)
 (s_cons (s_if (PW3.pt (w_or (t_cmp op_eq dn_eqI (e_v 7) e_int (nomark _)) (w_or1 (t_cmp op_eq dn_eqI (e_v 7) e_int (nomark _))))) (s_one (s_set (i := 8) sc_saying.nd rfl (Or.inl rfl) e_int)) s_nil)
 (s_cons (s_set (i := 9) sc_saying.nd rfl (Or.inl rfl) (e_op op_mod dn_intC (e_op op_fdiv dn_intC (e_v 6) e_int) (e_callB call_len_seq dn_len rfl G.len PySem.boot_len (a_cons (e_v 2) a_nil))))
 (s_cons (s_if (t_cmp op_gt dn_intB (e_v 7) e_int (nomark _)) (s_cons (s_if (t_cmp op_eq dn_eqI (e_ix ix_list dn_ixL (e_v 1) e_int (fun _ _ => rfl)) e_int (nomark _)) (s_one (s_ret (e_tup (a_cons e_str a_nil)))) s_nil)
 (s_cons (s_asg (e_op op_sub dn_int (e_ix ix_list dn_ixL (e_v 1) e_int (fun _ _ => rfl)) e_int) (g_sub (e_v 1) e_int))
 (s_one (s_set (i := 8) sc_saying.nd rfl (Or.inl rfl) (e_ix ix_list dn_ixL (e_v 3) (e_v 9) (fun _ _ => rfl)))))) s_nil)
 (s_cons (s_set (i := 10) sc_saying.nd rfl (Or.inl rfl) (e_callTy call_tuple_of dn_toTup rfl G.tuple boot_tuple (a_cons (e_comp (osc := defScope s_saying) (N := ["script", "spot", "names", "counts", "params", "deep", "cell", "kind", "parts_v", "to", "row"]) (M := ["script", "spot", "names", "counts", "params", "deep"]) (js := [0, 1, 2, 3, 4, 5]) ⟨rfl, by decide +kernel, by decide +kernel, rfl, by decide +kernel, by decide +kernel, by decide +kernel⟩ (by decide +kernel) rfl (i_range1 rfl G.range (a_cons (e_v 8) a_nil)) (fun _ _ _ _ _ => (e_call C_saying hr rfl (a_cons (e_v 1) (a_cons (e_v 2) (a_cons (e_v 3) (a_cons (e_v 4) (a_cons (e_v 5) (a_cons (e_op op_sub dn_int (e_v 6) e_int) a_nil))))))))) a_nil)))
 (s_cons (s_if (t_cmp op_eq dn_eqI (e_v 7) e_int (nomark _)) (s_one (s_ret (e_op op_catT dn_catT (e_tup (a_cons e_str a_nil)) (e_v 10)))) s_nil)
 (s_cons (s_if (t_cmp op_lt dn_intB (e_v 7) e_int (nomark _)) (s_one (s_ret (e_op op_catT dn_catT (e_tup (a_cons e_str a_nil)) (e_v 10)))) s_nil)
 (s_one (s_ret (e_tup (a_cons e_str (a_cons (e_ix ix_list dn_ixL (e_v 2) (e_v 9) (fun _ _ => rfl)) (a_cons (e_v 10) a_nil)))))))))))))))))), ?_⟩
    decreasing_trivial
    refine ⟨ns, sp, i, [.int b], rfl, hsp, hi, ?_⟩
    generalize hcell : cellAt ns i = cell
    have k0 := Int.emod_nonneg cell (show (9 : Int) ≠ 0 by decide)
    have k9 := Int.emod_lt_of_pos cell (show (0 : Int) < 9 by decide)
    have sp1 : up S sp (.lst [.int (i + 1), .int b]) sp = some (.lst [.int (i + 1), .int b]) := up_same
    have nm1 : ∀ o, up S sp o nm = some (.lst (names.map D.str)) := fun o => by rw [up_ne (Ne.symm n1)]; exact hnm
    have ct1 : ∀ o, up S sp o ct = some (.lst (cD counts)) := fun o => by rw [up_ne (Ne.symm n2)]; exact hct
    have nm2 := nm1 (.lst [.int (i + 1), .int b])
    have fin : ∀ (s : Sy), s.wf (arOf names counts) ps → (s.deep : Int) ≤ deep → s.sends = 0 → ∃ a o, Sub (up S a o) (up S sp (.lst [.int (i + 1), .int b])) ∧ q s.d a o := fun s h1 h2 h3 =>
      ⟨sp, _, Sub.refl _, hq s (i + 1) b h1 h2 (by omega) hb (by omega)⟩
    obtain ⟨jp, vp, ejp, hvp, hap⟩ := at_modM (f := D.str) (cell / 9) (show 0 < ps.length by omega)
    have hpl : (0 : Int) < ((ps.map D.str).length : Int) := by rw [List.length_map]; omega
    have hnl : (0 : Int) < ((names.map D.str).length : Int) := by rw [List.length_map]; omega
    have vpm : vp ∈ ps := List.mem_of_getElem? hvp
    by_cases hd : deep < 2
    · decreasing_trivial
      refine j_ixT hap ?_
      decreasing_trivial
      exact fin (.name vp) vpm (by simp only [Sy.deep]; omega) (by simp [Sy.sends, Sy.pre])
    by_cases h0 : cell % 9 = 0
    · decreasing_trivial
      refine j_ixT hap ?_
      decreasing_trivial
      exact fin (.name vp) vpm (by simp only [Sy.deep]; omega) (by simp [Sy.sends, Sy.pre])
    by_cases h1 : cell % 9 = 1
    · decreasing_trivial
      exact fin .bud trivial (by simp only [Sy.deep]; omega) (by simp [Sy.sends, Sy.pre])
    by_cases h2 : cell % 9 = 2
    · decreasing_trivial
      intro p hp
      decreasing_trivial
      refine j_ixL up_same (d := .str "left") (by rw [h2]; rfl) ?_
      decreasing_trivial
      refine ⟨ns, sp, nm, ct, i + 1, b, deep - 1, names, ps, counts, rfl, up_get up_same hp, up_get (nm1 _) hp, up_get (ct1 _) hp, n1, n2, by omega, hb, by omega, by omega, p1, p4, m1, nd, hlc, hc4, fun s i2 b2 hw hdp hi2 hb2 hs2 => ?_⟩
      decreasing_trivial
      refine ⟨sp, _, ((Px.refl sp S).at.new hp).at.sub up_same, hq (.left s) i2 b2 hw (by simp only [Sy.deep]; omega) (by omega) hb2 ?_⟩
      rw [Sy.sends_parts]
      simp only [Sy.parts, Sy.sendss_cons]
      simp [Sy.sendss, Sy.pres]
      omega
    by_cases h3 : cell % 9 = 3
    · decreasing_trivial
      intro p hp
      decreasing_trivial
      refine j_ixL up_same (d := .str "right") (by rw [h3]; rfl) ?_
      decreasing_trivial
      refine ⟨ns, sp, nm, ct, i + 1, b, deep - 1, names, ps, counts, rfl, up_get up_same hp, up_get (nm1 _) hp, up_get (ct1 _) hp, n1, n2, by omega, hb, by omega, by omega, p1, p4, m1, nd, hlc, hc4, fun s i2 b2 hw hdp hi2 hb2 hs2 => ?_⟩
      decreasing_trivial
      refine ⟨sp, _, ((Px.refl sp S).at.new hp).at.sub up_same, hq (.right s) i2 b2 hw (by simp only [Sy.deep]; omega) (by omega) hb2 ?_⟩
      rw [Sy.sends_parts]
      simp only [Sy.parts, Sy.sendss_cons]
      simp [Sy.sendss, Sy.pres]
      omega
    obtain ⟨jt, vt, ejt, hvt, hat⟩ := at_modM (f := D.str) (cell / 9) (show 0 < names.length by omega)
    have hct' : jt < counts.length := by rw [← hlc]; exact (List.getElem?_eq_some_iff.mp hvt).1
    obtain ⟨cn, hcn⟩ : ∃ cn, counts[jt]? = some cn := ⟨_, List.getElem?_eq_getElem hct'⟩
    have hcn4 := hc4 cn (List.mem_of_getElem? hcn)
    have har : arOf names counts vt = some cn := arOf_at nd hvt hcn
    have elt : ∀ (d : D) (x6 : Option D) (i0 b0 i1 b1 : Int), 0 ≤ i1 → 0 ≤ b1 → ∀ P : K3,
        (∀ (s : Sy) (i2 b2 : Int), (s.wf (arOf names counts) ps ∧ (s.deep : Int) ≤ deep - 1) → i1 ≤ i2 → 0 ≤ b2 → (s.sends : Int) + b2 ≤ b1 → P s.d (up S sp (.lst [.int i2, .int b2]))) →
        sp_saying n [.rol (ns.map D.int), .ref sp, .ref nm, .ref ct, .tup (ps.map D.str), .int (deep - 1)] (up S sp (.lst [.int i1, .int b1])) P (fun _ _ _ => False) := fun d x6 i0 b0 i1 b1 hi1 hb1 P hP =>
      ⟨ns, sp, nm, ct, i1, b1, deep - 1, names, ps, counts, rfl, up_same, nm1 _, ct1 _, n1, n2, hi1, hb1, by omega, by omega, p1, p4, m1, nd, hlc, hc4, fun s i2 b2 hw hdp hi2 hb2 hs2 => by
        show P s.d (up (up S sp (.lst [.int i1, .int b1])) sp (.lst [.int i2, .int b2]))
        rw [up_up]
        exact hP s i2 b2 ⟨hw, hdp⟩ hi2 hb2 hs2⟩
    have hk : cell % 9 = 4 ∨ (cell % 9 = 5 ∨ cell % 9 = 6) ∨ (cell % 9 = 7 ∨ cell % 9 = 8) := by omega
    rcases hk with h4 | h56 | h78
    · decreasing_trivial
      refine comp_saying (m := 2) (fun s => s.wf (arOf names counts) ps ∧ (s.deep : Int) ≤ deep - 1) (by omega) (fun _ => trivial) (fun d i1 b1 hi1 hb1 P hP => ?_) hb fun ss i2 b2 hl hg hi2 hb2 hs2 => ?_
      · decreasing_trivial
        exact elt d none 0 0 i1 b1 (by omega) hb1 P hP
      · intro p hp
        match ss, hl with
        | [a, c], _ =>
          obtain ⟨wa, da⟩ := hg a (by simp)
          obtain ⟨wc, dc⟩ := hg c (by simp)
          decreasing_trivial
          refine j_catT (by simp) (small_le (by simp)) ?_
          refine ⟨sp, _, ((Px.refl sp S).at.new hp).sub (up_get up_same hp), hq (.pair a c) i2 b2 ⟨wa, wc⟩ (by simp only [Sy.deep]; omega) (by omega) hb2 ?_⟩
          rw [Sy.sends_parts]
          simpa [Sy.parts] using hs2
    · have n4 : ¬ cell % 9 = 4 := by omega
      rcases h56 with h5 | h6
      all_goals
        decreasing_trivial
        refine comp_saying (m := 3) (fun s => s.wf (arOf names counts) ps ∧ (s.deep : Int) ≤ deep - 1) (by omega) (fun _ => trivial) (fun d i1 b1 hi1 hb1 P hP => ?_) hb fun ss i2 b2 hl hg hi2 hb2 hs2 => ?_
        · decreasing_trivial
          exact elt d none 0 0 i1 b1 (by omega) hb1 P hP
        · intro p hp
          match ss, hl with
          | [a, c, e], _ =>
            obtain ⟨wa, da⟩ := hg a (by simp)
            obtain ⟨wc, dc⟩ := hg c (by simp)
            obtain ⟨we, de⟩ := hg e (by simp)
            decreasing_trivial
            refine j_catT (by simp) (small_le (by simp)) ?_
            refine ⟨sp, _, ((Px.refl sp S).at.new hp).sub (up_get up_same hp), hq (.fork a c e) i2 b2 ⟨wa, wc, we⟩ (by simp only [Sy.deep]; omega) (by omega) hb2 ?_⟩
            rw [Sy.sends_parts]
            simpa [Sy.parts] using hs2
    · by_cases hb0 : b = 0
      · rcases h78 with h7 | h8
        all_goals
          decreasing_trivial
          exact fin .bud trivial (by simp only [Sy.deep]; omega) (by simp [Sy.sends, Sy.pre])
      · rcases h78 with h7 | h8
        all_goals
          decreasing_trivial
          have es : ([D.int (i + 1), D.int b].set (Int.toNat 1) (D.int (b - 1))) = [D.int (i + 1), D.int (b - 1)] := rfl
          rw [es, up_up]
          refine j_ixL (ct1 _) (d := .int cn) (by rw [ejt]; refine atI_nat ?_; rw [List.getElem?_map, hcn]; rfl) ?_
          decreasing_trivial
          rw [Int.toNat_natCast]
          refine comp_saying (m := cn) (fun s => s.wf (arOf names counts) ps ∧ (s.deep : Int) ≤ deep - 1) (by omega) (fun _ => trivial) (fun d i1 b1 hi1 hb1 P hP => ?_) (show 0 ≤ b - 1 by omega) fun ss i2 b2 hl hg hi2 hb2 hs2 => ?_
          · decreasing_trivial
            exact elt d none 0 0 i1 b1 (by omega) hb1 P hP
          · intro p hp
            have nm3 := up_get (o := .lst (ss.map Sy.d)) (nm1 (.lst [.int i2, .int b2])) hp
            decreasing_trivial
            refine j_ixL nm3 hat ?_
            decreasing_trivial
            have hdd : Sy.deeps ss ≤ (deep - 1).toNat := Sy.deeps_le fun a ha => by
              have := (hg a ha).2
              omega
            have := hq (.send vt ss) i2 b2 ⟨by rw [hl]; exact har, by omega, by omega, Sy.wfs_iff.mpr fun a ha => (hg a ha).1⟩ (by simp only [Sy.deep]; omega) (by omega) hb2 (by
              rw [Sy.sends_parts]
              simp only [Sy.parts]
              omega)
            rw [Sy.d, Sy.ds_map] at this
            exact ⟨sp, _, ((Px.refl sp S).at.new hp).sub (up_get up_same hp), this⟩

def sp_drawn (n : Nat) : Sp3 := wrL fun ds S q => ∃ (ns : List Int) (sp : Addr) (i b most deep : Int), ds = [.rol (ns.map D.int), .ref sp, .int most, .int deep] ∧ S sp = some (.lst [.int i, .int b]) ∧ 0 ≤ i ∧ 0 ≤ b ∧ 1 ≤ most ∧ most ≤ 12 ∧ 1 ≤ deep ∧ deep ≤ n ∧
  ∀ (prog : List Er) (i2 b2 : Int), Good prog most.toNat deep.toNat b.toNat → q (prog.map Er.d) sp (.lst [.int i2, .int b2])
theorem ok_drawn {n : Nat} (h : Has K mg "_law_drawn" s_drawn ["script", "spot", "most", "deep"]) (G : Gs K mg) (C0 : Cal3 P w K mg base 2 "_law_next" ["script", "spot"] sp_next) (C1 : Cal3 P w K mg base 1 "_law_names" ["cell", "many"] sp_names)
    (C_saying : Cal3 P w K mg base (n + 3) "_law_saying" ["script", "spot", "names", "counts", "params", "deep"] (sp_saying n)) : Cal3 P w K mg base (n + 4) "_law_drawn" ["script", "spot", "most", "deep"] (sp_drawn n) := by
  have C_next := C0.mono (show 2 ≤ n + 3 by omega)
  have C_names := C1.mono (show 1 ≤ n + 3 by omega)
  refine h.wrL sc_drawn (fun ds S q ⟨ns, sp, i, b, most, deep, e, _⟩ => by rw [e]; rfl) fun f cdv A outer s H E ds S q hr hA => ?_
  obtain ⟨ns, sp, i, b, most, deep, rfl, hsp, hi, hb, m1, m12, d1, dn, hq⟩ := hA
  refine ⟨_, (s_cons (s_set (i := 4) sc_drawn.nd rfl (Or.inr rfl) (e_call C_next hr rfl (a_cons (e_v 0) (a_cons (e_v 1) a_nil))))
 (s_cons (s_set (i := 5) sc_drawn.nd rfl (Or.inl rfl) (e_op op_add dn_int e_int (e_op op_mod dn_intC (e_v 4) (e_v 2))))
 (s_cons (s_set (i := 6) sc_drawn.nd rfl (Or.inl rfl) (e_call C_names hr rfl (a_cons (e_op op_mod dn_intC (e_op op_fdiv dn_intC (e_v 4) (e_v 2)) (e_op op_pow dn_intC e_int e_int)) (a_cons (e_v 5) a_nil))))
 (s_cons (s_set (i := 7) sc_drawn.nd rfl (Or.inl rfl) (e_call C_names hr rfl (a_cons (e_op op_mod dn_intC (e_call C_next hr rfl (a_cons (e_v 0) (a_cons (e_v 1) a_nil))) (e_op op_pow dn_intC e_int e_int)) (a_cons e_int a_nil))))
 (s_cons (s_comp (i := 8) (osc := defScope s_drawn) (N := ["script", "spot", "most", "deep", "head", "many", "names", "params", "counts", "program", "k", "mine"]) (M := ["head"]) (js := [4]) ⟨rfl, by decide +kernel, by decide +kernel, rfl, by decide +kernel, by decide +kernel, by decide +kernel⟩ (by decide +kernel) rfl (i_range1 rfl G.range (a_cons (e_v 5) a_nil)) (fun _ _ _ _ _ => (e_op op_add dn_int e_int (e_op op_mod dn_intC (e_op op_fdiv dn_intC (e_v 1) (e_op op_mul dn_intC e_int (e_op op_add dn_int (e_v 0) e_int))) e_int))) sc_drawn.nd rfl rfl)
 (s_cons (s_set (i := 9) sc_drawn.nd rfl (Or.inl rfl) (e_lst a_nil))
 (s_cons (s_for PassesOwn.never rfl (i_range1 rfl G.range (a_cons (e_v 5) a_nil)) (g_name (i := 10) sc_drawn.nd rfl (Or.inl rfl)) (s_cons (s_set (i := 11) sc_drawn.nd rfl (Or.inl rfl) (e_callTy call_tuple_of dn_toTup rfl G.tuple boot_tuple (a_cons (e_slice sl_list dn_slL (e_op op_cat dn_catL (e_slice sl_list dn_slL (e_v 7) (p_some (e_op op_mod dn_intC (e_v 10) e_int)) p_none) (e_slice sl_list dn_slL (e_v 7) p_none (p_some (e_op op_mod dn_intC (e_v 10) e_int)))) p_none (p_some (e_ix ix_list dn_ixL (e_v 8) (e_v 10) (fun _ _ => rfl)))) a_nil)))
 (s_one (s_expr (e_bm PySem.F.plainAttrs_list PySem.F.slot_list_append PySem.F.type_list_append mt_append dn_append (e_v 9) (a_cons (e_tup (a_cons (e_ix ix_list dn_ixL (e_v 6) (e_v 10) (fun _ _ => rfl)) (a_cons (e_v 11) (a_cons (e_call C_saying hr rfl (a_cons (e_v 0) (a_cons (e_v 1) (a_cons (e_v 6) (a_cons (e_v 8) (a_cons (e_v 11) (a_cons (e_v 3) a_nil))))))) a_nil)))) a_nil))))))
 (s_one (s_ret (e_v 9)))))))))), ?_⟩
  decreasing_trivial
  refine ⟨ns, sp, i, [.int b], rfl, hsp, hi, ?_⟩
  generalize cellAt ns i = head
  have hm0 := Int.emod_nonneg head (show most ≠ 0 by omega)
  have hm1 := Int.emod_lt_of_pos head (show 0 < most by omega)
  have t14 : (0 : Int) < 10 ^ (Int.toNat 14) := by decide
  decreasing_trivial
  refine ⟨_, _, rfl, Int.emod_nonneg _ (by decide), by omega, by omega, fun names Rn => ?_⟩
  intro nm hnm
  have n1 : sp ≠ nm := ne3 up_same hnm
  decreasing_trivial
  refine ⟨ns, sp, i + 1, [.int b], rfl, up_get up_same hnm, by omega, ?_⟩
  generalize cellAt ns (i + 1) = c2
  decreasing_trivial
  refine ⟨_, 4, rfl, Int.emod_nonneg _ (by decide), by omega, by omega, fun pp Rp => ?_⟩
  intro pm hpm
  decreasing_trivial
  generalize hmany : 1 + head % most = many
  have h1m : 1 ≤ many := by omega
  have h12 : many ≤ most := by omega
  obtain ⟨cnt, hcnt⟩ : ∃ cnt : Nat → Nat, ∀ k : Nat, 1 + head / (7 * (0 + (k : Int) + 1)) % 4 = (cnt k : Int) ∧ 1 ≤ cnt k ∧ cnt k ≤ 4 := ⟨fun k => (1 + head / (7 * (0 + (k : Int) + 1)) % 4).toNat, fun k => by
    dsimp only
    generalize head / (7 * (0 + (k : Int) + 1)) = x
    omega⟩
  refine comp_map (fun k => .int (cnt k)) (by rw [nums_len]; omega) trivial ?_ ?_
  · intro j d hd P hP
    obtain ⟨hj, rfl⟩ := nums_at hd
    decreasing_trivial
    rw [(hcnt j).1]
    exact hP
  rw [nums_len]
  obtain ⟨counts, hcounts⟩ : ∃ counts, counts = (List.range many.toNat).map cnt := ⟨_, rfl⟩
  have ecd : ((List.range many.toNat).map fun k => D.int (cnt k : Int)) = cD counts := by rw [hcounts, cD, List.map_map]; rfl
  rw [ecd]
  have hc4 : ∀ c ∈ counts, 1 ≤ c ∧ c ≤ 4 := fun c hc => by
    rw [hcounts] at hc
    obtain ⟨k, _, rfl⟩ := List.mem_map.mp hc
    exact (hcnt k).2
  have hlc : counts.length = many.toNat := by rw [hcounts]; simp
  intro ct hct
  decreasing_trivial
  intro pr hpr
  have hnl := Rn.len
  rw [hmany] at Rn hnl
  -- what stands where, ahead of the loop
  have g_sp : up (up (up (up (up (up S sp (.lst [.int (i + 1), .int b])) nm (.lst (names.map D.str))) sp (.lst [.int (i + 1 + 1), .int b])) pm (.lst (pp.map D.str))) ct (.lst (cD counts))) pr (.lst []) sp = some (.lst [.int (i + 1 + 1), .int b]) :=
    up_get (up_get (up_get up_same hpm) hct) hpr
  have g_nm : up (up (up (up (up (up S sp (.lst [.int (i + 1), .int b])) nm (.lst (names.map D.str))) sp (.lst [.int (i + 1 + 1), .int b])) pm (.lst (pp.map D.str))) ct (.lst (cD counts))) pr (.lst []) nm = some (.lst (names.map D.str)) :=
    up_get (up_get (up_get (by rw [up_ne (Ne.symm n1)]; exact up_same) hpm) hct) hpr
  have g_pm : up (up (up (up (up (up S sp (.lst [.int (i + 1), .int b])) nm (.lst (names.map D.str))) sp (.lst [.int (i + 1 + 1), .int b])) pm (.lst (pp.map D.str))) ct (.lst (cD counts))) pr (.lst []) pm = some (.lst (pp.map D.str)) :=
    up_get (up_get up_same hct) hpr
  have g_ct : up (up (up (up (up (up S sp (.lst [.int (i + 1), .int b])) nm (.lst (names.map D.str))) sp (.lst [.int (i + 1 + 1), .int b])) pm (.lst (pp.map D.str))) ct (.lst (cD counts))) pr (.lst []) ct = some (.lst (cD counts)) :=
    up_get up_same hpr
  have g_pr : up (up (up (up (up (up S sp (.lst [.int (i + 1), .int b])) nm (.lst (names.map D.str))) sp (.lst [.int (i + 1 + 1), .int b])) pm (.lst (pp.map D.str))) ct (.lst (cD counts))) pr (.lst []) pr = some (.lst []) := up_same
  have g_px : Px sp S (up (up (up (up (up (up S sp (.lst [.int (i + 1), .int b])) nm (.lst (names.map D.str))) sp (.lst [.int (i + 1 + 1), .int b])) pm (.lst (pp.map D.str))) ct (.lst (cD counts))) pr (.lst [])) :=
    ((((Px.refl sp S).at.new hnm).at.new hpm).new hct).new hpr
  have q_nm : sp ≠ nm := n1
  have q_pm : sp ≠ pm := ne3 up_same hpm
  have q_ct : sp ≠ ct := ne3 (up_get up_same hpm) hct
  have q_pr : sp ≠ pr := ne3 (up_get (up_get up_same hpm) hct) hpr
  have r_nm : nm ≠ pr := ne3 (up_get (up_get (by rw [up_ne (Ne.symm n1)]; exact up_same) hpm) hct) hpr
  have r_pm : pm ≠ pr := ne3 (up_get up_same hct) hpr
  have r_ct : ct ≠ pr := ne3 up_same hpr
  have f_pr : S pr = none := ((((Px.refl sp S).at.new hnm).at.new hpm).new hct).free hpr (Ne.symm q_pr)
  generalize up (up (up (up (up (up S sp (.lst [.int (i + 1), .int b])) nm (.lst (names.map D.str))) sp (.lst [.int (i + 1 + 1), .int b])) pm (.lst (pp.map D.str))) ct (.lst (cD counts))) pr (.lst []) = S6 at *
  decreasing_trivial
  refine ⟨fun j σ S' => ∃ (ers : List Er) (i1 b1 : Int) (x10 x11 : Option D), σ = [some (.rol (ns.map D.int)), some (.ref sp), some (.int most), some (.int deep), some (.int head), some (.int many), some (.ref nm), some (.ref pm), some (.ref ct), some (.ref pr), x10, x11] ∧
    S' sp = some (.lst [.int i1, .int b1]) ∧ S' nm = some (.lst (names.map D.str)) ∧ S' pm = some (.lst (pp.map D.str)) ∧ S' ct = some (.lst (cD counts)) ∧ S' pr = some (.lst (ers.map Er.d)) ∧ Px sp S S' ∧
    ers.length = j ∧ 0 ≤ i1 ∧ 0 ≤ b1 ∧ ers.map Er.name = names.take j ∧ (ers.map fun e => e.ps.length) = counts.take j ∧ (∀ e ∈ ers, ErOk (arOf names counts) deep.toNat e) ∧ (((ers.map fun e => e.body.sends).sum : Nat) : Int) + b1 ≤ b,
    ⟨[], i + 1 + 1, b, none, none, rfl, g_sp, g_nm, g_pm, g_ct, g_pr, g_px, rfl, by omega, hb, rfl, rfl, by simp, by simp⟩, fun _ _ _ _ => trivial, ?turn, ?done⟩
  case turn =>
    clear g_sp g_nm g_pm g_ct g_pr g_px
    rintro j d σ S' hd ⟨ers, i1, b1, x10, x11, rfl, g_sp, g_nm, g_pm, g_ct, g_pr, g_px, hl, hi1, hb1, en, ec, hk, hs⟩
    obtain ⟨hj, rfl⟩ := nums_at hd
    have c0 := Int.emod_nonneg (0 + (j : Int)) (show (4 : Int) ≠ 0 by decide)
    have ap : ∀ {α : Type} {f : α → D} {xs : List α} {v : α}, xs[j]? = some v → atI (xs.map f) (0 + (j : Int)) = some (f v) := fun {α f xs v} hv => by
      have e : (0 : Int) + (j : Int) = ((j : Nat) : Int) := by omega
      rw [e]
      refine atI_nat ?_
      rw [List.getElem?_map, hv]
      rfl
    obtain ⟨cn, hcn⟩ : ∃ cn, counts[j]? = some cn := ⟨_, List.getElem?_eq_getElem (by omega)⟩
    obtain ⟨nj, hnj⟩ : ∃ nj, names[j]? = some nj := ⟨_, List.getElem?_eq_getElem (by omega)⟩
    have hcn4 := hc4 cn (List.mem_of_getElem? hcn)
    decreasing_trivial
    rw [cutD_from c0]
    intro p1 hp1
    have g1 := up_get (o := .lst ((pp.map D.str).drop ((0 + (j : Int)) % 4).toNat)) g_pm hp1
    decreasing_trivial
    rw [cutD_to c0]
    intro p2 hp2
    have hpl := Rp.len
    refine j_catL (up_get up_same hp2) up_same ?_ ?_
    · rw [List.length_drop, List.length_take, List.length_map]
      exact small_le (by omega)
    intro p3 hp3
    decreasing_trivial
    refine j_ixL (up_get (up_get (up_get g_ct hp1) hp2) hp3) (ap hcn) ?_
    decreasing_trivial
    rw [cutD_to (by omega), Int.toNat_natCast]
    intro p4 hp4
    decreasing_trivial
    obtain ⟨mine, hmine⟩ : ∃ mine, mine = (pp.drop ((0 + (j : Int)) % 4).toNat ++ pp.take ((0 + (j : Int)) % 4).toNat).take cn := ⟨_, rfl⟩
    have em : ((pp.map D.str).drop ((0 + (j : Int)) % 4).toNat ++ (pp.map D.str).take ((0 + (j : Int)) % 4).toNat).take cn = mine.map D.str := by
      rw [hmine, ← List.map_drop, ← List.map_take, ← List.map_append, ← List.map_take]
    rw [em]
    have hmo : mine.length = cn ∧ mine.Nodup ∧ ∀ x ∈ mine, NameOk x := by
      rw [hmine]
      exact ps_ok Rp.turn (by show cn ≤ 4; omega)
    have hsub := ((((Sub.refl S').up (o := .lst ((pp.map D.str).drop ((0 + (j : Int)) % 4).toNat)) hp1).up (o := .lst ((pp.map D.str).take ((0 + (j : Int)) % 4).toNat)) hp2).up
      (o := .lst ((pp.map D.str).drop ((0 + (j : Int)) % 4).toNat ++ (pp.map D.str).take ((0 + (j : Int)) % 4).toNat)) hp3).up (o := .lst (mine.map D.str)) hp4
    generalize up (up (up (up S' p1 _) p2 _) p3 _) p4 _ = S5 at hsub ⊢
    replace g_sp := hsub _ _ g_sp
    replace g_nm := hsub _ _ g_nm
    replace g_pm := hsub _ _ g_pm
    replace g_ct := hsub _ _ g_ct
    replace g_pr := hsub _ _ g_pr
    replace g_px := g_px.ext hsub
    decreasing_trivial
    refine j_ixL g_nm (ap hnj) ?_
    decreasing_trivial
    refine ⟨ns, sp, nm, ct, i1, b1, deep, names, mine, counts, rfl, g_sp, g_nm, g_ct, q_nm, q_ct, hi1, hb1, d1, dn, by omega, by omega, by omega, Rn.nd, by omega, hc4, fun s i2 b2 hw hdp hi2 hb2 hs2 => ?_⟩
    decreasing_trivial
    have h_pr : up S5 sp (.lst [.int i2, .int b2]) pr = some (.lst (ers.map Er.d)) := by rw [up_ne (Ne.symm q_pr)]; exact g_pr
    refine j_append h_pr (by rw [List.length_map]; exact small_lt (by omega)) ?_
    have ee : ers.map Er.d ++ [D.tup [D.str nj, D.tup (mine.map D.str), s.d]] = (ers ++ [(⟨nj, mine, s⟩ : Er)]).map Er.d := by simp [Er.d]
    rw [ee]
    refine ⟨ers ++ [(⟨nj, mine, s⟩ : Er)], i2, b2, _, _, rfl, ?_, ?_, ?_, ?_, up_same, (g_px.at).fresh f_pr, by simp [hl], by omega, hb2, ?_, ?_, ?_, ?_⟩
    · rw [up_ne q_pr]; exact up_same
    · rw [up_ne r_nm, up_ne (Ne.symm q_nm)]; exact g_nm
    · rw [up_ne r_pm, up_ne (Ne.symm q_pm)]; exact g_pm
    · rw [up_ne r_ct, up_ne (Ne.symm q_ct)]; exact g_ct
    · rw [List.take_succ, hnj, List.map_append, en]; rfl
    · rw [List.take_succ, hcn, List.map_append, ec]
      show counts.take j ++ [mine.length] = _
      rw [hmo.1]
      rfl
    · intro e he
      rcases List.mem_append.mp he with he | he
      · exact hk e he
      · rw [List.mem_singleton.mp he]
        exact ⟨by show 1 ≤ mine.length; omega, by show mine.length ≤ 4; omega, hmo.2.1, hmo.2.2, hw, by show s.deep ≤ _; omega⟩
    · rw [List.map_append, List.sum_append]
      simp only [List.map_cons, List.map_nil, List.sum_cons, List.sum_nil]
      omega
  rintro σ S' ⟨ers, i1, b1, x10, x11, rfl, g_sp, g_nm, g_pm, g_ct, g_pr, g_px, hl, hi1, hb1, en, ec, hk, hs⟩
  rw [nums_len] at hl en ec
  rw [List.take_of_length_le (by omega)] at en ec
  decreasing_trivial
  refine ⟨pr, _, sp, _, rfl, f_pr, by rw [hsp]; simp, g_px.sub g_sp, g_pr, hq ers i1 b1 (good_of Rn en ec (by omega) (by omega) hk (by omega))⟩

/-- a saying without sends over ps, no deeper than n -/
structure Plain (ps : List Str) (n : Nat) (s : Sy) : Prop where
  wf : ∀ ar, s.wf ar ps
  deep : s.deep ≤ n
  sends : s.sends = 0
  size : s.pre.length + 1 ≤ 2 ^ n
theorem pres_cons_len (a : Sy) (as : List Sy) : (Sy.pres (a :: as)).length = a.pre.length + (Sy.pres as).length := by simp [Sy.pres]
theorem pre_len1 (s : Sy) : s.pre.length = 1 + (Sy.pres s.parts).length := by rw [Sy.pre_parts]; simp; omega
theorem plain_name {ps : List Str} {x : Str} (h : x ∈ ps) : Plain ps 1 (.name x) := ⟨fun _ => h, by simp [Sy.deep], by simp [Sy.sends, Sy.pre], by simp [Sy.pre]⟩
theorem Plain.one {ps : List Str} {n : Nat} {s : Sy} (h : Plain ps n s) : (Sy.pres [s]).length + 2 ≤ 2 ^ (n + 1) := by
  have := h.size
  rw [pres_cons_len, Nat.pow_succ]
  simp [Sy.pres]
  omega
theorem Plain.left {ps : List Str} {n : Nat} {s : Sy} (h : Plain ps n s) : Plain ps (n + 1) (.left s) := ⟨h.wf, by have := h.deep; simp only [Sy.deep]; omega, by rw [Sy.sends_parts]; simp only [Sy.parts, Sy.sendss_cons, h.sends]; simp [Sy.sendss, Sy.pres],
  by have := h.one; rw [pre_len1]; simp only [Sy.parts]; omega⟩
theorem Plain.right {ps : List Str} {n : Nat} {s : Sy} (h : Plain ps n s) : Plain ps (n + 1) (.right s) := ⟨h.wf, by have := h.deep; simp only [Sy.deep]; omega, by rw [Sy.sends_parts]; simp only [Sy.parts, Sy.sendss_cons, h.sends]; simp [Sy.sendss, Sy.pres],
  by have := h.one; rw [pre_len1]; simp only [Sy.parts]; omega⟩
theorem Plain.pair {ps : List Str} {n : Nat} {s t : Sy} (h : Plain ps n s) (h' : Plain ps n t) : Plain ps (n + 1) (.pair s t) := ⟨fun ar => ⟨h.wf ar, h'.wf ar⟩, by have := h.deep; have := h'.deep; simp only [Sy.deep]; omega, by rw [Sy.sends_parts]; simp only [Sy.parts, Sy.sendss_cons, h.sends, h'.sends]; simp [Sy.sendss, Sy.pres],
  by have := h.size; have := h'.size; rw [pre_len1, Nat.pow_succ]; simp only [Sy.parts, pres_cons_len]; simp [Sy.pres]; omega⟩
theorem Plain.mono {ps : List Str} {n m : Nat} {s : Sy} (h : Plain ps n s) (hm : n ≤ m) : Plain ps m s := ⟨h.wf, Nat.le_trans h.deep hm, h.sends, Nat.le_trans h.size (Nat.pow_le_pow_right (by decide) hm)⟩
theorem j_two {S : Hp3} {Q : K3} {a : Addr} {x y : D} {c : Int} (hS : S a = some (.lst [x, y])) (q0 : Q x S) (q1 : Q y S) : ixL3 (.ref a) (.int (c % 2)) S Q := by
  have m2 : c % 2 = 0 ∨ c % 2 = 1 := by omega
  rcases m2 with m | m
  · exact j_ixL hS (by rw [m]; rfl) q0
  · exact j_ixL hS (by rw [m]; rfl) q1
def sp_path : Sp3 := vS fun ds q => ∃ (cell : Int) (ps : List Str), ds = [.int cell, .tup (ps.map D.str)] ∧ 1 ≤ ps.length ∧ ps.length ≤ 4 ∧ ∀ s : Sy, Plain ps 4 s → q s.d
theorem ok_path {k : Nat} (h : Has K mg "_law_path" s_path ["cell", "params"]) (G : Gs K mg) : Cal3 P w K mg base (k + 1) "_law_path" ["cell", "params"] sp_path := by
  refine h.val sc_path (fun ds q ⟨_, _, e, _⟩ => by rw [e]; rfl) fun f cdv A outer s0 H E ds q hr hA => ?_
  obtain ⟨cell, ps, rfl, l1, l4, hq⟩ := hA
  obtain ⟨jp, vp, ejp, hvp, hap⟩ := at_modM (f := D.str) cell (show 0 < ps.length by omega)
  have hpl : (0 : Int) < ((ps.map D.str).length : Int) := by rw [List.length_map]; omega
  have n4 : 0 ≤ cell / 4 % 4 ∧ cell / 4 % 4 < 4 := by omega
  refine ⟨_, (s_cons (s_set (i := 2) sc_path.nd rfl (Or.inl rfl) (e_tup (a_cons e_str (a_cons (e_ix ix_tup dn_ixT (e_v 1) (e_op op_mod dn_intC (e_v 0) (e_callB call_len_seq dn_len rfl G.len PySem.boot_len (a_cons (e_v 1) a_nil))) (fun _ _ => rfl)) a_nil))))
 (s_cons (s_for PassesOwn.never rfl (i_range1 rfl G.range (a_cons (e_op op_mod dn_intC (e_op op_fdiv dn_intC (e_v 0) e_int) e_int) a_nil)) (g_name (i := 3) sc_path.nd rfl (Or.inl rfl)) (s_one (s_set (i := 2) sc_path.nd rfl (Or.inl rfl) (e_tup (a_cons (e_ix ix_list dn_ixL (e_lst (a_cons e_str (a_cons e_str a_nil))) (e_op op_mod dn_intC (e_op op_fdiv dn_intC (e_v 0) (e_ix ix_list dn_ixL (e_lst (a_cons e_int (a_cons e_int (a_cons e_int a_nil)))) (e_v 3) (fun _ _ => rfl))) e_int) (fun _ _ => rfl)) (a_cons (e_v 2) a_nil))))))
 (s_one (s_ret (e_v 2))))), ?_⟩
  decreasing_trivial
  refine j_ixT hap ?_
  decreasing_trivial
  refine ⟨fun i σ S => ∃ (s : Sy) (x3 : Option D), σ = [some (.int cell), some (.tup (ps.map D.str)), some s.d, x3] ∧ Plain ps (1 + i) s, ⟨.name vp, none, rfl, plain_name (List.mem_of_getElem? hvp)⟩, fun _ _ _ _ => trivial, ?_, ?_⟩
  · rintro i d σ S hd ⟨s, x3, rfl, hs⟩
    obtain ⟨hi, rfl⟩ := nums_at hd
    decreasing_trivial
    intro p1 hp1
    decreasing_trivial
    intro p2 hp2
    decreasing_trivial
    have h3 : i = 0 ∨ i = 1 ∨ i = 2 := by omega
    have hl := up_get (o := .lst [.int 16, .int 32, .int 64]) (up_same (S := S) (a := p1) (o := .lst [.str "left", .str "right"])) hp2
    rcases h3 with rfl | rfl | rfl
    all_goals
      decreasing_trivial
      refine j_two hl ?_ ?_
      · decreasing_trivial
        exact ⟨.left s, _, rfl, by rw [← Nat.add_assoc]; exact hs.left⟩
      · decreasing_trivial
        exact ⟨.right s, _, rfl, by rw [← Nat.add_assoc]; exact hs.right⟩
  · rintro σ S ⟨s, x3, rfl, hs⟩
    rw [nums_len] at hs
    decreasing_trivial
    exact hq s (hs.mono (by omega))

def sp_arg : Sp3 := vS fun ds q => ∃ (cell : Int) (ps : List Str), ds = [.int cell, .tup (ps.map D.str)] ∧ 1 ≤ ps.length ∧ ps.length ≤ 4 ∧ ∀ s : Sy, Plain ps 5 s → q s.d
theorem ok_arg {k : Nat} (h : Has K mg "_law_arg" s_arg ["cell", "params"]) (C_path : Cal3 P w K mg base k "_law_path" ["cell", "params"] sp_path) : Cal3 P w K mg base (k + 1) "_law_arg" ["cell", "params"] sp_arg := by
  refine h.val sc_arg (fun ds q ⟨_, _, e, _⟩ => by rw [e]; rfl) fun f cdv A outer s0 H E ds q hr hA => ?_
  obtain ⟨cell, ps, rfl, l1, l4, hq⟩ := hA
  refine ⟨_, (s_cons (s_if (t_cmp op_eq dn_eqI (e_op op_mod dn_intC (e_v 0) e_int) e_int (nomark _)) (s_one (s_ret (e_tup (a_cons e_str a_nil)))) s_nil)
 (s_cons (s_if (t_cmp op_eq dn_eqI (e_op op_mod dn_intC (e_v 0) e_int) e_int (nomark _)) (s_one (s_ret (e_tup (a_cons e_str (a_cons (e_call C_path hr rfl (a_cons (e_op op_fdiv dn_intC (e_v 0) e_int) (a_cons (e_v 1) a_nil))) (a_cons (e_call C_path hr rfl (a_cons (e_op op_fdiv dn_intC (e_v 0) e_int) (a_cons (e_v 1) a_nil))) a_nil)))))) s_nil)
 (s_one (s_ret (e_call C_path hr rfl (a_cons (e_op op_fdiv dn_intC (e_v 0) e_int) (a_cons (e_v 1) a_nil))))))), ?_⟩
  by_cases h0 : cell % 9 = 0
  · decreasing_trivial
    exact hq .bud ⟨fun _ => trivial, by simp [Sy.deep], by simp [Sy.sends, Sy.pre], by simp [Sy.pre]⟩
  by_cases h1 : cell % 9 = 1
  · decreasing_trivial
    refine ⟨_, ps, rfl, l1, l4, fun a ha => ?_⟩
    decreasing_trivial
    refine ⟨_, ps, rfl, l1, l4, fun b hb => ?_⟩
    decreasing_trivial
    exact hq (.pair a b) (ha.pair hb)
  · decreasing_trivial
    refine ⟨_, ps, rfl, l1, l4, fun a ha => ?_⟩
    decreasing_trivial
    exact hq a (ha.mono (by decide))

/-- a send of plain sayings -/
structure SendOk (ar : Str → Option Nat) (ps : List Str) (x : Str) (as : List Sy) : Prop where
  ar : ar x = some as.length
  l1 : 1 ≤ as.length
  l4 : as.length ≤ 4
  plain : ∀ a ∈ as, Plain ps 5 a
def sp_send : Sp3 := wrV fun ds S q => ∃ (ns : List Int) (sp nm ct : Addr) (i : Int) (rest : List D) (names ps : List Str) (counts : List Nat), ds = [.rol (ns.map D.int), .ref sp, .ref nm, .ref ct, .tup (ps.map D.str)] ∧
  S sp = some (.lst (.int i :: rest)) ∧ S nm = some (.lst (names.map D.str)) ∧ S ct = some (.lst (cD counts)) ∧ sp ≠ nm ∧ sp ≠ ct ∧ 0 ≤ i ∧ 1 ≤ ps.length ∧ ps.length ≤ 4 ∧
  1 ≤ names.length ∧ names.Nodup ∧ names.length = counts.length ∧ (∀ c ∈ counts, 1 ≤ c ∧ c ≤ 4) ∧
  ∀ (x : Str) (as : List Sy) (i2 : Int), SendOk (arOf names counts) ps x as → 0 ≤ i2 → q (Sy.send x as).d sp (.lst (.int i2 :: rest))
theorem ok_send {k : Nat} (h : Has K mg "_law_send" s_send ["script", "spot", "names", "counts", "params"]) (G : Gs K mg) (C_next : Cal3 P w K mg base k "_law_next" ["script", "spot"] sp_next) (C_arg : Cal3 P w K mg base k "_law_arg" ["cell", "params"] sp_arg) :
    Cal3 P w K mg base (k + 1) "_law_send" ["script", "spot", "names", "counts", "params"] sp_send := by
  refine h.wrV sc_send (fun ds S q ⟨_, _, _, _, _, _, _, _, _, e, _⟩ => by rw [e]; rfl) fun f cdv A outer s0 H E ds S q hr hA => ?_
  obtain ⟨ns, sp, nm, ct, i, rest, names, ps, counts, rfl, hsp, hnm, hct, n1, n2, hi, l1, l4, m1, nd, hlc, hc4, hq⟩ := hA
  refine ⟨_, (s_cons (s_set (i := 5) sc_send.nd rfl (Or.inl rfl) (e_op op_mod dn_intC (e_call C_next hr rfl (a_cons (e_v 0) (a_cons (e_v 1) a_nil))) (e_callB call_len_seq dn_len rfl G.len PySem.boot_len (a_cons (e_v 2) a_nil))))
 (s_one (s_ret (e_tup (a_cons e_str (a_cons (e_ix ix_list dn_ixL (e_v 2) (e_v 5) (fun _ _ => rfl)) (a_cons (e_callTy call_tuple_of dn_toTup rfl G.tuple boot_tuple (a_cons (e_comp (osc := defScope s_send) (N := ["script", "spot", "names", "counts", "params", "to"]) (M := ["script", "spot", "params"]) (js := [0, 1, 4]) ⟨rfl, by decide +kernel, by decide +kernel, rfl, by decide +kernel, by decide +kernel, by decide +kernel⟩ (by decide +kernel) rfl (i_range1 rfl G.range (a_cons (e_ix ix_list dn_ixL (e_v 3) (e_v 5) (fun _ _ => rfl)) a_nil)) (fun _ _ _ _ _ => (e_call C_arg hr rfl (a_cons (e_call C_next hr rfl (a_cons (e_v 1) (a_cons (e_v 2) a_nil))) (a_cons (e_v 3) a_nil))))) a_nil)) a_nil))))))), ?_⟩
  have hnl : (0 : Int) < ((names.map D.str).length : Int) := by rw [List.length_map]; omega
  have nm1 : ∀ o, up S sp o nm = some (.lst (names.map D.str)) := fun o => by rw [up_ne (Ne.symm n1)]; exact hnm
  have ct1 : ∀ o, up S sp o ct = some (.lst (cD counts)) := fun o => by rw [up_ne (Ne.symm n2)]; exact hct
  decreasing_trivial
  refine ⟨ns, sp, i, rest, rfl, hsp, hi, ?_⟩
  have nm2 := nm1 (.lst (.int (i + 1) :: rest))
  have ct2 := ct1 (.lst (.int (i + 1) :: rest))
  obtain ⟨jt, vt, ejt, hvt, hat⟩ := at_modM (f := D.str) (cellAt ns i) (show 0 < names.length by omega)
  have hct' : jt < counts.length := by rw [← hlc]; exact (List.getElem?_eq_some_iff.mp hvt).1
  obtain ⟨cn, hcn⟩ : ∃ cn, counts[jt]? = some cn := ⟨_, List.getElem?_eq_getElem hct'⟩
  have hcn4 := hc4 cn (List.mem_of_getElem? hcn)
  have har : arOf names counts vt = some cn := arOf_at nd hvt hcn
  decreasing_trivial
  refine j_ixL nm2 hat ?_
  decreasing_trivial
  refine j_ixL ct2 (d := .int cn) (by rw [ejt]; refine atI_nat ?_; rw [List.getElem?_map, hcn]; rfl) ?_
  decreasing_trivial
  refine ⟨fun j ys S' => ∃ as : List Sy, ys = as.map Sy.d ∧ as.length = j ∧ j ≤ cn ∧ (∀ a ∈ as, Plain ps 5 a) ∧ S' = up S sp (.lst (.int (i + 1 + j) :: rest)), ⟨[], rfl, rfl, Nat.zero_le _, by simp, by simp⟩, ?_, ?_, ?_⟩
  · rintro j ys S' ⟨as, rfl, hl, hj, _, rfl⟩
    exact ⟨trivial, by rw [List.length_map]; exact small_lt (by omega)⟩
  · rintro j d ys S' hd ⟨as, rfl, hl, hj, hpl, rfl⟩
    obtain ⟨hj', rfl⟩ := nums_at hd
    decreasing_trivial
    refine ⟨ns, sp, i + 1 + j, rest, rfl, up_same, by omega, ?_⟩
    decreasing_trivial
    refine ⟨_, ps, rfl, l1, l4, fun a ha => ?_⟩
    refine ⟨as ++ [a], by simp, by simp [hl], by omega, fun b hb => ?_, ?_⟩
    · rcases List.mem_append.mp hb with hb | hb
      · exact hpl b hb
      · rw [List.mem_singleton.mp hb]; exact ha
    · rw [up_up]
      have : i + 1 + (j : Int) + 1 = i + 1 + ((j + 1 : Nat) : Int) := by omega
      rw [this]
  rintro ys S' ⟨as, rfl, hl, hj, hpl, rfl⟩
  rw [nums_len, Int.toNat_natCast] at hl
  intro p1 hp1
  decreasing_trivial
  have e : D.tup [.str "send", .str vt, .tup (as.map Sy.d)] = (Sy.send vt as).d := by simp only [Sy.d, Sy.ds_map]
  rw [e]
  exact ⟨sp, _, ((Px.refl sp S).at.new hp1).sub (up_get up_same hp1), hq vt as _ ⟨by rw [hl]; exact har, by omega, by omega, hpl⟩ (by omega)⟩

/-- a saying within bounds: so deep, so many sends, so many sayings -/
structure Bd (ar : Str → Option Nat) (ps : List Str) (n m z : Nat) (s : Sy) : Prop where
  wf : s.wf ar ps
  deep : s.deep ≤ n
  sends : s.sends ≤ m
  size : s.pre.length ≤ z
theorem Plain.bd {ar : Str → Option Nat} {ps : List Str} {n : Nat} {s : Sy} (h : Plain ps n s) : Bd ar ps n 0 (2 ^ n) s := ⟨h.wf ar, h.deep, by rw [h.sends]; exact Nat.le_refl _, by have := h.size; omega⟩
theorem Bd.mono {ar : Str → Option Nat} {ps : List Str} {n m z n' m' z' : Nat} {s : Sy} (h : Bd ar ps n m z s) (h1 : n ≤ n') (h2 : m ≤ m') (h3 : z ≤ z') : Bd ar ps n' m' z' s := ⟨h.wf, Nat.le_trans h.deep h1, Nat.le_trans h.sends h2, Nat.le_trans h.size h3⟩
theorem Bd.pair {ar : Str → Option Nat} {ps : List Str} {n m z m' z' : Nat} {s t : Sy} (h : Bd ar ps n m z s) (h' : Bd ar ps n m' z' t) : Bd ar ps (n + 1) (m + m') (1 + z + z') (.pair s t) :=
  ⟨⟨h.wf, h'.wf⟩, by have := h.deep; have := h'.deep; simp only [Sy.deep]; omega, by have := h.sends; have := h'.sends; rw [Sy.sends_parts]; simp only [Sy.parts, Sy.sendss_cons]; simp [Sy.sendss, Sy.pres]; omega,
    by have := h.size; have := h'.size; rw [pre_len1]; simp only [Sy.parts, pres_cons_len]; simp [Sy.pres]; omega⟩
theorem Bd.fork {ar : Str → Option Nat} {ps : List Str} {n m z m' z' m2 z2 : Nat} {s t u : Sy} (h : Bd ar ps n m z s) (h' : Bd ar ps n m' z' t) (h2 : Bd ar ps n m2 z2 u) : Bd ar ps (n + 1) (m + m' + m2) (1 + z + z' + z2) (.fork s t u) :=
  ⟨⟨h.wf, h'.wf, h2.wf⟩, by have := h.deep; have := h'.deep; have := h2.deep; simp only [Sy.deep]; omega, by have := h.sends; have := h'.sends; have := h2.sends; rw [Sy.sends_parts]; simp only [Sy.parts, Sy.sendss_cons]; simp [Sy.sendss, Sy.pres]; omega,
    by have := h.size; have := h'.size; have := h2.size; rw [pre_len1]; simp only [Sy.parts, pres_cons_len]; simp [Sy.pres]; omega⟩
theorem plains_bd {ps : List Str} : ∀ {as : List Sy}, (∀ a ∈ as, Plain ps 5 a) → Sy.sendss as = 0 ∧ (Sy.pres as).length ≤ 31 * as.length
  | [], _ => by simp [Sy.sendss, Sy.pres]
  | a :: as, h => by
    have h1 := h a List.mem_cons_self
    have h2 := plains_bd (as := as) fun b hb => h b (List.mem_cons_of_mem _ hb)
    have := h1.sends
    have := h1.size
    rw [Sy.sendss_cons, pres_cons_len, List.length_cons]
    omega
theorem SendOk.bd {ar : Str → Option Nat} {ps : List Str} {x : Str} {as : List Sy} (h : SendOk ar ps x as) : Bd ar ps 6 1 125 (.send x as) := by
  obtain ⟨h1, h2⟩ := plains_bd h.plain
  have := h.l4
  refine ⟨⟨h.ar, h.l1, h.l4, Sy.wfs_iff.mpr fun a ha => (h.plain a ha).wf ar⟩, ?_, ?_, ?_⟩
  · have := Sy.deeps_le (as := as) (n := 5) fun a ha => (h.plain a ha).deep
    simp only [Sy.deep]
    omega
  · rw [Sy.sends_parts]
    simp only [Sy.parts]
    omega
  · rw [pre_len1]
    simp only [Sy.parts]
    omega
/-- sayings put ahead of the rest of a send's -/
theorem SendOk.put {ar : Str → Option Nat} {ps : List Str} {x : Str} {as : List Sy} {n m z : Nat} (h : SendOk ar ps x as) (hn : 5 ≤ n) (bs : List Sy) (hb : ∀ b ∈ bs, b.wf ar ps ∧ b.deep ≤ n) (hs : Sy.sendss bs ≤ m) (hz : (Sy.pres bs).length ≤ z) (hl : bs.length ≤ as.length) (h1 : 1 ≤ bs.length) :
    Bd ar ps (n + 1) (m + 1) (1 + z + 124) (.send x (bs ++ as.drop bs.length)) := by
  have hp : ∀ a ∈ as.drop bs.length, Plain ps 5 a := fun a ha => h.plain a (List.mem_of_mem_drop ha)
  obtain ⟨e1, e2⟩ := plains_bd hp
  have := h.l4
  have hlen : (bs ++ as.drop bs.length).length = as.length := by rw [List.length_append, List.length_drop]; omega
  have hall : ∀ a ∈ bs ++ as.drop bs.length, a.wf ar ps ∧ a.deep ≤ n := fun a ha => by
    rcases List.mem_append.mp ha with ha | ha
    · exact hb a ha
    · exact ⟨(hp a ha).wf ar, Nat.le_trans (hp a ha).deep hn⟩
  rw [List.length_drop] at e2
  refine ⟨⟨by rw [hlen]; exact h.ar, by rw [hlen]; exact h.l1, by rw [hlen]; exact h.l4, Sy.wfs_iff.mpr fun a ha => (hall a ha).1⟩, ?_, ?_, ?_⟩
  · have := Sy.deeps_le (as := bs ++ as.drop bs.length) (n := n) fun a ha => (hall a ha).2
    simp only [Sy.deep]
    omega
  · rw [Sy.sends_parts]
    simp only [Sy.parts, Sy.sendss_append]
    omega
  · rw [pre_len1]
    simp only [Sy.parts, Sy.pres_append, List.length_append]
    omega
def sp_body : Sp3 := wrV fun ds S q => ∃ (ns : List Int) (sp nm ct : Addr) (i : Int) (rest : List D) (names ps : List Str) (counts : List Nat), ds = [.rol (ns.map D.int), .ref sp, .ref nm, .ref ct, .tup (ps.map D.str)] ∧
  S sp = some (.lst (.int i :: rest)) ∧ S nm = some (.lst (names.map D.str)) ∧ S ct = some (.lst (cD counts)) ∧ sp ≠ nm ∧ sp ≠ ct ∧ 0 ≤ i ∧ 1 ≤ ps.length ∧ ps.length ≤ 4 ∧
  1 ≤ names.length ∧ names.Nodup ∧ names.length = counts.length ∧ (∀ c ∈ counts, 1 ≤ c ∧ c ≤ 4) ∧
  ∀ (s : Sy) (i2 : Int), Bd (arOf names counts) ps 12 6 1500 s → 0 ≤ i2 → q s.d sp (.lst (.int i2 :: rest))
theorem ok_body {k : Nat} (h : Has K mg "_law_body" s_body ["script", "spot", "names", "counts", "params"]) (G : Gs K mg) (C_next : Cal3 P w K mg base k "_law_next" ["script", "spot"] sp_next) (C_arg : Cal3 P w K mg base k "_law_arg" ["cell", "params"] sp_arg)
    (C_path : Cal3 P w K mg base k "_law_path" ["cell", "params"] sp_path) (C_send : Cal3 P w K mg base k "_law_send" ["script", "spot", "names", "counts", "params"] sp_send) :
    Cal3 P w K mg base (k + 1) "_law_body" ["script", "spot", "names", "counts", "params"] sp_body := by
  refine h.wrV sc_body (fun ds S q ⟨_, _, _, _, _, _, _, _, _, e, _⟩ => by rw [e]; rfl) fun f cdv A outer s0 H E ds S q hr hA => ?_
  obtain ⟨ns, sp, nm, ct, i, rest, names, ps, counts, rfl, hsp, hnm, hct, n1, n2, hi, l1, l4, m1, nd, hlc, hc4, hq⟩ := hA
  refine ⟨_, (s_cons (s_set (i := 5) sc_body.nd rfl (Or.inl rfl) (e_call C_next hr rfl (a_cons (e_v 0) (a_cons (e_v 1) a_nil))))
 (s_cons (s_set (i := 6) sc_body.nd rfl (Or.inl rfl) (e_call C_send hr rfl (a_cons (e_v 0) (a_cons (e_v 1) (a_cons (e_v 2) (a_cons (e_v 3) (a_cons (e_v 4) a_nil)))))))
 (s_cons (s_ifm (t_cmp op_eq dn_eqI (e_op op_mod dn_intC (e_v 5) e_int) e_int (nomark _)) (s_one (s_set (i := 6) sc_body.nd rfl (Or.inl rfl) (e_tup (a_cons e_str (a_cons (e_v 6) (a_cons (e_call C_path hr rfl (a_cons (e_op op_fdiv dn_intC (e_v 5) e_int) (a_cons (e_v 4) a_nil))) a_nil)))))) s_nil)
 (s_cons (s_ifm (t_cmp op_eq dn_eqI (e_op op_mod dn_intC (e_v 5) e_int) e_int (nomark _)) (s_cons (s_set (i := 7) sc_body.nd rfl (Or.inl rfl) (e_call C_send hr rfl (a_cons (e_v 0) (a_cons (e_v 1) (a_cons (e_v 2) (a_cons (e_v 3) (a_cons (e_v 4) a_nil)))))))
 (s_cons (s_set (i := 8) sc_body.nd rfl (Or.inl rfl) (e_op op_catT dn_catT (e_tup (a_cons (e_v 6) a_nil)) (e_slice sl_tupA dn_slT (e_ix ix_tup dn_ixT (e_v 7) e_int (fun _ _ => rfl)) (p_some e_int) p_none)))
 (s_cons (s_ifm (PW3.pt (w_and (t_cmp op_eq dn_eqI (e_op op_mod dn_intC (e_op op_fdiv dn_intC (e_v 5) e_int) e_int) e_int (nomark _)) (w_and1 (t_cmp op_gt dn_intB (e_callB call_len_seq dn_len rfl G.len PySem.boot_len (a_cons (e_v 8) a_nil)) e_int (nomark _))))) (s_one (s_set (i := 8) sc_body.nd rfl (Or.inl rfl) (e_op op_catT dn_catT (e_tup (a_cons (e_v 6) (a_cons (e_call C_send hr rfl (a_cons (e_v 0) (a_cons (e_v 1) (a_cons (e_v 2) (a_cons (e_v 3) (a_cons (e_v 4) a_nil)))))) a_nil))) (e_slice sl_tupA dn_slT (e_v 8) (p_some e_int) p_none)))) s_nil)
 (s_one (s_set (i := 6) sc_body.nd rfl (Or.inl rfl) (e_tup (a_cons e_str (a_cons (e_ix ix_tup dn_ixT (e_v 7) e_int (fun _ _ => rfl)) (a_cons (e_v 8) a_nil))))))))) s_nil)
 (s_cons (s_ifm (t_cmp op_eq dn_eqI (e_op op_mod dn_intC (e_v 5) e_int) e_int (nomark _)) (s_one (s_set (i := 6) sc_body.nd rfl (Or.inl rfl) (e_tup (a_cons e_str (a_cons (e_v 6) (a_cons (e_call C_send hr rfl (a_cons (e_v 0) (a_cons (e_v 1) (a_cons (e_v 2) (a_cons (e_v 3) (a_cons (e_v 4) a_nil)))))) a_nil)))))) s_nil)
 (s_cons (s_set (i := 9) sc_body.nd rfl (Or.inl rfl) (e_call C_arg hr rfl (a_cons (e_op op_fdiv dn_intC (e_v 5) e_int) (a_cons (e_v 4) a_nil))))
 (s_cons (s_ifm (t_cmp op_eq dn_eqI (e_op op_mod dn_intC (e_op op_fdiv dn_intC (e_v 5) e_int) e_int) e_int (nomark _)) (s_one (s_set (i := 9) sc_body.nd rfl (Or.inl rfl) (e_call C_send hr rfl (a_cons (e_v 0) (a_cons (e_v 1) (a_cons (e_v 2) (a_cons (e_v 3) (a_cons (e_v 4) a_nil)))))))) s_nil)
 (s_cons (s_ifm (t_cmp op_eq dn_eqI (e_op op_mod dn_intC (e_op op_fdiv dn_intC (e_v 5) e_int) e_int) e_int (nomark _)) (s_one (s_ret (e_v 6))) s_nil)
 (s_one (s_ret (e_tup (a_cons e_str (a_cons (e_call C_path hr rfl (a_cons (e_call C_next hr rfl (a_cons (e_v 0) (a_cons (e_v 1) a_nil))) (a_cons (e_v 4) a_nil))) (a_cons (e_v 6) (a_cons (e_v 9) a_nil))))))))))))))), ?_⟩
  have nm1 : ∀ o, up S sp o nm = some (.lst (names.map D.str)) := fun o => by rw [up_ne (Ne.symm n1)]; exact hnm
  have ct1 : ∀ o, up S sp o ct = some (.lst (cD counts)) := fun o => by rw [up_ne (Ne.symm n2)]; exact hct
  have fin : ∀ (s : Sy) (i2 : Int), Bd (arOf names counts) ps 12 6 1500 s → 0 ≤ i2 → ∃ a o, Sub (up S a o) (up S sp (.lst (.int i2 :: rest))) ∧ q s.d a o := fun s i2 h1 h2 => ⟨sp, _, Sub.refl _, hq s i2 h1 h2⟩
  have snd : ∀ (i1 : Int) (Q : K3), 0 ≤ i1 → (∀ (x : Str) (as : List Sy) (i2 : Int), SendOk (arOf names counts) ps x as → 0 ≤ i2 → Q (Sy.send x as).d (up S sp (.lst (.int i2 :: rest)))) →
      sp_send [.rol (ns.map D.int), .ref sp, .ref nm, .ref ct, .tup (ps.map D.str)] (up S sp (.lst (.int i1 :: rest))) Q (fun _ _ _ => False) := fun i1 Q h1 h2 =>
    ⟨ns, sp, nm, ct, i1, rest, names, ps, counts, rfl, up_same, nm1 _, ct1 _, n1, n2, h1, l1, l4, m1, nd, hlc, hc4, fun x as i2 ho hi2 => by
      show Q _ (up (up S sp _) sp _)
      rw [up_up]
      exact h2 x as i2 ho hi2⟩
  decreasing_trivial
  refine ⟨ns, sp, i, rest, rfl, hsp, hi, ?_⟩
  generalize cellAt ns i = shape
  decreasing_trivial
  refine snd _ _ (by omega) fun x0 as0 i0 ho0 hi0 => ?_
  decreasing_trivial
  refine j_ifm (fun σ T => ∃ (s : Sy), σ = [some (.rol (ns.map D.int)), some (.ref sp), some (.ref nm), some (.ref ct), some (.tup (ps.map D.str)), some (.int shape), some s.d, none, none, none] ∧ T = up S sp (.lst (.int i0 :: rest)) ∧ Bd (arOf names counts) ps 7 1 200 s) ?_ ?_
  · intro n' hn'
    by_cases c1 : shape % 4 = 1
    · decreasing_trivial
      refine ⟨_, ps, rfl, l1, l4, fun p hp => ?_⟩
      decreasing_trivial
      exact hn' _ _ ⟨.pair (.send x0 as0) p, rfl, rfl, (ho0.bd.pair (hp.bd.mono (n' := 6) (by decide) (Nat.le_refl _) (Nat.le_refl _))).mono (by decide) (by decide) (by decide)⟩
    · decreasing_trivial
      exact hn' _ _ ⟨.send x0 as0, rfl, rfl, ho0.bd.mono (by decide) (by decide) (by decide)⟩
  rintro σ T ⟨s, rfl, rfl, hs⟩
  decreasing_trivial
  refine j_ifm (fun σ T => ∃ (s : Sy) (x7 x8 : Option D) (i1 : Int), σ = [some (.rol (ns.map D.int)), some (.ref sp), some (.ref nm), some (.ref ct), some (.tup (ps.map D.str)), some (.int shape), some s.d, x7, x8, none] ∧ 0 ≤ i1 ∧ T = up S sp (.lst (.int i1 :: rest)) ∧ Bd (arOf names counts) ps 8 3 600 s) ?_ ?_
  · intro n' hn'
    by_cases c1 : shape % 4 = 2
    · decreasing_trivial
      refine snd _ _ (by omega) fun x1 as1 i1 ho1 hi1 => ?_
      simp only [Sy.d, Sy.ds_map]
      have hl1 := ho1.l1
      have hl4 := ho1.l4
      decreasing_trivial
      rw [cutD_from (by decide)]
      refine j_catT (by simp) (small_le (by simp; omega)) ?_
      decreasing_trivial
      have er : [s.d] ++ (as1.map Sy.d).drop (Int.toNat 1) = ([s] ++ as1.drop [s].length).map Sy.d := by simp
      rw [er]
      refine j_ifm (fun σ T => ∃ (bs : List Sy) (i2 : Int), σ = [some (.rol (ns.map D.int)), some (.ref sp), some (.ref nm), some (.ref ct), some (.tup (ps.map D.str)), some (.int shape), some s.d, some (.tup [.str "send", .str x1, .tup (as1.map Sy.d)]), some (.tup ((bs ++ as1.drop bs.length).map Sy.d)), none] ∧
        0 ≤ i2 ∧ T = up S sp (.lst (.int i2 :: rest)) ∧ (∀ b ∈ bs, b.wf (arOf names counts) ps ∧ b.deep ≤ 7) ∧ Sy.sendss bs ≤ 2 ∧ (Sy.pres bs).length ≤ 325 ∧ bs.length ≤ as1.length ∧ 1 ≤ bs.length) ?_ ?_
      · intro n2 hn2
        have one : Sy.sendss [s] ≤ 1 ∧ (Sy.pres [s]).length ≤ 200 := by
          have := hs.sends
          have := hs.size
          rw [Sy.sendss_cons, pres_cons_len]
          simp [Sy.sendss, Sy.pres]
          omega
        have stay : n2 [some (.rol (ns.map D.int)), some (.ref sp), some (.ref nm), some (.ref ct), some (.tup (ps.map D.str)), some (.int shape), some s.d, some (.tup [.str "send", .str x1, .tup (as1.map Sy.d)]), some (.tup (([s] ++ as1.drop [s].length).map Sy.d)), none] (up S sp (.lst (.int i1 :: rest))) :=
          hn2 _ _ ⟨[s], i1, rfl, hi1, rfl, fun b hb => by rw [List.mem_singleton.mp hb]; exact ⟨hs.wf, hs.deep⟩, by omega, by omega, by simpa using hl1, by simp⟩
        have elen : ((([s] ++ as1.drop [s].length).map Sy.d).length : Int) = (as1.length : Int) := by
          rw [List.length_map, List.length_append, List.length_drop]
          simp
          omega
        by_cases c2 : shape / 20 % 3 = 1
        · by_cases c3 : (1 : Int) < (as1.length : Int)
          · decreasing_trivial
            refine snd _ _ (by omega) fun x2 as2 i2 ho2 hi2 => ?_
            decreasing_trivial
            rw [cutD_from (by decide)]
            refine j_catT (by simp) (small_le (by simp; omega)) ?_
            have e2 : [s.d, (Sy.send x2 as2).d] ++ (([s] ++ as1.drop [s].length).map Sy.d).drop (Int.toNat 2) = ([s, .send x2 as2] ++ as1.drop [s, .send x2 as2].length).map Sy.d := by simp
            rw [e2]
            have b2 := ho2.bd
            refine hn2 _ _ ⟨[s, .send x2 as2], i2, rfl, hi2, rfl, fun b hb => ?_, ?_, ?_, ?_, by simp⟩
            · simp only [List.mem_cons, List.not_mem_nil, or_false] at hb
              rcases hb with rfl | rfl
              · exact ⟨hs.wf, hs.deep⟩
              · exact ⟨b2.wf, Nat.le_trans b2.deep (by decide)⟩
            · have := hs.sends
              have := b2.sends
              rw [Sy.sendss_cons, Sy.sendss_cons]
              simp [Sy.sendss, Sy.pres]
              omega
            · have := hs.size
              have := b2.size
              rw [pres_cons_len, pres_cons_len]
              simp [Sy.pres]
              omega
            · simp
              omega
          · decreasing_trivial
            exact stay
        · decreasing_trivial
          exact stay
      rintro σ T ⟨bs, i2, rfl, hi2, rfl, hb1, hb2, hb3, hb4, hb5⟩
      decreasing_trivial
      refine hn' _ _ ⟨.send x1 (bs ++ as1.drop bs.length), _, _, i2, by simp only [Sy.d, Sy.ds_map]; rfl, hi2, rfl, (ho1.put (by decide) bs hb1 hb2 hb3 hb4 hb5).mono (by decide) (by decide) (by decide)⟩
    · decreasing_trivial
      exact hn' _ _ ⟨s, none, none, i0, rfl, hi0, rfl, hs.mono (by decide) (by decide) (by decide)⟩
  rintro σ T ⟨s, x7, x8, i1, rfl, hi1, rfl, hs⟩
  decreasing_trivial
  refine j_ifm (fun σ T => ∃ (s : Sy) (i2 : Int), σ = [some (.rol (ns.map D.int)), some (.ref sp), some (.ref nm), some (.ref ct), some (.tup (ps.map D.str)), some (.int shape), some s.d, x7, x8, none] ∧ 0 ≤ i2 ∧ T = up S sp (.lst (.int i2 :: rest)) ∧ Bd (arOf names counts) ps 9 4 800 s) ?_ ?_
  · intro n' hn'
    by_cases c1 : shape % 4 = 3
    · decreasing_trivial
      refine snd _ _ (by omega) fun x2 as2 i2 ho2 hi2 => ?_
      decreasing_trivial
      exact hn' _ _ ⟨.pair s (.send x2 as2), i2, rfl, hi2, rfl, (hs.pair (ho2.bd.mono (n' := 8) (by decide) (Nat.le_refl _) (Nat.le_refl _))).mono (by decide) (by decide) (by decide)⟩
    · decreasing_trivial
      exact hn' _ _ ⟨s, i1, rfl, hi1, rfl, hs.mono (by decide) (by decide) (by decide)⟩
  rintro σ T ⟨s, i2, rfl, hi2, rfl, hs⟩
  decreasing_trivial
  refine ⟨_, ps, rfl, l1, l4, fun a ha => ?_⟩
  decreasing_trivial
  refine j_ifm (fun σ T => ∃ (t : Sy) (i3 : Int), σ = [some (.rol (ns.map D.int)), some (.ref sp), some (.ref nm), some (.ref ct), some (.tup (ps.map D.str)), some (.int shape), some s.d, x7, x8, some t.d] ∧ 0 ≤ i3 ∧ T = up S sp (.lst (.int i3 :: rest)) ∧ Bd (arOf names counts) ps 9 1 125 t) ?_ ?_
  · intro n' hn'
    by_cases c1 : shape / 4 % 5 = 1
    · decreasing_trivial
      refine snd _ _ (by omega) fun x2 as2 i3 ho2 hi3 => ?_
      decreasing_trivial
      exact hn' _ _ ⟨.send x2 as2, i3, rfl, hi3, rfl, ho2.bd.mono (by decide) (by decide) (by decide)⟩
    · decreasing_trivial
      exact hn' _ _ ⟨a, i2, rfl, hi2, rfl, ha.bd.mono (by decide) (by decide) (by decide)⟩
  rintro σ T ⟨t, i3, rfl, hi3, rfl, ht⟩
  decreasing_trivial
  refine j_ifm (fun σ T => σ = [some (.rol (ns.map D.int)), some (.ref sp), some (.ref nm), some (.ref ct), some (.tup (ps.map D.str)), some (.int shape), some s.d, x7, x8, some t.d] ∧ T = up S sp (.lst (.int i3 :: rest))) ?_ ?_
  · intro n' hn'
    by_cases c1 : shape / 4 % 5 = 2
    · decreasing_trivial
      exact fin s i3 (hs.mono (by decide) (by decide) (by decide)) hi3
    · decreasing_trivial
      exact hn' _ _ ⟨rfl, rfl⟩
  rintro σ T ⟨rfl, rfl⟩
  decreasing_trivial
  refine ⟨ns, sp, i3, rest, rfl, up_same, hi3, ?_⟩
  decreasing_trivial
  refine ⟨_, ps, rfl, l1, l4, fun p hp => ?_⟩
  decreasing_trivial
  rw [up_up]
  exact fin (.fork p s t) _ (((hp.bd.mono (n' := 9) (by decide) (Nat.le_refl _) (Nat.le_refl _)).fork hs ht).mono (by decide) (by decide) (by decide)) (by omega)

/-- a program within bounds -/
structure Pg (prog : List Er) : Prop where
  len1 : 1 ≤ prog.length
  len : prog.length ≤ 12
  nd : (prog.map Er.name).Nodup
  nm : ∀ e ∈ prog, NameOk e.name
  ps : ∀ e ∈ prog, 1 ≤ e.ps.length ∧ e.ps.length ≤ 4 ∧ e.ps.Nodup ∧ ∀ x ∈ e.ps, NameOk x
  body : ∀ e ∈ prog, Bd (arP prog) e.ps 12 12 5000 e.body
/-- good data about an errand that is being drawn -/
structure ErP (ar : Str → Option Nat) (e : Er) : Prop where
  l1 : 1 ≤ e.ps.length
  l4 : e.ps.length ≤ 4
  nd : e.ps.Nodup
  ok : ∀ x ∈ e.ps, NameOk x
  bd : Bd ar e.ps 12 6 1500 e.body
def sp_program : Sp3 := wrL fun ds S q => ∃ (ns : List Int) (sp : Addr) (i most : Int) (rest : List D), ds = [.rol (ns.map D.int), .ref sp, .int most] ∧ S sp = some (.lst (.int i :: rest)) ∧ 0 ≤ i ∧ 1 ≤ most ∧ most ≤ 12 ∧
  ∀ (prog : List Er) (i2 : Int), Pg prog → prog.length ≤ most.toNat → 0 ≤ i2 → q (prog.map Er.d) sp (.lst (.int i2 :: rest))
theorem ok_program {k : Nat} (h : Has K mg "_law_program" s_program ["script", "spot", "most"]) (G : Gs K mg) (C_next : Cal3 P w K mg base k "_law_next" ["script", "spot"] sp_next) (C_names : Cal3 P w K mg base k "_law_names" ["cell", "many"] sp_names)
    (C_body : Cal3 P w K mg base k "_law_body" ["script", "spot", "names", "counts", "params"] sp_body) : Cal3 P w K mg base (k + 1) "_law_program" ["script", "spot", "most"] sp_program := by
  refine h.wrL sc_program (fun ds S q ⟨_, _, _, _, _, e, _⟩ => by rw [e]; rfl) fun f cdv A outer s H E ds S q hr hA => ?_
  obtain ⟨ns, sp, i, most, rest, rfl, hsp, hi, m1, m12, hq⟩ := hA
  refine ⟨_, (s_cons (s_set (i := 3) sc_program.nd rfl (Or.inr rfl) (e_call C_next hr rfl (a_cons (e_v 0) (a_cons (e_v 1) a_nil))))
 (s_cons (s_set (i := 4) sc_program.nd rfl (Or.inl rfl) (e_op op_add dn_int e_int (e_op op_mod dn_intC (e_v 3) (e_v 2))))
 (s_cons (s_set (i := 5) sc_program.nd rfl (Or.inl rfl) (e_call C_names hr rfl (a_cons (e_op op_mod dn_intC (e_op op_fdiv dn_intC (e_v 3) (e_v 2)) (e_op op_pow dn_intC e_int e_int)) (a_cons (e_v 4) a_nil))))
 (s_cons (s_set (i := 6) sc_program.nd rfl (Or.inl rfl) (e_call C_names hr rfl (a_cons (e_op op_mod dn_intC (e_call C_next hr rfl (a_cons (e_v 0) (a_cons (e_v 1) a_nil))) (e_op op_pow dn_intC e_int e_int)) (a_cons e_int a_nil))))
 (s_cons (s_comp (i := 7) (osc := defScope s_program) (N := ["script", "spot", "most", "head", "many", "names", "params", "counts", "program", "k", "mine"]) (M := ["head"]) (js := [3]) ⟨rfl, by decide +kernel, by decide +kernel, rfl, by decide +kernel, by decide +kernel, by decide +kernel⟩ (by decide +kernel) rfl (i_range1 rfl G.range (a_cons (e_v 4) a_nil)) (fun _ _ _ _ _ => (e_ix ix_list dn_ixL (e_lst (a_cons e_int (a_cons e_int (a_cons e_int (a_cons e_int (a_cons e_int a_nil)))))) (e_op op_mod dn_intC (e_op op_fdiv dn_intC (e_v 1) (e_op op_mul dn_intC e_int (e_op op_add dn_int (e_v 0) e_int))) e_int) (fun _ _ => rfl))) sc_program.nd rfl rfl)
 (s_cons (s_set (i := 8) sc_program.nd rfl (Or.inl rfl) (e_lst a_nil))
 (s_cons (s_for PassesOwn.never rfl (i_range1 rfl G.range (a_cons (e_v 4) a_nil)) (g_name (i := 9) sc_program.nd rfl (Or.inl rfl)) (s_cons (s_set (i := 10) sc_program.nd rfl (Or.inl rfl) (e_callTy call_tuple_of dn_toTup rfl G.tuple boot_tuple (a_cons (e_slice sl_list dn_slL (e_op op_cat dn_catL (e_slice sl_list dn_slL (e_v 6) (p_some (e_op op_mod dn_intC (e_v 9) e_int)) p_none) (e_slice sl_list dn_slL (e_v 6) p_none (p_some (e_op op_mod dn_intC (e_v 9) e_int)))) p_none (p_some (e_ix ix_list dn_ixL (e_v 7) (e_v 9) (fun _ _ => rfl)))) a_nil)))
 (s_one (s_expr (e_bm PySem.F.plainAttrs_list PySem.F.slot_list_append PySem.F.type_list_append mt_append dn_append (e_v 8) (a_cons (e_tup (a_cons (e_ix ix_list dn_ixL (e_v 5) (e_v 9) (fun _ _ => rfl)) (a_cons (e_v 10) (a_cons (e_call C_body hr rfl (a_cons (e_v 0) (a_cons (e_v 1) (a_cons (e_v 5) (a_cons (e_v 7) (a_cons (e_v 10) a_nil)))))) a_nil)))) a_nil))))))
 (s_one (s_ret (e_v 8)))))))))), ?_⟩
  decreasing_trivial
  refine ⟨ns, sp, i, rest, rfl, hsp, hi, ?_⟩
  generalize cellAt ns i = head
  have hm0 := Int.emod_nonneg head (show most ≠ 0 by omega)
  have hm1 := Int.emod_lt_of_pos head (show 0 < most by omega)
  have t14 : (0 : Int) < 10 ^ (Int.toNat 14) := by decide
  decreasing_trivial
  refine ⟨_, _, rfl, Int.emod_nonneg _ (by decide), by omega, by omega, fun names Rn => ?_⟩
  intro nm hnm
  have n1 : sp ≠ nm := ne3 up_same hnm
  decreasing_trivial
  refine ⟨ns, sp, i + 1, rest, rfl, up_get up_same hnm, by omega, ?_⟩
  generalize cellAt ns (i + 1) = c2
  decreasing_trivial
  refine ⟨_, 4, rfl, Int.emod_nonneg _ (by decide), by omega, by omega, fun pp Rp => ?_⟩
  intro pm hpm
  decreasing_trivial
  generalize hmany : 1 + head % most = many
  have h1m : 1 ≤ many := by omega
  have h12 : many ≤ most := by omega
  obtain ⟨cnt, hcnt⟩ : ∃ cnt : Nat → Nat, ∀ k : Nat, atI [D.int 2, .int 1, .int 2, .int 2, .int 3] (head / (7 * (0 + (k : Int) + 1)) % 5) = some (.int (cnt k : Int)) ∧ 1 ≤ cnt k ∧ cnt k ≤ 4 := by
    have : ∀ k : Nat, ∃ c : Nat, atI [D.int 2, .int 1, .int 2, .int 2, .int 3] (head / (7 * (0 + (k : Int) + 1)) % 5) = some (.int (c : Int)) ∧ 1 ≤ c ∧ c ≤ 4 := fun k => by
      generalize head / (7 * (0 + (k : Int) + 1)) = x
      have h5 : x % 5 = 0 ∨ x % 5 = 1 ∨ x % 5 = 2 ∨ x % 5 = 3 ∨ x % 5 = 4 := by omega
      rcases h5 with e | e | e | e | e
      · exact ⟨2, by rw [e]; rfl, by decide, by decide⟩
      · exact ⟨1, by rw [e]; rfl, by decide, by decide⟩
      · exact ⟨2, by rw [e]; rfl, by decide, by decide⟩
      · exact ⟨2, by rw [e]; rfl, by decide, by decide⟩
      · exact ⟨3, by rw [e]; rfl, by decide, by decide⟩
    exact ⟨fun k => (this k).choose, fun k => (this k).choose_spec⟩
  have g_sp := up_get (o := .lst (pp.map D.str)) (up_same (S := up (up S sp (.lst (.int (i + 1) :: rest))) nm (.lst (names.map D.str))) (a := sp) (o := .lst (.int (i + 1 + 1) :: rest))) hpm
  have g_nm : up (up (up (up S sp (.lst (.int (i + 1) :: rest))) nm (.lst (names.map D.str))) sp (.lst (.int (i + 1 + 1) :: rest))) pm (.lst (pp.map D.str)) nm = some (.lst (names.map D.str)) :=
    up_get (by rw [up_ne (Ne.symm n1)]; exact up_same) hpm
  have g_pm : up (up (up (up S sp (.lst (.int (i + 1) :: rest))) nm (.lst (names.map D.str))) sp (.lst (.int (i + 1 + 1) :: rest))) pm (.lst (pp.map D.str)) pm = some (.lst (pp.map D.str)) := up_same
  have g_px : Px sp S (up (up (up (up S sp (.lst (.int (i + 1) :: rest))) nm (.lst (names.map D.str))) sp (.lst (.int (i + 1 + 1) :: rest))) pm (.lst (pp.map D.str))) := ((Px.refl sp S).at.new hnm).at.new hpm
  have q_pm : sp ≠ pm := ne3 up_same hpm
  generalize up (up (up (up S sp (.lst (.int (i + 1) :: rest))) nm (.lst (names.map D.str))) sp (.lst (.int (i + 1 + 1) :: rest))) pm (.lst (pp.map D.str)) = S4 at g_sp g_nm g_pm g_px ⊢
  refine comp_mapS (fun k => .int (cnt k)) (by rw [nums_len]; omega) (fun _ _ => trivial) ?_ ?_
  · intro j d S' hd hs' P hP
    obtain ⟨hj, rfl⟩ := nums_at hd
    decreasing_trivial
    intro p1 hp1
    decreasing_trivial
    refine j_ixL up_same (hcnt j).1 ?_
    exact hP _ ((Sub.refl S').up hp1)
  intro S5 s45
  replace g_sp := s45 _ _ g_sp
  replace g_nm := s45 _ _ g_nm
  replace g_pm := s45 _ _ g_pm
  replace g_px := g_px.ext s45
  rw [nums_len]
  obtain ⟨counts, hcounts⟩ : ∃ counts, counts = (List.range many.toNat).map cnt := ⟨_, rfl⟩
  have ecd : ((List.range many.toNat).map fun k => D.int (cnt k : Int)) = cD counts := by rw [hcounts, cD, List.map_map]; rfl
  rw [ecd]
  have hc4 : ∀ c ∈ counts, 1 ≤ c ∧ c ≤ 4 := fun c hc => by
    rw [hcounts] at hc
    obtain ⟨k, _, rfl⟩ := List.mem_map.mp hc
    exact (hcnt k).2
  have hlc : counts.length = many.toNat := by rw [hcounts]; simp
  intro ct hct
  decreasing_trivial
  intro pr hpr
  have hnl := Rn.len
  rw [hmany] at Rn hnl
  have q_nm : sp ≠ nm := n1
  have q_ct : sp ≠ ct := ne3 g_sp hct
  have q_pr : sp ≠ pr := ne3 (up_get g_sp hct) hpr
  have r_nm : nm ≠ pr := ne3 (up_get g_nm hct) hpr
  have r_pm : pm ≠ pr := ne3 (up_get g_pm hct) hpr
  have r_ct : ct ≠ pr := ne3 up_same hpr
  have f_pr : S pr = none := (g_px.new hct).free hpr (Ne.symm q_pr)
  replace g_sp := up_get (o := .lst []) (up_get (o := .lst (cD counts)) g_sp hct) hpr
  replace g_nm := up_get (o := .lst []) (up_get (o := .lst (cD counts)) g_nm hct) hpr
  replace g_pm := up_get (o := .lst []) (up_get (o := .lst (cD counts)) g_pm hct) hpr
  replace g_px := (g_px.new (o := .lst (cD counts)) hct).new (o := .lst []) hpr
  have g_ct : up (up S5 ct (.lst (cD counts))) pr (.lst []) ct = some (.lst (cD counts)) := up_get up_same hpr
  have g_pr : up (up S5 ct (.lst (cD counts))) pr (.lst []) pr = some (.lst []) := up_same
  generalize up (up S5 ct (.lst (cD counts))) pr (.lst []) = S6 at g_sp g_nm g_pm g_px g_ct g_pr ⊢
  decreasing_trivial
  refine ⟨fun j σ S' => ∃ (ers : List Er) (i1 : Int) (x10 x11 : Option D), σ = [some (.rol (ns.map D.int)), some (.ref sp), some (.int most), some (.int head), some (.int many), some (.ref nm), some (.ref pm), some (.ref ct), some (.ref pr), x10, x11] ∧
    S' sp = some (.lst (.int i1 :: rest)) ∧ S' nm = some (.lst (names.map D.str)) ∧ S' pm = some (.lst (pp.map D.str)) ∧ S' ct = some (.lst (cD counts)) ∧ S' pr = some (.lst (ers.map Er.d)) ∧ Px sp S S' ∧
    ers.length = j ∧ 0 ≤ i1 ∧ ers.map Er.name = names.take j ∧ (ers.map fun e => e.ps.length) = counts.take j ∧ (∀ e ∈ ers, ErP (arOf names counts) e),
    ⟨[], i + 1 + 1, none, none, rfl, g_sp, g_nm, g_pm, g_ct, g_pr, g_px, rfl, by omega, rfl, rfl, by simp⟩, fun _ _ _ _ => trivial, ?turn, ?done⟩
  case turn =>
    clear g_sp g_nm g_pm g_ct g_pr g_px
    rintro j d σ S' hd ⟨ers, i1, x10, x11, rfl, g_sp, g_nm, g_pm, g_ct, g_pr, g_px, hl, hi1, en, ec, hk⟩
    obtain ⟨hj, rfl⟩ := nums_at hd
    have c0 := Int.emod_nonneg (0 + (j : Int)) (show (4 : Int) ≠ 0 by decide)
    have ap : ∀ {α : Type} {f : α → D} {xs : List α} {v : α}, xs[j]? = some v → atI (xs.map f) (0 + (j : Int)) = some (f v) := fun {α f xs v} hv => by
      have e : (0 : Int) + (j : Int) = ((j : Nat) : Int) := by omega
      rw [e]
      refine atI_nat ?_
      rw [List.getElem?_map, hv]
      rfl
    obtain ⟨cn, hcn⟩ : ∃ cn, counts[j]? = some cn := ⟨_, List.getElem?_eq_getElem (by omega)⟩
    obtain ⟨nj, hnj⟩ : ∃ nj, names[j]? = some nj := ⟨_, List.getElem?_eq_getElem (by omega)⟩
    have hcn4 := hc4 cn (List.mem_of_getElem? hcn)
    decreasing_trivial
    rw [cutD_from c0]
    intro p1 hp1
    have g1 := up_get (o := .lst ((pp.map D.str).drop ((0 + (j : Int)) % 4).toNat)) g_pm hp1
    decreasing_trivial
    rw [cutD_to c0]
    intro p2 hp2
    have hpl := Rp.len
    refine j_catL (up_get up_same hp2) up_same ?_ ?_
    · rw [List.length_drop, List.length_take, List.length_map]
      exact small_le (by omega)
    intro p3 hp3
    decreasing_trivial
    refine j_ixL (up_get (up_get (up_get g_ct hp1) hp2) hp3) (ap hcn) ?_
    decreasing_trivial
    rw [cutD_to (by omega), Int.toNat_natCast]
    intro p4 hp4
    decreasing_trivial
    obtain ⟨mine, hmine⟩ : ∃ mine, mine = (pp.drop ((0 + (j : Int)) % 4).toNat ++ pp.take ((0 + (j : Int)) % 4).toNat).take cn := ⟨_, rfl⟩
    have em : ((pp.map D.str).drop ((0 + (j : Int)) % 4).toNat ++ (pp.map D.str).take ((0 + (j : Int)) % 4).toNat).take cn = mine.map D.str := by
      rw [hmine, ← List.map_drop, ← List.map_take, ← List.map_append, ← List.map_take]
    rw [em]
    have hmo : mine.length = cn ∧ mine.Nodup ∧ ∀ x ∈ mine, NameOk x := by
      rw [hmine]
      exact ps_ok Rp.turn (by show cn ≤ 4; omega)
    have hsub := ((((Sub.refl S').up (o := .lst ((pp.map D.str).drop ((0 + (j : Int)) % 4).toNat)) hp1).up (o := .lst ((pp.map D.str).take ((0 + (j : Int)) % 4).toNat)) hp2).up
      (o := .lst ((pp.map D.str).drop ((0 + (j : Int)) % 4).toNat ++ (pp.map D.str).take ((0 + (j : Int)) % 4).toNat)) hp3).up (o := .lst (mine.map D.str)) hp4
    generalize up (up (up (up S' p1 _) p2 _) p3 _) p4 _ = S5 at hsub ⊢
    replace g_sp := hsub _ _ g_sp
    replace g_nm := hsub _ _ g_nm
    replace g_pm := hsub _ _ g_pm
    replace g_ct := hsub _ _ g_ct
    replace g_pr := hsub _ _ g_pr
    replace g_px := g_px.ext hsub
    decreasing_trivial
    refine j_ixL g_nm (ap hnj) ?_
    decreasing_trivial
    refine ⟨ns, sp, nm, ct, i1, rest, names, mine, counts, rfl, g_sp, g_nm, g_ct, q_nm, q_ct, hi1, by omega, by omega, by omega, Rn.nd, by omega, hc4, fun s i2 hbd hi2 => ?_⟩
    decreasing_trivial
    have h_pr : up S5 sp (.lst (.int i2 :: rest)) pr = some (.lst (ers.map Er.d)) := by rw [up_ne (Ne.symm q_pr)]; exact g_pr
    refine j_append h_pr (by rw [List.length_map]; exact small_lt (by omega)) ?_
    have ee : ers.map Er.d ++ [D.tup [D.str nj, D.tup (mine.map D.str), s.d]] = (ers ++ [(⟨nj, mine, s⟩ : Er)]).map Er.d := by simp [Er.d]
    rw [ee]
    refine ⟨ers ++ [(⟨nj, mine, s⟩ : Er)], i2, _, _, rfl, ?_, ?_, ?_, ?_, up_same, (g_px.at).fresh f_pr, by simp [hl], hi2, ?_, ?_, ?_⟩
    · rw [up_ne q_pr]; exact up_same
    · rw [up_ne r_nm, up_ne (Ne.symm q_nm)]; exact g_nm
    · rw [up_ne r_pm, up_ne (Ne.symm q_pm)]; exact g_pm
    · rw [up_ne r_ct, up_ne (Ne.symm q_ct)]; exact g_ct
    · rw [List.take_succ, hnj, List.map_append, en]; rfl
    · rw [List.take_succ, hcn, List.map_append, ec]
      show counts.take j ++ [mine.length] = _
      rw [hmo.1]
      rfl
    · intro e he
      rcases List.mem_append.mp he with he | he
      · exact hk e he
      · rw [List.mem_singleton.mp he]
        exact ⟨by show 1 ≤ mine.length; omega, by show mine.length ≤ 4; omega, hmo.2.1, hmo.2.2, hbd⟩
  rintro σ S' ⟨ers, i1, x10, x11, rfl, g_sp, g_nm, g_pm, g_ct, g_pr, g_px, hl, hi1, en, ec, hk⟩
  rw [nums_len] at hl en ec
  rw [List.take_of_length_le (by omega)] at en ec
  decreasing_trivial
  refine ⟨pr, _, sp, _, rfl, f_pr, by rw [hsp]; simp, g_px.sub g_sp, g_pr, hq ers i1 ⟨by omega, by omega, ?_, fun e he => ?_, fun e he => ?_, fun e he => ?_⟩ (by omega) hi1⟩
  · rw [en]; exact Rn.nd
  · exact Rn.ok _ (by rw [← en]; exact List.mem_map_of_mem he)
  · exact ⟨(hk e he).l1, (hk e he).l4, (hk e he).nd, (hk e he).ok⟩
  · rw [arP_eq en ec]; exact (hk e he).bd.mono (by decide) (by decide) (by decide)

def sp_is_graph : Sp3 := vS fun ds q => ∃ (f t : Str) (A : Mat) (m n : Nat), ds = [grD f t A] ∧ Mt m n A ∧ m ≤ 1000 ∧ n ≤ 1000 ∧ q (.bl true)
theorem ok_is_graph {k : Nat} (h : Has K mg "_law_is_graph" s_is_graph ["found"]) (G : Gs K mg) : Cal3 P w K mg base (k + 1) "_law_is_graph" ["found"] sp_is_graph := by
  refine h.val sc_is_graph (fun ds q ⟨_, _, _, _, _, e, _⟩ => by rw [e]; rfl) fun f cdv A outer s0 H E ds q hr hA => ?_
  obtain ⟨fr, t, A', m, n, rfl, hM, hm, hn, hq⟩ := hA
  refine ⟨_, (s_cons (s_if (PW3.pt (w_or (t_not (t_val (e_callB call_isB dn_isB rfl G.isinstance boot_isinstance (a_cons (e_v 0) (a_cons (e_bltn (n := "tuple") rfl G.tuple boot_tuple) a_nil))))) (w_or (t_cmp op_ne dn_neI (e_callB call_len_seq dn_len rfl G.len PySem.boot_len (a_cons (e_v 0) a_nil)) e_int (nomark _)) (w_or1 (t_not (t_val (e_callB call_isB dn_isB rfl G.isinstance boot_isinstance (a_cons (e_ix ix_tup dn_ixT (e_v 0) e_int (fun _ _ => rfl)) (a_cons (e_bltn (n := "tuple") rfl G.tuple boot_tuple) a_nil))))))))) (s_one (s_ret e_bl)) s_nil)
 (s_cons (s_if (PW3.pt (w_or (t_not (t_val (e_callB call_isB dn_isB rfl G.isinstance boot_isinstance (a_cons (e_ix ix_tup dn_ixT (e_v 0) e_int (fun _ _ => rfl)) (a_cons (e_bltn (n := "str") rfl G.str boot_str) a_nil))))) (w_or1 (t_not (t_val (e_callB call_isB dn_isB rfl G.isinstance boot_isinstance (a_cons (e_ix ix_tup dn_ixT (e_v 0) e_int (fun _ _ => rfl)) (a_cons (e_bltn (n := "str") rfl G.str boot_str) a_nil)))))))) (s_one (s_ret e_bl)) s_nil)
 (s_cons (s_for PassesOwn.never rfl (i_tup (e_ix ix_tup dn_ixT (e_v 0) e_int (fun _ _ => rfl))) (g_name (i := 1) sc_is_graph.nd rfl (Or.inl rfl)) (s_cons (s_if (t_not (t_val (e_callB call_isB dn_isB rfl G.isinstance boot_isinstance (a_cons (e_v 1) (a_cons (e_bltn (n := "tuple") rfl G.tuple boot_tuple) a_nil))))) (s_one (s_ret e_bl)) s_nil)
 (s_one (s_for PassesOwn.never rfl (i_tup (e_v 1)) (g_name (i := 2) sc_is_graph.nd rfl (Or.inl rfl)) (s_one (s_if (PW3.pt (w_or (t_not (t_val (e_callB call_isB dn_isB rfl G.isinstance boot_isinstance (a_cons (e_v 2) (a_cons (e_bltn (n := "int") rfl G.int boot_int) a_nil))))) (w_or (t_val (e_callB call_isB dn_isB rfl G.isinstance boot_isinstance (a_cons (e_v 2) (a_cons (e_bltn (n := "bool") rfl G.bool boot_bool) a_nil)))) (w_or1 (t_not (t_chain op_le dn_intB op_le dn_intB e_int (e_v 2) e_int)))))) (s_one (s_ret e_bl)) s_nil))))))
 (s_one (s_ret e_bl))))), ?_⟩
  unfold grD matD
  decreasing_trivial
  refine ⟨fun j σ S => ∃ x1 x2, σ = [some (.tup [.str fr, .str t, .tup (A'.map rowD)]), x1, x2], ⟨_, _, rfl⟩, fun _ _ _ _ => trivial, ?_, ?_⟩
  · rintro j d σ S hd ⟨x1, x2, rfl⟩
    rw [List.getElem?_map] at hd
    obtain ⟨row, hrow, rfl⟩ := Option.map_eq_some_iff.mp hd
    have hnum := hM.num row (List.mem_of_getElem? hrow)
    unfold rowD
    decreasing_trivial
    refine ⟨fun j σ S => ∃ x2, σ = [some (.tup [.str fr, .str t, .tup (A'.map rowD)]), some (.tup (row.map D.int)), x2], ⟨_, rfl⟩, fun _ _ _ _ => trivial, ?_, ?_⟩
    · rintro j d σ S hd ⟨x2, rfl⟩
      rw [List.getElem?_map] at hd
      obtain ⟨x, hx, rfl⟩ := Option.map_eq_some_iff.mp hd
      obtain ⟨h0, h2⟩ := hnum x (List.mem_of_getElem? hx)
      decreasing_trivial
      exact ⟨_, rfl⟩
    · rintro σ S ⟨x2, rfl⟩
      exact ⟨_, _, rfl⟩
  · rintro σ S ⟨x1, x2, rfl⟩
    decreasing_trivial
    exact hq

theorem str_app_len (a b : Str) : (a ++ b).length = a.length + b.length := by
  show (a.cps ++ b.cps).size = _
  simp [Str.length]
theorem wrap_len : ∀ (bs : List Bool) (r : Sy), (wrap bs r).txt.length ≤ r.txt.length + 6 * bs.length
  | [], _ => by simp [wrap]
  | b :: l, r => by
    have := wrap_len l r
    rw [wrap_txt, str_app_len, str_app_len, List.length_cons]
    have e1 : (" " : Str).length = 1 := by decide +kernel
    have e2 : (tagB b).length ≤ 5 := by cases b <;> decide +kernel
    omega
def sp_prefixes : Sp3 := lSt fun ds q => ∃ s : Sy, ds = [s.d] ∧ s.deep ≤ 1000 ∧ (∀ x, s.base = some x → x.length ≤ 1000) ∧ q (s.pfx.map D.str)
theorem ok_prefixes {k : Nat} (h : Has K mg "_law_prefixes" s_prefixes ["saying"]) (G : Gs K mg) : Cal3 P w K mg base (k + 1) "_law_prefixes" ["saying"] sp_prefixes := by
  refine h.lst sc_prefixes (fun ds q ⟨s, e, _⟩ => by rw [e]; rfl) fun f cdv A outer s0 H E ds q hr hA => ?_
  obtain ⟨s, rfl, hd, hx, hq⟩ := hA
  refine ⟨_, (s_cons (s_set (i := 1) sc_prefixes.nd rfl (Or.inl rfl) (e_lst a_nil))
 (s_cons (s_while PassesOwn.never (PW3.pt (w_or (t_cmp op_eq dn_eqS (e_ix ix_tup dn_ixT (e_v 0) e_int (fun _ _ => rfl)) e_str (nomark _)) (w_or1 (t_cmp op_eq dn_eqS (e_ix ix_tup dn_ixT (e_v 0) e_int (fun _ _ => rfl)) e_str (nomark _))))) (s_cons (s_expr (e_bm PySem.F.plainAttrs_list PySem.F.slot_list_append PySem.F.type_list_append mt_append dn_append (e_v 1) (a_cons (e_ix ix_tup dn_ixT (e_v 0) e_int (fun _ _ => rfl)) a_nil)))
 (s_one (s_set (i := 0) sc_prefixes.nd rfl (Or.inl rfl) (e_ix ix_tup dn_ixT (e_v 0) e_int (fun _ _ => rfl))))))
 (s_cons (s_if (t_cmp op_ne dn_neS (e_ix ix_tup dn_ixT (e_v 0) e_int (fun _ _ => rfl)) e_str (nomark _)) (s_one (s_ret (e_lst a_nil))) s_nil)
 (s_cons (s_set (i := 2) sc_prefixes.nd rfl (Or.inl rfl) (e_ix ix_tup dn_ixT (e_v 0) e_int (fun _ _ => rfl)))
 (s_cons (s_set (i := 3) sc_prefixes.nd rfl (Or.inl rfl) (e_lst (a_cons (e_v 2) a_nil)))
 (s_cons (s_for PassesOwn.never rfl (i_revL rfl G.reversed (a_cons (e_v 1) a_nil)) (g_name (i := 4) sc_prefixes.nd rfl (Or.inl rfl)) (s_cons (s_set (i := 2) sc_prefixes.nd rfl (Or.inl rfl) (e_op op_add_str dn_addS (e_op op_add_str dn_addS (e_v 2) e_str) (e_v 4)))
 (s_one (s_expr (e_bm PySem.F.plainAttrs_list PySem.F.slot_list_append PySem.F.type_list_append mt_append dn_append (e_v 3) (a_cons (e_v 2) a_nil))))))
 (s_one (s_ret (e_v 3))))))))), ?_⟩
  decreasing_trivial
  intro pt hpt
  decreasing_trivial
  refine j_while (fun m σ S => ∃ (bs : List Bool) (r : Sy), σ = [some r.d, some (.ref pt), none, none, none] ∧ S pt = some (.lst (bs.map fun b => D.str (tagB b))) ∧ wrap bs r = s ∧ m = r.deep) _ ⟨[], s, rfl, up_same, rfl, rfl⟩ ?_
  rintro m σ S ⟨bs, r, rfl, hS, hw, rfl⟩
  have hdp := wrap_deep bs r
  rw [hw] at hdp
  have hb := wrap_base bs r
  rw [hw] at hb
  cases r with
  | left a =>
    simp only [Sy.d]
    decreasing_trivial
    refine j_append hS (by rw [List.length_map]; exact small_lt (by omega)) ?_
    decreasing_trivial
    exact ⟨a.deep, by simp only [Sy.deep]; omega, bs ++ [true], a, rfl, by rw [up_same]; simp [tagB], by rw [wrap_snoc]; exact hw, rfl⟩
  | right a =>
    simp only [Sy.d]
    decreasing_trivial
    refine j_append hS (by rw [List.length_map]; exact small_lt (by omega)) ?_
    decreasing_trivial
    exact ⟨a.deep, by simp only [Sy.deep]; omega, bs ++ [false], a, rfl, by rw [up_same]; simp [tagB], by rw [wrap_snoc]; exact hw, rfl⟩
  | name x =>
    simp only [Sy.d]
    decreasing_trivial
    intro pf hpf
    have hne : pt ≠ pf := ne3 hS hpf
    have hS2 := up_get (o := .lst [.str x]) hS hpf
    have hx' := hx x (by rw [hb]; rfl)
    decreasing_trivial
    refine ⟨fun j σ S' => ∃ x4, σ = [some (.tup [.str "name", .str x]), some (.ref pt), some (.str (wrap (bs.drop (bs.length - j)) (.name x)).txt), some (.ref pf), x4] ∧ S' pt = some (.lst (bs.map fun b => D.str (tagB b))) ∧ S' pf = some (.lst ((wrap (bs.drop (bs.length - j)) (.name x)).pfx1.map D.str)) ∧
      (wrap (bs.drop (bs.length - j)) (.name x)).pfx1.length = j + 1,
      ⟨none, by simp [wrap, Sy.txt], hS2, by rw [up_same]; simp [wrap, Sy.pfx1], by simp [wrap, Sy.pfx1]⟩, fun j σ S' ⟨_, _, g, _⟩ => g, ?_, ?_⟩
    · rintro j d σ S' hd ⟨x4, rfl, g1, g2, g3⟩
      have hj := (List.getElem?_eq_some_iff.mp hd).1
      rw [List.length_reverse, List.length_map] at hj
      rw [List.getElem?_reverse (by rw [List.length_map]; exact hj), List.length_map, List.getElem?_map] at hd
      obtain ⟨b, hbj, rfl⟩ := Option.map_eq_some_iff.mp hd
      have edr : bs.drop (bs.length - (j + 1)) = b :: bs.drop (bs.length - j) := by
        have hlt : bs.length - 1 - j < bs.length := by omega
        have e1 : bs.length - (j + 1) = bs.length - 1 - j := by omega
        rw [e1, List.drop_eq_getElem_cons hlt]
        have e2 : bs.length - 1 - j + 1 = bs.length - j := by omega
        rw [e2]
        rw [List.getElem?_eq_getElem hlt] at hbj
        rw [Option.some.inj hbj]
      have hln := wrap_len (bs.drop (bs.length - j)) (.name x)
      rw [List.length_drop] at hln
      have hxl : (Sy.name x).txt.length ≤ 1000 := hx'
      have e1 : (" " : Str).length = 1 := by decide +kernel
      have e2 : (tagB b).length ≤ 5 := by cases b <;> decide +kernel
      decreasing_trivial
      refine j_addS (small_le (by omega)) ?_
      decreasing_trivial
      refine j_addS (small_le (by rw [str_app_len]; omega)) ?_
      decreasing_trivial
      refine j_append g2 (by rw [List.length_map]; exact small_lt (by omega)) ?_
      refine ⟨_, by rw [edr, wrap_txt]; rfl, by rw [up_ne hne]; exact g1, ?_, ?_⟩
      · rw [up_same, edr, wrap_pfx]
        simp
      · rw [edr, wrap_pfx, List.length_append, g3]
        rfl
    · rintro σ S' ⟨x4, rfl, g1, g2, g3⟩
      rw [List.length_reverse, List.length_map] at g2
      have e0 : bs.drop (bs.length - bs.length) = bs := by simp
      rw [e0, hw] at g2
      decreasing_trivial
      refine ⟨pf, _, rfl, g2, ?_⟩
      have : s.pfx = s.pfx1 := by unfold Sy.pfx; rw [hb]; rfl
      rw [← this]
      exact hq
  | bud =>
    have e0 : s.pfx = [] := by unfold Sy.pfx; rw [hb]; rfl
    rw [e0] at hq
    simp only [Sy.d]
    decreasing_trivial
    intro p1 hp1
    decreasing_trivial
    exact ⟨p1, _, rfl, up_same, hq⟩
  | pair a b =>
    have e0 : s.pfx = [] := by unfold Sy.pfx; rw [hb]; rfl
    rw [e0] at hq
    simp only [Sy.d]
    decreasing_trivial
    intro p1 hp1
    decreasing_trivial
    exact ⟨p1, _, rfl, up_same, hq⟩
  | fork a b c =>
    have e0 : s.pfx = [] := by unfold Sy.pfx; rw [hb]; rfl
    rw [e0] at hq
    simp only [Sy.d]
    decreasing_trivial
    intro p1 hp1
    decreasing_trivial
    exact ⟨p1, _, rfl, up_same, hq⟩
  | send x as =>
    have e0 : s.pfx = [] := by unfold Sy.pfx; rw [hb]; rfl
    rw [e0] at hq
    simp only [Sy.d]
    decreasing_trivial
    intro p1 hp1
    decreasing_trivial
    exact ⟨p1, _, rfl, up_same, hq⟩

def sp_told : Sp3 := rdV fun ds S q => ∃ (p : Str) (s : Sy) (kn : Addr) (k : List Str), ds = [.str p, s.d, .ref kn] ∧ S kn = some (.lst (k.map D.str)) ∧ s.deep ≤ 1000 ∧ (∀ x, s.base = some x → x.length ≤ 1000) ∧ s.pfx.length ≤ 1000 ∧ q (.int (toldL p s k))
theorem ok_told {k : Nat} (h : Has K mg "_law_told" s_told ["param", "saying", "known"]) (G : Gs K mg) (C_prefixes : Cal3 P w K mg base k "_law_prefixes" ["saying"] sp_prefixes) : Cal3 P w K mg base (k + 1) "_law_told" ["param", "saying", "known"] sp_told := by
  refine h.rdV sc_told (fun ds S q ⟨_, _, _, _, e, _⟩ => by rw [e]; rfl) fun f cdv A outer s0 H E ds S q hr hA => ?_
  obtain ⟨p, s, kn, kk, rfl, hk, hd, hx, hpl, hq⟩ := hA
  refine ⟨_, (s_cons (s_if (t_cmp op_eq dn_eqS (e_ix ix_tup dn_ixT (e_v 1) e_int (fun _ _ => rfl)) e_str (nomark _)) (s_one (s_ret (e_op op_add dn_int e_int (e_callTy call_intB dn_intOfB rfl G.int boot_int (a_cons (e_cmp op_in_seq dn_in (e_v 0) (e_v 2) (by with_unfolding_all rfl)) a_nil))))) s_nil)
 (s_cons (s_set (i := 3) sc_told.nd rfl (Or.inl rfl) (e_call C_prefixes hr rfl (a_cons (e_v 1) a_nil)))
 (s_cons (s_if (PW3.pt (w_or (t_cmp (op_eq_deep (hu_deep hr)) dn_eqD (e_v 3) (e_lst a_nil) (nomark _)) (w_or1 (t_cmp op_ne dn_neS (e_ix ix_list dn_ixL (e_v 3) e_int (fun _ _ => rfl)) (e_v 0) (nomark _))))) (s_one (s_ret e_int)) s_nil)
 (s_one (s_ret (e_op op_add dn_int e_int (e_callTy call_intB dn_intOfB rfl G.int boot_int (a_cons (e_callB (call_anyL rfl) (dn_all (f := fun bs => bs.any id)) rfl G.any boot_any (a_cons (e_comp (osc := defScope s_told) (N := ["param", "saying", "known", "found"]) (M := ["known"]) (js := [2]) ⟨rfl, by decide +kernel, by decide +kernel, rfl, by decide +kernel, by decide +kernel, by decide +kernel⟩ (by decide +kernel) rfl (i_list (e_slice sl_list dn_slL (e_v 3) p_none (p_some (e_neg e_int)))) (fun _ _ _ _ _ => (e_cmp op_in_seq dn_in (e_v 0) (e_v 1) (by with_unfolding_all rfl)))) a_nil)) a_nil)))))))), ?_⟩
  by_cases hb : s = .bud
  · subst hb
    simp only [Sy.d]
    decreasing_trivial
    refine ⟨Sub.refl _, ?_⟩
    simpa [toldL] using hq
  have et : ∃ t r, s.d = .tup (.str t :: r) ∧ ¬ t = "bud" := by
    cases s <;> first | exact ⟨_, _, rfl, by decide⟩ | exact (hb rfl).elim
  obtain ⟨t, r, ed, ht⟩ := et
  have hq' : q (.int (if s.base = some p then 1 + (if ∃ t ∈ s.pfx.dropLast, t ∈ kk then 1 else 0) else 0)) := by
    have e : toldL p s kk = if s.base = some p then 1 + (if ∃ t ∈ s.pfx.dropLast, t ∈ kk then 1 else 0) else 0 := by cases s <;> first | rfl | exact (hb rfl).elim
    rw [← e]
    exact hq
  rw [ed]
  decreasing_trivial
  refine ⟨s, by rw [ed], hd, hx, ?_⟩
  intro pf hpf
  have f1 := up_get (o := .lst (s.pfx.map D.str)) hk hpf
  have s1 : Sub S (up S pf (.lst (s.pfx.map D.str))) := (Sub.refl S).up hpf
  have f2 : up S pf (.lst (s.pfx.map D.str)) pf = some (.lst (s.pfx.map D.str)) := up_same
  generalize up S pf (.lst (s.pfx.map D.str)) = S1 at f1 f2 s1 ⊢
  decreasing_trivial
  intro p0 hp0
  have g1 := up_get (o := .lst []) f1 hp0
  have g2 := up_get (o := .lst []) f2 hp0
  have s2 : Sub S (up S1 p0 (.lst [])) := s1.up hp0
  refine eq_nil g2 up_same (fun d hd => ?_) (fun d hd => ?_) (by decide) ?_
  · obtain ⟨x, _, rfl⟩ := List.mem_map.mp hd; rfl
  · obtain ⟨x, _, rfl⟩ := List.mem_map.mp hd
    simp [D.dt, deepD]
  generalize up S1 p0 (.lst []) = S2 at g1 g2 s2 ⊢
  cases hbs : s.base with
  | none =>
    have e0 : s.pfx = [] := by unfold Sy.pfx; rw [hbs]; rfl
    rw [e0]
    rw [hbs] at hq'
    decreasing_trivial
    exact ⟨s2, by simpa using hq'⟩
  | some x =>
    obtain ⟨l, el⟩ := pfx_head hbs
    have e0 : s.pfx = x :: l := by unfold Sy.pfx; rw [hbs]; exact el
    have g3 : S2 pf = some (.lst (.str x :: l.map D.str)) := by rw [g2, e0]; rfl
    rw [e0] at hpl
    rw [hbs, e0] at hq'
    rw [e0]
    by_cases hxp : x = p
    · decreasing_trivial
      rw [cutD_last]
      obtain ⟨dl, hdl⟩ : ∃ dl, dl = (x :: l).dropLast := ⟨_, rfl⟩
      have ec : (D.str x :: l.map D.str).dropLast = dl.map D.str := by rw [hdl, ← List.map_cons, List.map_dropLast]
      have hdl' : dl.length ≤ 1000 := by rw [hdl, List.length_dropLast]; omega
      rw [ec]
      intro pc hpc
      have c1 := up_get (o := .lst (dl.map D.str)) g1 hpc
      have c2 : up S2 pc (.lst (dl.map D.str)) pc = some (.lst (dl.map D.str)) := up_same
      have s3 := s2.up (o := .lst (dl.map D.str)) hpc
      generalize up S2 pc (.lst (dl.map D.str)) = S3 at c1 c2 s3 ⊢
      decreasing_trivial
      refine comp_map (fun i => .bl (decide (dl.getD i "" ∈ kk))) (by rw [List.length_map]; omega) c2 ?_ ?_
      · intro i d hd P hP
        rw [List.getElem?_map] at hd
        obtain ⟨a, ha, rfl⟩ := Option.map_eq_some_iff.mp hd
        rw [List.getD_eq_getElem?_getD, ha] at hP
        decreasing_trivial
        exact hP
      intro p4 hp4
      decreasing_trivial
      have eb : ((List.range (dl.map D.str).length).map fun i => D.bl (decide (dl.getD i "" ∈ kk))) = (dl.map fun t => decide (t ∈ kk)).map D.bl := by
        rw [List.length_map, List.map_map]
        apply List.ext_getElem?
        intro i
        rw [List.getElem?_map, List.getElem?_map]
        by_cases hi : i < dl.length
        · rw [List.getElem?_range hi, List.getElem?_eq_getElem hi]
          simp [List.getD_eq_getElem?_getD, hi]
        · rw [List.getElem?_eq_none (by simpa using hi), List.getElem?_eq_none (by omega)]
          rfl
      rw [eb]
      refine j_all up_same ?_
      have ea : ((dl.map fun t => decide (t ∈ kk)).any id) = decide (∃ t ∈ dl, t ∈ kk) := by
        rw [Bool.eq_iff_iff]
        simp
      rw [ea]
      decreasing_trivial
      refine ⟨s3.up hp4, ?_⟩
      rw [if_pos (by rw [hxp]), ← hdl] at hq'
      by_cases hz : ∃ t ∈ dl, t ∈ kk
      · rw [if_pos hz] at hq'
        rw [decide_eq_true hz]
        exact hq'
      · rw [if_neg hz] at hq'
        rw [decide_eq_false hz]
        exact hq'
    · decreasing_trivial
      exact ⟨s2, by simpa [hxp] using hq'⟩

def sp_graphs_in (n : Nat) : Sp3 := rdL fun ds S q => ∃ (e : Er) (s : Sy) (kn : Addr) (k : List Str), ds = [e.d, s.d, .ref kn] ∧ S kn = some (.lst (k.map D.str)) ∧ GiOk n e s k ∧ q ((((s.plc Sy.pfx k).map (grOf toldL e)).flatten).map trD)
theorem ok_graphs_in (h : Has K mg "_law_graphs_in" s_graphs_in ["errand", "saying", "known"]) (G : Gs K mg) (C0 : Cal3 P w K mg base 1 "_law_prefixes" ["saying"] sp_prefixes) (C1 : Cal3 P w K mg base 2 "_law_told" ["param", "saying", "known"] sp_told) :
    ∀ n : Nat, Cal3 P w K mg base (n + 2) "_law_graphs_in" ["errand", "saying", "known"] (sp_graphs_in n)
  | 0 => h.none3 (fun ds S Q E ⟨e, s, _, _, _, _, hk, _⟩ => by have := hk.deep; cases s <;> simp [Sy.deep] at this) _
  | n + 1 => by
    have C_graphs_in := ok_graphs_in h G C0 C1 n
    have C_prefixes := C0.mono (show 1 ≤ n + 2 by omega)
    have C_told := C1.mono (show 2 ≤ n + 2 by omega)
    refine h.rdL sc_graphs_in (fun ds S q ⟨_, _, _, _, e, _⟩ => by rw [e]; rfl) fun f cdv A outer s0 H E ds S q hr hA => ?_
    obtain ⟨e, s, kn, k, rfl, hS, hok, hq⟩ := hA
    refine ⟨_, (s_cons (s_set (i := 3) sc_graphs_in.nd rfl (Or.inl rfl) (e_lst a_nil))
 (s_cons (s_if (t_cmp op_eq dn_eqS (e_ix ix_tup dn_ixT (e_v 1) e_int (fun _ _ => rfl)) e_str (nomark _)) (s_cons (s_set (i := 4) sc_graphs_in.nd rfl (Or.inl rfl) (e_callTy call_tuple_of dn_toTup rfl G.tuple boot_tuple (a_cons (e_compC (osc := defScope s_graphs_in) (N := ["errand", "saying", "known", "found", "rows", "one", "k", "more"]) (M := ["saying", "known"]) (js := [1, 2]) ⟨rfl, by decide +kernel, by decide +kernel, by decide +kernel, by decide +kernel, by decide +kernel⟩ (by decide +kernel) (by decide +kernel) rfl (i_tup (e_ix ix_tup dn_ixT (e_v 0) e_int (fun _ _ => rfl))) (fun _ _ _ _ _ => ts_nil) (fun _ _ _ _ _ => (e_callTy call_tuple_of dn_toTup rfl G.tuple boot_tuple (a_cons (e_compN (osc0 := defScope s_graphs_in) (M := ["x", "known"]) (js := [0, 2]) ⟨rfl, by decide +kernel, by decide +kernel, by decide +kernel, by decide +kernel, by decide +kernel, by decide +kernel⟩ (by decide +kernel) (i_tup (e_ix ix_tup dn_ixT (e_v 1) e_int (fun _ _ => rfl))) (fun _ _ _ _ _ => ts_nil) (fun _ _ _ _ _ => (e_call C_told hr rfl (a_cons (e_v 1) (a_cons (e_v 0) (a_cons (e_v 2) a_nil)))))) a_nil)))) a_nil)))
 (s_cons (s_expr (e_bm PySem.F.plainAttrs_list PySem.F.slot_list_append PySem.F.type_list_append mt_append dn_append (e_v 3) (a_cons (e_tup (a_cons (e_ix ix_tup dn_ixT (e_v 0) e_int (fun _ _ => rfl)) (a_cons (e_ix ix_tup dn_ixT (e_v 1) e_int (fun _ _ => rfl)) (a_cons (e_v 4) a_nil)))) a_nil)))
 (s_cons (s_for PassesOwn.never rfl (i_tup (e_ix ix_tup dn_ixT (e_v 1) e_int (fun _ _ => rfl))) (g_name (i := 5) sc_graphs_in.nd rfl (Or.inl rfl)) (s_one (s_expr (e_bm PySem.F.plainAttrs_list PySem.F.slot_list_extend PySem.F.type_list_extend mt_extend dn_extendL (e_v 3) (a_cons (e_call C_graphs_in hr rfl (a_cons (e_v 0) (a_cons (e_v 5) (a_cons (e_v 2) a_nil)))) a_nil)))))
 (s_one (s_ret (e_v 3)))))) s_nil)
 (s_cons (s_if (PW3.pt (w_or (t_cmp op_eq dn_eqS (e_ix ix_tup dn_ixT (e_v 1) e_int (fun _ _ => rfl)) e_str (nomark _)) (w_or1 (t_cmp op_eq dn_eqS (e_ix ix_tup dn_ixT (e_v 1) e_int (fun _ _ => rfl)) e_str (nomark _))))) (s_one (s_ret (e_v 3))) s_nil)
 (s_cons (s_for PassesOwn.never rfl (i_range2 rfl G.range (a_cons e_int (a_cons (e_callB call_len_seq dn_len rfl G.len PySem.boot_len (a_cons (e_v 1) a_nil)) a_nil))) (g_name (i := 6) sc_graphs_in.nd rfl (Or.inl rfl)) (s_cons (s_set (i := 7) sc_graphs_in.nd rfl (Or.inl rfl) (e_v 2))
 (s_cons (s_if (PW3.pt (w_and (t_cmp op_eq dn_eqS (e_ix ix_tup dn_ixT (e_v 1) e_int (fun _ _ => rfl)) e_str (nomark _)) (w_and1 (t_cmp op_eq dn_eqI (e_v 6) e_int (nomark _))))) (s_one (s_set (i := 7) sc_graphs_in.nd rfl (Or.inl rfl) (e_op op_cat dn_catL (e_v 2) (e_call C_prefixes hr rfl (a_cons (e_ix ix_tup dn_ixT (e_v 1) e_int (fun _ _ => rfl)) a_nil))))) s_nil)
 (s_one (s_expr (e_bm PySem.F.plainAttrs_list PySem.F.slot_list_extend PySem.F.type_list_extend mt_extend dn_extendL (e_v 3) (a_cons (e_call C_graphs_in hr rfl (a_cons (e_v 0) (a_cons (e_ix ix_tup dn_ixT (e_v 1) (e_v 6) (fun _ _ => rfl)) (a_cons (e_v 7) a_nil)))) a_nil)))))))
 (s_one (s_ret (e_v 3))))))), ?_⟩
    have hall := hok.all
    have hn50 := hok.n50
    have hkl := hok.kl
    have hdp := hok.deep
    have hsz := hok.size
    have hps := hok.ps
    have hfin : ∀ {S' : Hp3} {pf : Addr} {j : Nat}, S pf = none → Sub S S' → S' pf = some (.lst ((giAcc e s k j).map trD)) → s.parts.length ≤ j → ∃ p ys, D.ref pf = .ref p ∧ S p = none ∧ Sub S S' ∧ S' p = some (.lst ys) ∧ q ys := fun {S' pf j} h1 h2 h3 h4 => by
      rw [giAcc_end h4] at h3
      exact ⟨pf, _, rfl, h1, h2, h3, hq⟩
    -- one more part is walked
    have hstep : ∀ {S' : Hp3} {pf : Addr} {j : Nat} {a : Sy} {k' : List Str} {ka : Addr} {Q : K3}, S pf = none → Sub S S' → S' pf = some (.lst ((giAcc e s k j).map trD)) → (s.pp Sy.pfx k)[j]? = some (a, k') → S' ka = some (.lst (k'.map D.str)) →
        (∀ pl : Addr, S' pl = none → ∀ ys : List D, (((giAcc e s k j).map trD) ++ ys).length ≤ 100000 → ys = (((a.plc Sy.pfx k').map (grOf toldL e)).flatten).map trD → Sub S (up (up S' pl (.lst ys)) pf (.lst (((giAcc e s k j).map trD) ++ ys))) →
          up (up S' pl (.lst ys)) pf (.lst (((giAcc e s k j).map trD) ++ ys)) pf = some (.lst ((giAcc e s k (j + 1)).map trD)) → Q (.ref pl) (up S' pl (.lst ys))) → sp_graphs_in n [e.d, a.d, .ref ka] S' Q (fun _ _ _ => False) := fun {S' pf j a k' ka Q} h1 h2 h3 h4 h5 h6 => by
      refine ⟨e, a, ka, k', rfl, h5, hok.part (List.mem_of_getElem? h4), fun pl hpl => h6 pl hpl _ ?_ rfl ?_ ?_⟩
      · have := giAcc_le (e := e) (s := s) (k := k) (j := j + 1)
        rw [giAcc_snoc h4, List.length_append] at this
        rw [List.length_append, List.length_map, List.length_map]
        omega
      · exact (h2.up hpl).at h1
      · rw [up_same, giAcc_snoc h4, List.map_append]
    by_cases hsend : ∃ x as, s = .send x as
    · obtain ⟨x, as, rfl⟩ := hsend
      have has : as.length ≤ 1000 := (hall (Sy.send x as) (by rw [Sy.pre_parts]; exact List.mem_cons_self)).1
      have hin : ∀ a ∈ as, ∀ b ∈ a.pre, b ∈ (Sy.send x as).pre := fun a ha b hb => by rw [Sy.pre_parts]; exact List.mem_cons_of_mem _ (mem_pres ha hb)
      have self_in : ∀ a : Sy, a ∈ a.pre := fun a => by rw [Sy.pre_parts]; exact List.mem_cons_self
      simp only [Sy.d, Sy.ds_map]
      unfold Er.d
      decreasing_trivial
      intro pf hpf
      have hS1 := up_get (o := .lst []) hS hpf
      decreasing_trivial
      refine comp_mapC (fun i => rowD (as.map fun a => toldL (e.ps.getD i "") a k)) (by rw [List.length_map]; omega) (fun _ _ => trivial) ?_ ?_
      · intro i d S2 hd s2
        rw [List.getElem?_map] at hd
        obtain ⟨p, hp, rfl⟩ := Option.map_eq_some_iff.mp hd
        refine ⟨[some (.str p)], rfl, fun P hP => ?_⟩
        rw [List.getD_eq_getElem?_getD, hp] at hP
        have k2 := s2 _ _ hS1
        decreasing_trivial
        refine comp_mapC (fun j => .int (toldL p (as.getD j .bud) k)) (by rw [List.length_map]; omega) (fun _ _ => trivial) ?_ ?_
        · intro j d S3 hd s3
          rw [List.getElem?_map] at hd
          obtain ⟨a, ha, rfl⟩ := Option.map_eq_some_iff.mp hd
          refine ⟨[some a.d], rfl, fun P hP => ?_⟩
          rw [List.getD_eq_getElem?_getD, ha] at hP
          have k3 := s3 _ _ k2
          have ham := List.mem_of_getElem? ha
          have had := Sy.deeps_mem ham
          simp only [Sy.deep] at hdp
          have hpl := pfx_len a
          decreasing_trivial
          exact ⟨p, a, kn, k, rfl, k3, by omega, (hall a (hin a ham a (self_in a))).2, by omega, hP _ (Sub.refl _)⟩
        intro S3 s3
        have el : ((List.range (as.map Sy.d).length).map fun j => D.int (toldL p (as.getD j .bud) k)) = (as.map fun a => toldL p a k).map D.int := by
          rw [List.length_map, List.map_map]
          apply List.ext_getElem?
          intro i
          rw [List.getElem?_map, List.getElem?_map]
          by_cases hi : i < as.length
          · rw [List.getElem?_range hi, List.getElem?_eq_getElem hi]
            simp [List.getD_eq_getElem?_getD, hi]
          · rw [List.getElem?_eq_none (by simpa using hi), List.getElem?_eq_none (by omega)]
            rfl
        rw [el]
        intro p4 hp4
        decreasing_trivial
        exact hP _ (s3.up hp4)
      intro S4 s4
      have el : ((List.range (e.ps.map D.str).length).map fun i => rowD (as.map fun a => toldL (e.ps.getD i "") a k)) = (e.ps.map fun p => as.map fun a => toldL p a k).map rowD := by
        rw [List.length_map, List.map_map]
        apply List.ext_getElem?
        intro i
        rw [List.getElem?_map, List.getElem?_map]
        by_cases hi : i < e.ps.length
        · rw [List.getElem?_range hi, List.getElem?_eq_getElem hi]
          simp [List.getD_eq_getElem?_getD, hi]
        · rw [List.getElem?_eq_none (by simpa using hi), List.getElem?_eq_none (by omega)]
          rfl
      rw [el]
      intro p5 hp5
      have g1 := up_get (o := .lst ((e.ps.map fun p => as.map fun a => toldL p a k).map rowD)) (s4 _ _ hS1) hp5
      have g2 := up_get (o := .lst ((e.ps.map fun p => as.map fun a => toldL p a k).map rowD)) (s4 _ _ (show up S pf (.lst []) pf = some (.lst []) from up_same)) hp5
      have g3 : Sub S (up S4 p5 (.lst ((e.ps.map fun p => as.map fun a => toldL p a k).map rowD))) := (((Sub.refl S).up hpf).trans s4).up hp5
      have g0 : up S4 p5 (.lst ((e.ps.map fun p => as.map fun a => toldL p a k).map rowD)) p5 = _ := up_same
      generalize up S4 p5 (.lst ((e.ps.map fun p => as.map fun a => toldL p a k).map rowD)) = S5 at g0 g1 g2 g3 ⊢
      decreasing_trivial
      refine j_append g2 (by decide) ?_
      decreasing_trivial
      have e0 : ([] : List D) ++ [D.tup [.str e.name, .str x, .tup ((e.ps.map fun p => as.map fun a => toldL p a k).map rowD)]] = (giAcc e (.send x as) k 0).map trD := by
        rw [giAcc_0]
        simp [grOf, trD, grD, matD]
      rw [e0]
      refine ⟨fun j σ S' => ∃ x4 x5 x6 x7, σ = [some e.d, some (Sy.send x as).d, some (.ref kn), some (.ref pf), x4, x5, x6, x7] ∧ Sub S S' ∧ S' pf = some (.lst ((giAcc e (.send x as) k j).map trD)),
        ⟨_, _, _, _, by simp only [Sy.d, Sy.ds_map, Er.d]; rfl, g3.at hpf, up_same⟩, fun _ _ _ _ => trivial, ?_, ?_⟩
      · rintro j d σ S' hd ⟨x4, x5, x6, x7, rfl, h1, h2⟩
        rw [List.getElem?_map] at hd
        obtain ⟨a, ha, rfl⟩ := Option.map_eq_some_iff.mp hd
        have hpp := pp_same (s := .send x as) (k := k) ha (fun _ _ _ z => by cases z)
        decreasing_trivial
        refine hstep hpf h1 h2 hpp (h1 _ _ hS) fun pl hpl ys hl hy q1 q2 => ?_
        decreasing_trivial
        refine j_extendL (up_get h2 hpl) up_same (by rw [← List.length_append]; exact small_le (by omega)) ?_
        exact ⟨_, _, _, _, rfl, q1, q2⟩
      · rintro σ S' ⟨x4, x5, x6, x7, rfl, h1, h2⟩
        decreasing_trivial
        exact hfin hpf h1 h2 (by simp [Sy.parts])
    by_cases hleaf : (∃ x, s = .name x) ∨ s = .bud
    · have hp0 : s.parts = [] := by rcases hleaf with ⟨x, rfl⟩ | rfl <;> rfl
      have hg0 : giAcc e s k 0 = [] := by rw [giAcc_0]; rcases hleaf with ⟨x, rfl⟩ | rfl <;> rfl
      rcases hleaf with ⟨x, rfl⟩ | rfl
      all_goals
        simp only [Sy.d]
        decreasing_trivial
        intro pf hpf
        decreasing_trivial
        exact hfin (j := 0) hpf ((Sub.refl S).up hpf) (by rw [up_same, hg0]; rfl) (by rw [hp0]; exact Nat.le_refl _)
    have hg0 : giAcc e s k 0 = [] := by
      rw [giAcc_0]
      cases s <;> first | rfl | exact (hsend ⟨_, _, rfl⟩).elim
    have hp4 : s.parts.length ≤ 3 := by
      cases s <;> first | exact (hsend ⟨_, _, rfl⟩).elim | exact Nat.le_refl _ | simp [Sy.parts]
    by_cases hfork : ∃ a b c, s = .fork a b c
    · obtain ⟨a, b, c, rfl⟩ := hfork
      have had : a.deep ≤ 50 := by simp only [Sy.deep] at hdp; omega
      have hab := (hall a (by simp only [Sy.pre]; exact List.mem_cons_of_mem _ (List.mem_append_left _ (by rw [Sy.pre_parts]; exact List.mem_cons_self)))).2
      have hpa := pfx_len a
      have hl1 : (([D.str "fork", a.d, b.d, c.d] : List D).length : Int) ≤ 4 := by simp
      have hl0 : (0 : Int) ≤ (([D.str "fork", a.d, b.d, c.d] : List D).length : Int) := by simp
      simp only [Sy.d]
      decreasing_trivial
      intro pf hpf
      have hS1 := up_get (o := .lst []) hS hpf
      decreasing_trivial
      refine ⟨fun j σ S' => ∃ x4 x5 x6 x7, σ = [some e.d, some (Sy.fork a b c).d, some (.ref kn), some (.ref pf), x4, x5, x6, x7] ∧ Sub S S' ∧ S' pf = some (.lst ((giAcc e (.fork a b c) k j).map trD)),
        ⟨_, _, _, _, rfl, (Sub.refl S).up hpf, by rw [up_same, hg0]; rfl⟩, fun _ _ _ _ => trivial, ?_, ?_⟩
      · rintro j d σ S' hd ⟨x4, x5, x6, x7, rfl, h1, h2⟩
        obtain ⟨hj, rfl⟩ := nums_at hd
        have hj3 : j < 3 := hj
        simp only [Sy.d]
        rcases (by omega : j = 0 ∨ j = 1 ∨ j = 2) with rfl | rfl | rfl
        · decreasing_trivial
          refine hstep (k' := k) hpf h1 h2 rfl (h1 _ _ hS) fun pl hpl ys hl hy q1 q2 => ?_
          decreasing_trivial
          refine j_extendL (up_get h2 hpl) up_same (by rw [← List.length_append]; exact small_le (by omega)) ?_
          exact ⟨_, _, _, _, rfl, q1, q2⟩
        · decreasing_trivial
          refine ⟨a, rfl, by omega, hab, ?_⟩
          intro pp hpp
          have m1 := up_get (o := .lst (a.pfx.map D.str)) (h1 _ _ hS) hpp
          refine j_catL m1 up_same (by rw [List.length_map, List.length_map]; exact small_le (by omega)) ?_
          intro pk hpk
          rw [← List.map_append]
          have m2 := up_get (o := .lst ((k ++ a.pfx).map D.str)) (up_get (o := .lst (a.pfx.map D.str)) h2 hpp) hpk
          have m3 := (h1.up (o := .lst (a.pfx.map D.str)) hpp).up (o := .lst ((k ++ a.pfx).map D.str)) hpk
          have m4 : up (up S' pp (.lst (a.pfx.map D.str))) pk (.lst ((k ++ a.pfx).map D.str)) pk = _ := up_same
          generalize up (up S' pp (.lst (a.pfx.map D.str))) pk (.lst ((k ++ a.pfx).map D.str)) = S6 at m2 m3 m4 ⊢
          decreasing_trivial
          refine hstep (k' := k ++ a.pfx) hpf m3 m2 rfl m4 fun pl hpl ys hl hy q1 q2 => ?_
          decreasing_trivial
          refine j_extendL (up_get m2 hpl) up_same (by rw [← List.length_append]; exact small_le (by omega)) ?_
          exact ⟨_, _, _, _, rfl, q1, q2⟩
        · decreasing_trivial
          refine hstep (k' := k) hpf h1 h2 rfl (h1 _ _ hS) fun pl hpl ys hl hy q1 q2 => ?_
          decreasing_trivial
          refine j_extendL (up_get h2 hpl) up_same (by rw [← List.length_append]; exact small_le (by omega)) ?_
          exact ⟨_, _, _, _, rfl, q1, q2⟩
      · rintro σ S' ⟨x4, x5, x6, x7, rfl, h1, h2⟩
        decreasing_trivial
        exact hfin hpf h1 h2 (by simp [Sy.parts, nums_len])
    have et : ∃ t, s.d = .tup (.str t :: s.parts.map Sy.d) ∧ ¬ t = "send" ∧ ¬ t = "name" ∧ ¬ t = "bud" ∧ ¬ t = "fork" := by
      cases s <;> first | exact ⟨_, rfl, by decide, by decide, by decide, by decide⟩ | exact (hsend ⟨_, _, rfl⟩).elim | exact (hfork ⟨_, _, _, rfl⟩).elim | exact (hleaf (.inl ⟨_, rfl⟩)).elim | exact (hleaf (.inr rfl)).elim
    obtain ⟨t, ed, t1, t2, t3, t4⟩ := et
    have hl1 : ((D.str t :: s.parts.map Sy.d).length : Int) ≤ 4 := by simp only [List.length_cons, List.length_map]; omega
    have hl0 : (0 : Int) ≤ ((D.str t :: s.parts.map Sy.d).length : Int) := by omega
    rw [ed]
    decreasing_trivial
    intro pf hpf
    have hS1 := up_get (o := .lst []) hS hpf
    decreasing_trivial
    refine ⟨fun j σ S' => ∃ x4 x5 x6 x7, σ = [some e.d, some (.tup (.str t :: s.parts.map Sy.d)), some (.ref kn), some (.ref pf), x4, x5, x6, x7] ∧ Sub S S' ∧ S' pf = some (.lst ((giAcc e s k j).map trD)),
      ⟨_, _, _, _, rfl, (Sub.refl S).up hpf, by rw [up_same, hg0]; rfl⟩, fun _ _ _ _ => trivial, ?_, ?_⟩
    · rintro j d σ S' hd ⟨x4, x5, x6, x7, rfl, h1, h2⟩
      obtain ⟨hj, rfl⟩ := nums_at hd
      have hj3 : j < s.parts.length := by
        simp only [List.length_cons, List.length_map] at hj
        omega
      obtain ⟨a, ha⟩ : ∃ a, s.parts[j]? = some a := ⟨_, List.getElem?_eq_getElem hj3⟩
      have hpp := pp_same (k := k) ha (fun x y z z' => absurd ⟨x, y, z, z'⟩ hfork)
      have hat : atI (D.str t :: s.parts.map Sy.d) (1 + (j : Int)) = some a.d := by
        have e : (1 : Int) + (j : Int) = ((j + 1 : Nat) : Int) := by omega
        rw [e]
        refine atI_nat ?_
        rw [List.getElem?_cons_succ, List.getElem?_map, ha]
        rfl
      decreasing_trivial
      refine j_ixT hat ?_
      decreasing_trivial
      refine hstep hpf h1 h2 hpp (h1 _ _ hS) fun pl hpl ys hl hy q1 q2 => ?_
      decreasing_trivial
      refine j_extendL (up_get h2 hpl) up_same (by rw [← List.length_append]; exact small_le (by omega)) ?_
      exact ⟨_, _, _, _, rfl, q1, q2⟩
    · rintro σ S' ⟨x4, x5, x6, x7, rfl, h1, h2⟩
      decreasing_trivial
      refine hfin hpf h1 h2 ?_
      rw [nums_len]
      simp only [List.length_cons, List.length_map]
      omega

def sp_graphs_l : Sp3 := rdL fun ds S q => ∃ (a : Addr) (prog : List Er), ds = [.ref a] ∧ S a = some (.lst (prog.map Er.d)) ∧ (∀ e ∈ prog, GiOk 20 e e.body []) ∧ (graphsOf toldL Sy.pfx prog).length ≤ 100000 ∧ q ((graphsOf toldL Sy.pfx prog).map trD)
theorem ok_graphs_l (h : Has K mg "_law_graphs" s_graphs_l ["program"]) (G : Gs K mg) (C_graphs_in : Cal3 P w K mg base 22 "_law_graphs_in" ["errand", "saying", "known"] (sp_graphs_in 20)) :
    Cal3 P w K mg base 23 "_law_graphs" ["program"] sp_graphs_l := by
  refine h.rdL sc_graphs_l (fun ds S q ⟨_, _, e, _⟩ => by rw [e]; rfl) fun f cdv A outer s0 H E ds S q hr hA => ?_
  obtain ⟨pr, prog, rfl, hS, hok, hz, hq⟩ := hA
  refine ⟨_, (s_cons (s_set (i := 1) sc_graphs_l.nd rfl (Or.inl rfl) (e_lst a_nil))
 (s_cons (s_for PassesOwn.never rfl (i_list (e_v 0)) (g_name (i := 2) sc_graphs_l.nd rfl (Or.inl rfl)) (s_one (s_expr (e_bm PySem.F.plainAttrs_list PySem.F.slot_list_extend PySem.F.type_list_extend mt_extend dn_extendL (e_v 1) (a_cons (e_call C_graphs_in hr rfl (a_cons (e_v 2) (a_cons (e_ix ix_tup dn_ixT (e_v 2) e_int (fun _ _ => rfl)) (a_cons (e_lst a_nil) a_nil)))) a_nil)))))
 (s_one (s_ret (e_v 1))))), ?_⟩
  decreasing_trivial
  intro pf hpf
  have hS1 := up_get (o := .lst []) hS hpf
  decreasing_trivial
  refine ⟨fun i σ S' => ∃ x2, σ = [some (.ref pr), some (.ref pf), x2] ∧ Sub S S' ∧ S' pf = some (.lst ((graphsOf toldL Sy.pfx (prog.take i)).map trD)), ⟨none, rfl, (Sub.refl S).up hpf, by rw [up_same]; rfl⟩,
    fun i σ S' ⟨x2, _, h1, _⟩ => h1 _ _ hS, ?_, ?_⟩
  · rintro i d σ S' hd ⟨x2, rfl, h1, h2⟩
    rw [List.getElem?_map] at hd
    obtain ⟨e, he, rfl⟩ := Option.map_eq_some_iff.mp hd
    have hem : e ∈ prog := List.mem_of_getElem? he
    have hsn := gr_snoc (told := toldL) (ext := Sy.pfx) he
    have hbd := gr_le (told := toldL) (ext := Sy.pfx) (prog := prog) (i + 1)
    rw [hsn, List.length_append] at hbd
    have ed : e.d = .tup [.str e.name, .tup (e.ps.map D.str), e.body.d] := rfl
    rw [ed]
    decreasing_trivial
    intro p0 hp0
    decreasing_trivial
    refine ⟨e, e.body, p0, [], rfl, up_same, hok e hem, ?_⟩
    intro pl hpl
    have m1 := up_get (o := .lst ((((e.body.plc Sy.pfx []).map (grOf toldL e)).flatten).map trD)) (up_get (o := .lst []) h2 hp0) hpl
    decreasing_trivial
    refine j_extendL m1 up_same (by rw [List.length_map, List.length_map]; exact small_le (by omega)) ?_
    refine ⟨_, rfl, ((h1.up hp0).up hpl).at hpf, ?_⟩
    rw [up_same, hsn, List.map_append]
  · rintro σ S' ⟨x2, rfl, h1, h2⟩
    rw [List.length_map, List.take_length] at h2
    decreasing_trivial
    exact ⟨pf, _, rfl, hpf, h1, h2, hq⟩

theorem name_short {x : Str} (h : NameOk x) : x.length ≤ 1000 := by
  obtain ⟨cs, rfl, _, h8, _⟩ := h
  show (textOf cs).cps.size ≤ 1000
  simp only [textOf, List.size_toArray]
  omega
/-- what both ways of drawing give -/
structure Gp (prog : List Er) : Prop where
  len : prog.length ≤ 12
  ps : ∀ e ∈ prog, e.ps.length ≤ 4 ∧ ∀ x ∈ e.ps, NameOk x
  wf : ∃ ar, ∀ e ∈ prog, e.body.wf ar e.ps
  deep : ∀ e ∈ prog, e.body.deep ≤ 12
  size : ∀ e ∈ prog, e.body.pre.length ≤ 5000
  sends : ∀ e ∈ prog, e.body.sends ≤ 12
theorem le_sum_of {l : List Nat} {x : Nat} (h : x ∈ l) : x ≤ l.sum := by
  induction l with
  | nil => cases h
  | cons y l ih =>
    rw [List.sum_cons]
    rcases List.mem_cons.mp h with rfl | h
    · omega
    · have := ih h; omega
theorem Gp.of_good {prog : List Er} {m b : Nat} (h : Good prog m 5 b) (hm : m ≤ 12) (hb : b ≤ 12) : Gp prog := by
  refine ⟨Nat.le_trans h.len hm, fun e he => ⟨(h.ps e he).2.1, (h.ps e he).2.2.2⟩, ⟨_, fun e he => (h.wf e he).1⟩, fun e he => Nat.le_trans (h.wf e he).2 (by decide), fun e he => ?_, fun e he => Nat.le_trans (le_sum_of (List.mem_map_of_mem (f := fun e => e.body.sends) he)) (Nat.le_trans h.sends hb)⟩
  have h1 := Sy.pre_len (h.wf e he).1
  have h2 : 5 ^ e.body.deep ≤ 5 ^ 5 := Nat.pow_le_pow_right (by omega) (h.wf e he).2
  have h3 : 5 ^ 5 = 3125 := by decide
  omega
theorem Gp.of_pg {prog : List Er} (h : Pg prog) : Gp prog :=
  ⟨h.len, fun e he => ⟨(h.ps e he).2.1, (h.ps e he).2.2.2⟩, ⟨_, fun e he => (h.body e he).wf⟩, fun e he => (h.body e he).deep, fun e he => (h.body e he).size, fun e he => (h.body e he).sends⟩
theorem Gp.gr {prog : List Er} (h : Gp prog) : ∀ e ∈ prog, GrOk e := fun e he => by
  obtain ⟨ar, hw⟩ := h.wf
  refine ⟨by have := h.size e he; omega, fun p hp => ⟨?_, ?_⟩, by have := (h.ps e he).1; omega⟩
  · have := plc_known bases_len 12 e.body [] (h.deep e he) p hp
    simp only [List.length_nil] at this
    omega
  · have hm : p.1 ∈ e.body.pre := by rw [← Sy.plc_fst Sy.bases e.body []]; exact List.mem_map_of_mem (f := Prod.fst) hp
    have := wf_parts (Sy.wf_in (hw e he) p.1 hm)
    omega
theorem Gp.gi {prog : List Er} (h : Gp prog) : ∀ e ∈ prog, GiOk 20 e e.body [] := fun e he => by
  obtain ⟨ar, hw⟩ := h.wf
  refine ⟨by have := h.deep e he; omega, by decide, by decide, by have := (h.ps e he).1; omega, by have := h.size e he; omega, fun a ha => ⟨?_, fun x hx => ?_⟩⟩
  · have := wf_parts (Sy.wf_in (hw e he) a ha)
    omega
  · exact name_short ((h.ps e he).2 x (wf_base (Sy.wf_in (hw e he) a ha) hx))
theorem Gp.len2 {prog : List Er} (h : Gp prog) {told : Str → Sy → List Str → Int} {ext : Sy → List Str} : (graphsOf told ext prog).length ≤ 144 := by
  have h1 := graphsOf_sends (told := told) (ext := ext) h.sends
  have h2 := h.len
  have h3 : prog.length * 12 ≤ 12 * 12 := Nat.mul_le_mul_right _ h2
  omega
theorem Gp.same {prog : List Er} (h : Gp prog) : graphsOf toldN Sy.bases prog = graphsOf toldL Sy.pfx prog := by
  obtain ⟨ar, hw⟩ := h.wf
  exact graphs_same fun e he => ⟨(h.ps e he).2, hw e he⟩
theorem toldN_num (p : Str) (a : Sy) (k : List Str) : 0 ≤ toldN p a k ∧ toldN p a k ≤ 2 := by
  cases a <;> simp only [toldN] <;> (repeat split) <;> decide
theorem Gp.mt {prog : List Er} (h : Gp prog) : ∀ g ∈ graphsOf toldN Sy.bases prog, ∃ m n, Mt m n g.2.2 ∧ m ≤ 1000 ∧ n ≤ 1000 := by
  intro g hg
  obtain ⟨ar, hw⟩ := h.wf
  unfold graphsOf at hg
  obtain ⟨l, hl, hg⟩ := List.mem_flatten.mp hg
  obtain ⟨e, he, rfl⟩ := List.mem_map.mp hl
  obtain ⟨l, hl, hg⟩ := List.mem_flatten.mp hg
  obtain ⟨⟨s, k⟩, hs, rfl⟩ := List.mem_map.mp hl
  have hm : s ∈ e.body.pre := by rw [← Sy.plc_fst Sy.bases e.body []]; exact List.mem_map_of_mem (f := Prod.fst) hs
  cases s with
  | send x as =>
    simp only [grOf, List.mem_singleton] at hg
    subst hg
    have h4 := wf_parts (Sy.wf_in (hw e he) _ hm)
    simp only [Sy.parts] at h4
    refine ⟨e.ps.length, as.length, ⟨by simp, fun r hr => ?_, fun r hr x hx => ?_⟩, by have := (h.ps e he).1; omega, by omega⟩
    · obtain ⟨p, _, rfl⟩ := List.mem_map.mp hr
      simp
    · obtain ⟨p, _, rfl⟩ := List.mem_map.mp hr
      obtain ⟨a, _, rfl⟩ := List.mem_map.mp hx
      exact toldN_num p a k
  | _ => simp [grOf] at hg
theorem ok_law {f : Addr} {fd : FuncData} (F : Fun K "law" "law" s_law f fd) (G : Gs K mg) (C_cell_at : Cal3 P w K mg base 39 "_law_cell_at" ["script", "k"] sp_cell_at) (C_drawn : Cal3 P w K mg base 39 "_law_drawn" ["script", "spot", "most", "deep"] (sp_drawn 5))
    (C_program : Cal3 P w K mg base 39 "_law_program" ["script", "spot", "most"] sp_program) (C_graphs_l : Cal3 P w K mg base 39 "_law_graphs" ["program"] sp_graphs_l) (C_graphs : Cal3 P w K mg base 39 "graphs" ["program"] sp_graphs) (C_is_graph : Cal3 P w K mg base 39 "_law_is_graph" ["found"] sp_is_graph) :
    FnOk P w K mg base (CX1 P w) 40 f fd ["script"] (lSp K lawS) := by
  refine law_fn F sc_law fun cdv A outer s H E ns hr h63 => ?_
  refine ⟨_, (s_cons (s_ifm (t_cmp op_eq dn_eqI (e_op op_mod dn_intC (e_call C_cell_at hr rfl (a_cons (e_v 0) (a_cons e_int a_nil))) e_int) e_int (nomark _)) (s_one (s_set (i := 1) sc_law.nd rfl (Or.inl rfl) (e_call C_drawn hr rfl (a_cons (e_v 0) (a_cons (e_lst (a_cons e_int (a_cons e_int a_nil))) (a_cons e_int (a_cons e_int a_nil))))))) (s_one (s_set (i := 1) sc_law.nd rfl (Or.inl rfl) (e_call C_program hr rfl (a_cons (e_v 0) (a_cons (e_lst (a_cons e_int a_nil)) (a_cons e_int a_nil)))))))
 (s_cons (s_set (i := 2) sc_law.nd rfl (Or.inl rfl) (e_callTy call_list_of dn_toList rfl G.list boot_list (a_cons (e_v 1) a_nil)))
 (s_cons (s_set (i := 3) sc_law.nd rfl (Or.inl rfl) (e_call C_graphs_l hr rfl (a_cons (e_v 1) a_nil)))
 (s_cons (s_set (i := 4) sc_law.nd rfl (Or.inl rfl) (e_call C_graphs hr rfl (a_cons (e_v 1) a_nil)))
 (s_cons (s_ifm (PW3.pt (w_or (t_not (t_val (e_callB call_isB dn_isB rfl G.isinstance boot_isinstance (a_cons (e_v 4) (a_cons (e_bltn (n := "list") rfl G.list boot_list) a_nil))))) (w_or1 (t_cmp op_ne dn_neI (e_callB call_len_seq dn_len rfl G.len PySem.boot_len (a_cons (e_v 4) a_nil)) (e_callB call_len_seq dn_len rfl G.len PySem.boot_len (a_cons (e_v 3) a_nil)) (nomark _))))) (s_one (s_ret e_bl)) s_nil)
 (s_cons (s_ifm (t_not (t_val (e_callB (call_allL rfl) (dn_all (f := fun bs => bs.all id)) rfl G.all boot_all (a_cons (e_comp (osc := defScope s_law) (N := ["script", "program", "kept", "due", "found"]) (M := []) (js := []) ⟨rfl, by decide +kernel, by decide +kernel, rfl, by decide +kernel, by decide +kernel, by decide +kernel⟩ (by decide +kernel) rfl (i_list (e_v 4)) (fun _ _ _ _ _ => (e_call C_is_graph hr rfl (a_cons (e_v 0) a_nil)))) a_nil)))) (s_one (s_ret e_bl)) s_nil)
 (s_one (s_ret (e_and (e_cmp (op_eq_deep (hu_deep hr)) dn_eqD (e_v 4) (e_v 3) (nomark _)) (e_and (e_cmp (op_eq_deep (hu_deep hr)) dn_eqD (e_call C_graphs hr rfl (a_cons (e_v 1) a_nil)) (e_v 3) (nomark _)) (e_one (e_cmp (op_eq_deep (hu_deep hr)) dn_eqD (e_v 1) (e_v 2) (nomark _))))))))))))), ?_⟩
  decreasing_trivial
  refine j_ifm (fun σ T => ∃ (pr : Addr) (prog : List Er), σ = [some (.rol (ns.map D.int)), some (.ref pr), none, none, none] ∧ T pr = some (.lst (prog.map Er.d)) ∧ Gp prog) ?_ ?_
  · intro n' hn'
    decreasing_trivial
    refine ⟨ns, 0, rfl, by decide, ?_⟩
    by_cases hc : cellAt ns 0 % 2 = 0
    · decreasing_trivial
      intro sp hsp
      decreasing_trivial
      refine ⟨ns, sp, 1, 12, 3, 5, rfl, up_same, by decide, by decide, by decide, by decide, by decide, by decide, fun prog i2 b2 hg => ?_⟩
      intro pr hpr
      decreasing_trivial
      exact hn' _ _ ⟨pr, prog, rfl, up_same, .of_good hg (by decide) (by decide)⟩
    · decreasing_trivial
      intro sp hsp
      decreasing_trivial
      refine ⟨ns, sp, 1, 3, [], rfl, up_same, by decide, by decide, by decide, fun prog i2 hg hl hi2 => ?_⟩
      intro pr hpr
      decreasing_trivial
      exact hn' _ _ ⟨pr, prog, rfl, up_same, .of_pg hg⟩
  rintro σ T ⟨pr, prog, rfl, h1, hg⟩
  have hmt := hg.mt
  have hsm := hg.same
  have hl2 := hg.len2 (told := toldN) (ext := Sy.bases)
  have fine : ∀ d ∈ (graphsOf toldN Sy.bases prog).map trD, d.pure = true ∧ deepD d.dt + 1 ≤ 200 := fun d hd => by
    obtain ⟨g, _, rfl⟩ := List.mem_map.mp hd
    exact ⟨grD_pure .., by have := grD_deep g.1 g.2.1 g.2.2; show deepD (grD g.1 g.2.1 g.2.2).dt + 1 ≤ 200; omega⟩
  have fineE : ∀ d ∈ prog.map Er.d, d.pure = true ∧ deepD d.dt + 1 ≤ 200 := fun d hd => by
    obtain ⟨e, he, rfl⟩ := List.mem_map.mp hd
    have h1 := e.d_deep
    have h2 := hg.deep e he
    exact ⟨e.d_pure, by omega⟩
  decreasing_trivial
  intro pk hpk
  have h2 := up_get (o := .lst (prog.map Er.d)) h1 hpk
  have h3 : up T pk (.lst (prog.map Er.d)) pk = _ := up_same
  generalize up T pk (.lst (prog.map Er.d)) = S2 at h2 h3 ⊢
  decreasing_trivial
  refine ⟨pr, prog, rfl, h2, hg.gi, by rw [← hsm]; omega, ?_⟩
  rw [← hsm]
  intro pd hpd
  have k1 := up_get (o := .lst ((graphsOf toldN Sy.bases prog).map trD)) h2 hpd
  have k2 := up_get (o := .lst ((graphsOf toldN Sy.bases prog).map trD)) h3 hpd
  have k3 : up S2 pd (.lst ((graphsOf toldN Sy.bases prog).map trD)) pd = _ := up_same
  generalize up S2 pd (.lst ((graphsOf toldN Sy.bases prog).map trD)) = S3 at k1 k2 k3 ⊢
  decreasing_trivial
  refine ⟨pr, prog, rfl, k1, hg.gr, by omega, ?_⟩
  intro pf hpf
  have m1 := up_get (o := .lst ((graphsOf toldN Sy.bases prog).map trD)) k1 hpf
  have m2 := up_get (o := .lst ((graphsOf toldN Sy.bases prog).map trD)) k2 hpf
  have m3 := up_get (o := .lst ((graphsOf toldN Sy.bases prog).map trD)) k3 hpf
  have m4 : up S3 pf (.lst ((graphsOf toldN Sy.bases prog).map trD)) pf = _ := up_same
  generalize up S3 pf (.lst ((graphsOf toldN Sy.bases prog).map trD)) = S4 at m1 m2 m3 m4 ⊢
  decreasing_trivial
  refine j_ifm (fun σ T' => σ = [some (.rol (ns.map D.int)), some (.ref pr), some (.ref pk), some (.ref pd), some (.ref pf)] ∧ T' = S4) ?_ ?_
  · intro n' hn'
    decreasing_trivial
    exact hn' _ _ ⟨rfl, rfl⟩
  rintro σ T' ⟨rfl, eT⟩
  rw [eT]
  clear eT
  decreasing_trivial
  refine j_ifm (fun σ T' => σ = [some (.rol (ns.map D.int)), some (.ref pr), some (.ref pk), some (.ref pd), some (.ref pf)] ∧ Sub S4 T') ?_ ?_
  · intro n' hn'
    decreasing_trivial
    refine comp_map (fun _ => .bl true) (by rw [List.length_map]; omega) m4 ?_ ?_
    · intro i d hd P hP
      rw [List.getElem?_map] at hd
      obtain ⟨g, hg', rfl⟩ := Option.map_eq_some_iff.mp hd
      obtain ⟨m, n, hM, hm, hn⟩ := hmt g (List.mem_of_getElem? hg')
      decreasing_trivial
      exact ⟨g.1, g.2.1, g.2.2, m, n, rfl, hM, hm, hn, hP⟩
    intro p9 hp9
    decreasing_trivial
    have eb : ((List.range ((graphsOf toldN Sy.bases prog).map trD).length).map fun _ => D.bl true) = ((List.range ((graphsOf toldN Sy.bases prog).map trD).length).map fun _ => true).map D.bl := by rw [List.map_map]; rfl
    rw [eb]
    refine j_all up_same ?_
    have et : (((List.range ((graphsOf toldN Sy.bases prog).map trD).length).map fun _ => true).all id) = true := by
      rw [List.all_eq_true]
      intro x hx
      obtain ⟨_, _, rfl⟩ := List.mem_map.mp hx
      rfl
    rw [et]
    decreasing_trivial
    exact hn' _ _ ⟨rfl, (Sub.refl _).up hp9⟩
  rintro σ T' ⟨rfl, hs⟩
  replace m1 := hs _ _ m1
  replace m2 := hs _ _ m2
  replace m3 := hs _ _ m3
  replace m4 := hs _ _ m4
  decreasing_trivial
  refine eq_lists m4 m3 (fun d hd => (fine d hd).1) (fun d hd => (fine d hd).2) (by decide) ?_
  decreasing_trivial
  refine ⟨pr, prog, rfl, m1, hg.gr, by omega, ?_⟩
  intro pg hpg
  decreasing_trivial
  refine eq_lists up_same (up_get m3 hpg) (fun d hd => (fine d hd).1) (fun d hd => (fine d hd).2) (by decide) ?_
  decreasing_trivial
  refine eq_lists (up_get m1 hpg) (up_get m2 hpg) (fun d hd => (fineE d hd).1) (fun d hd => (fineE d hd).2) (by decide) ?_
  rfl

end
theorem all_mk {l : PySem.W.OpenLaw} {w : World} {K : PySem.W.Frag} {h : Heap} {mg : Str → Option Value} {fa f_parts f_graphs f_placed_sends f_placed_parts f_path_parameter f_told_row f_told_number f_cell_at f_names f_next f_saying f_drawn f_path f_arg f_send f_body f_program f_is_graph f_prefixes f_told f_graphs_in f_graphs_l f_law : Addr}
    (X : K.In h) (G : h.Ns mainGlobals mg) (hfa : mg "law" = some (.ref fa))
    {od_parts an_parts od_graphs an_graphs od_placed_sends an_placed_sends od_placed_parts an_placed_parts od_path_parameter an_path_parameter od_told_row an_told_row od_told_number an_told_number od_cell_at an_cell_at od_names an_names od_next an_next od_saying an_saying od_drawn an_drawn od_path an_path od_arg an_arg od_send an_send od_body an_body od_program an_program od_is_graph an_is_graph od_prefixes an_prefixes od_told an_told od_graphs_in an_graphs_in od_graphs_l an_graphs_l od_law an_law : Option Addr}
    {sl_parts sl_graphs sl_placed_sends sl_placed_parts sl_path_parameter sl_told_row sl_told_number sl_cell_at sl_names sl_next sl_saying sl_drawn sl_path sl_arg sl_send sl_body sl_program sl_is_graph sl_prefixes sl_told sl_graphs_in sl_graphs_l sl_law : Array (Option Value)}
    {oc_parts kV_parts dc_parts pm_parts cd_parts ct_parts oc_graphs kV_graphs dc_graphs pm_graphs cd_graphs ct_graphs oc_placed_sends kV_placed_sends dc_placed_sends pm_placed_sends cd_placed_sends ct_placed_sends oc_placed_parts kV_placed_parts dc_placed_parts pm_placed_parts cd_placed_parts ct_placed_parts oc_path_parameter kV_path_parameter dc_path_parameter pm_path_parameter cd_path_parameter ct_path_parameter oc_told_row kV_told_row dc_told_row pm_told_row cd_told_row ct_told_row oc_told_number kV_told_number dc_told_number pm_told_number cd_told_number ct_told_number oc_cell_at kV_cell_at dc_cell_at pm_cell_at cd_cell_at ct_cell_at oc_names kV_names dc_names pm_names cd_names ct_names oc_next kV_next dc_next pm_next cd_next ct_next oc_saying kV_saying dc_saying pm_saying cd_saying ct_saying oc_drawn kV_drawn dc_drawn pm_drawn cd_drawn ct_drawn oc_path kV_path dc_path pm_path cd_path ct_path oc_arg kV_arg dc_arg pm_arg cd_arg ct_arg oc_send kV_send dc_send pm_send cd_send ct_send oc_body kV_body dc_body pm_body cd_body ct_body oc_program kV_program dc_program pm_program cd_program ct_program oc_is_graph kV_is_graph dc_is_graph pm_is_graph cd_is_graph ct_is_graph oc_prefixes kV_prefixes dc_prefixes pm_prefixes cd_prefixes ct_prefixes oc_told kV_told dc_told pm_told cd_told ct_told oc_graphs_in kV_graphs_in dc_graphs_in pm_graphs_in cd_graphs_in ct_graphs_in oc_graphs_l kV_graphs_l dc_graphs_l pm_graphs_l cd_graphs_l ct_graphs_l oc_law kV_law dc_law pm_law cd_law ct_law : Value}
    (a_parts : PySem.W.nsIn K mainGlobals "parts" = some (some (.ref f_parts)))
    (l_parts : K.lookup f_parts = some ⟨oc_parts, od_parts, .func (PySem.W.fnOf "parts" "parts" (defArgs s_parts) (defBody s_parts) (defScope s_parts) .none kV_parts dc_parts pm_parts an_parts cd_parts ct_parts), sl_parts⟩)
    (c_parts : PySem.W.codeIn K cd_parts "parts" = true) (k_parts : PySem.W.keepIn K (.ref f_parts) = true)
    (a_graphs : PySem.W.nsIn K mainGlobals "graphs" = some (some (.ref f_graphs)))
    (l_graphs : K.lookup f_graphs = some ⟨oc_graphs, od_graphs, .func (PySem.W.fnOf "graphs" "graphs" (defArgs s_graphs) (defBody s_graphs) (defScope s_graphs) .none kV_graphs dc_graphs pm_graphs an_graphs cd_graphs ct_graphs), sl_graphs⟩)
    (c_graphs : PySem.W.codeIn K cd_graphs "graphs" = true) (k_graphs : PySem.W.keepIn K (.ref f_graphs) = true)
    (a_placed_sends : PySem.W.nsIn K mainGlobals "placed_sends" = some (some (.ref f_placed_sends)))
    (l_placed_sends : K.lookup f_placed_sends = some ⟨oc_placed_sends, od_placed_sends, .func (PySem.W.fnOf "placed_sends" "placed_sends" (defArgs s_placed_sends) (defBody s_placed_sends) (defScope s_placed_sends) .none kV_placed_sends dc_placed_sends pm_placed_sends an_placed_sends cd_placed_sends ct_placed_sends), sl_placed_sends⟩)
    (c_placed_sends : PySem.W.codeIn K cd_placed_sends "placed_sends" = true) (k_placed_sends : PySem.W.keepIn K (.ref f_placed_sends) = true)
    (a_placed_parts : PySem.W.nsIn K mainGlobals "placed_parts" = some (some (.ref f_placed_parts)))
    (l_placed_parts : K.lookup f_placed_parts = some ⟨oc_placed_parts, od_placed_parts, .func (PySem.W.fnOf "placed_parts" "placed_parts" (defArgs s_placed_parts) (defBody s_placed_parts) (defScope s_placed_parts) .none kV_placed_parts dc_placed_parts pm_placed_parts an_placed_parts cd_placed_parts ct_placed_parts), sl_placed_parts⟩)
    (c_placed_parts : PySem.W.codeIn K cd_placed_parts "placed_parts" = true) (k_placed_parts : PySem.W.keepIn K (.ref f_placed_parts) = true)
    (a_path_parameter : PySem.W.nsIn K mainGlobals "path_parameter" = some (some (.ref f_path_parameter)))
    (l_path_parameter : K.lookup f_path_parameter = some ⟨oc_path_parameter, od_path_parameter, .func (PySem.W.fnOf "path_parameter" "path_parameter" (defArgs s_path_parameter) (defBody s_path_parameter) (defScope s_path_parameter) .none kV_path_parameter dc_path_parameter pm_path_parameter an_path_parameter cd_path_parameter ct_path_parameter), sl_path_parameter⟩)
    (c_path_parameter : PySem.W.codeIn K cd_path_parameter "path_parameter" = true) (k_path_parameter : PySem.W.keepIn K (.ref f_path_parameter) = true)
    (a_told_row : PySem.W.nsIn K mainGlobals "told_row" = some (some (.ref f_told_row)))
    (l_told_row : K.lookup f_told_row = some ⟨oc_told_row, od_told_row, .func (PySem.W.fnOf "told_row" "told_row" (defArgs s_told_row) (defBody s_told_row) (defScope s_told_row) .none kV_told_row dc_told_row pm_told_row an_told_row cd_told_row ct_told_row), sl_told_row⟩)
    (c_told_row : PySem.W.codeIn K cd_told_row "told_row" = true) (k_told_row : PySem.W.keepIn K (.ref f_told_row) = true)
    (a_told_number : PySem.W.nsIn K mainGlobals "told_number" = some (some (.ref f_told_number)))
    (l_told_number : K.lookup f_told_number = some ⟨oc_told_number, od_told_number, .func (PySem.W.fnOf "told_number" "told_number" (defArgs s_told_number) (defBody s_told_number) (defScope s_told_number) .none kV_told_number dc_told_number pm_told_number an_told_number cd_told_number ct_told_number), sl_told_number⟩)
    (c_told_number : PySem.W.codeIn K cd_told_number "told_number" = true) (k_told_number : PySem.W.keepIn K (.ref f_told_number) = true)
    (a_cell_at : PySem.W.nsIn K mainGlobals "_law_cell_at" = some (some (.ref f_cell_at)))
    (l_cell_at : K.lookup f_cell_at = some ⟨oc_cell_at, od_cell_at, .func (PySem.W.fnOf "_law_cell_at" "_law_cell_at" (defArgs s_cell_at) (defBody s_cell_at) (defScope s_cell_at) .none kV_cell_at dc_cell_at pm_cell_at an_cell_at cd_cell_at ct_cell_at), sl_cell_at⟩)
    (c_cell_at : PySem.W.codeIn K cd_cell_at "_law_cell_at" = true) (k_cell_at : PySem.W.keepIn K (.ref f_cell_at) = true)
    (a_names : PySem.W.nsIn K mainGlobals "_law_names" = some (some (.ref f_names)))
    (l_names : K.lookup f_names = some ⟨oc_names, od_names, .func (PySem.W.fnOf "_law_names" "_law_names" (defArgs s_names) (defBody s_names) (defScope s_names) .none kV_names dc_names pm_names an_names cd_names ct_names), sl_names⟩)
    (c_names : PySem.W.codeIn K cd_names "_law_names" = true) (k_names : PySem.W.keepIn K (.ref f_names) = true)
    (a_next : PySem.W.nsIn K mainGlobals "_law_next" = some (some (.ref f_next)))
    (l_next : K.lookup f_next = some ⟨oc_next, od_next, .func (PySem.W.fnOf "_law_next" "_law_next" (defArgs s_next) (defBody s_next) (defScope s_next) .none kV_next dc_next pm_next an_next cd_next ct_next), sl_next⟩)
    (c_next : PySem.W.codeIn K cd_next "_law_next" = true) (k_next : PySem.W.keepIn K (.ref f_next) = true)
    (a_saying : PySem.W.nsIn K mainGlobals "_law_saying" = some (some (.ref f_saying)))
    (l_saying : K.lookup f_saying = some ⟨oc_saying, od_saying, .func (PySem.W.fnOf "_law_saying" "_law_saying" (defArgs s_saying) (defBody s_saying) (defScope s_saying) .none kV_saying dc_saying pm_saying an_saying cd_saying ct_saying), sl_saying⟩)
    (c_saying : PySem.W.codeIn K cd_saying "_law_saying" = true) (k_saying : PySem.W.keepIn K (.ref f_saying) = true)
    (a_drawn : PySem.W.nsIn K mainGlobals "_law_drawn" = some (some (.ref f_drawn)))
    (l_drawn : K.lookup f_drawn = some ⟨oc_drawn, od_drawn, .func (PySem.W.fnOf "_law_drawn" "_law_drawn" (defArgs s_drawn) (defBody s_drawn) (defScope s_drawn) .none kV_drawn dc_drawn pm_drawn an_drawn cd_drawn ct_drawn), sl_drawn⟩)
    (c_drawn : PySem.W.codeIn K cd_drawn "_law_drawn" = true) (k_drawn : PySem.W.keepIn K (.ref f_drawn) = true)
    (a_path : PySem.W.nsIn K mainGlobals "_law_path" = some (some (.ref f_path)))
    (l_path : K.lookup f_path = some ⟨oc_path, od_path, .func (PySem.W.fnOf "_law_path" "_law_path" (defArgs s_path) (defBody s_path) (defScope s_path) .none kV_path dc_path pm_path an_path cd_path ct_path), sl_path⟩)
    (c_path : PySem.W.codeIn K cd_path "_law_path" = true) (k_path : PySem.W.keepIn K (.ref f_path) = true)
    (a_arg : PySem.W.nsIn K mainGlobals "_law_arg" = some (some (.ref f_arg)))
    (l_arg : K.lookup f_arg = some ⟨oc_arg, od_arg, .func (PySem.W.fnOf "_law_arg" "_law_arg" (defArgs s_arg) (defBody s_arg) (defScope s_arg) .none kV_arg dc_arg pm_arg an_arg cd_arg ct_arg), sl_arg⟩)
    (c_arg : PySem.W.codeIn K cd_arg "_law_arg" = true) (k_arg : PySem.W.keepIn K (.ref f_arg) = true)
    (a_send : PySem.W.nsIn K mainGlobals "_law_send" = some (some (.ref f_send)))
    (l_send : K.lookup f_send = some ⟨oc_send, od_send, .func (PySem.W.fnOf "_law_send" "_law_send" (defArgs s_send) (defBody s_send) (defScope s_send) .none kV_send dc_send pm_send an_send cd_send ct_send), sl_send⟩)
    (c_send : PySem.W.codeIn K cd_send "_law_send" = true) (k_send : PySem.W.keepIn K (.ref f_send) = true)
    (a_body : PySem.W.nsIn K mainGlobals "_law_body" = some (some (.ref f_body)))
    (l_body : K.lookup f_body = some ⟨oc_body, od_body, .func (PySem.W.fnOf "_law_body" "_law_body" (defArgs s_body) (defBody s_body) (defScope s_body) .none kV_body dc_body pm_body an_body cd_body ct_body), sl_body⟩)
    (c_body : PySem.W.codeIn K cd_body "_law_body" = true) (k_body : PySem.W.keepIn K (.ref f_body) = true)
    (a_program : PySem.W.nsIn K mainGlobals "_law_program" = some (some (.ref f_program)))
    (l_program : K.lookup f_program = some ⟨oc_program, od_program, .func (PySem.W.fnOf "_law_program" "_law_program" (defArgs s_program) (defBody s_program) (defScope s_program) .none kV_program dc_program pm_program an_program cd_program ct_program), sl_program⟩)
    (c_program : PySem.W.codeIn K cd_program "_law_program" = true) (k_program : PySem.W.keepIn K (.ref f_program) = true)
    (a_is_graph : PySem.W.nsIn K mainGlobals "_law_is_graph" = some (some (.ref f_is_graph)))
    (l_is_graph : K.lookup f_is_graph = some ⟨oc_is_graph, od_is_graph, .func (PySem.W.fnOf "_law_is_graph" "_law_is_graph" (defArgs s_is_graph) (defBody s_is_graph) (defScope s_is_graph) .none kV_is_graph dc_is_graph pm_is_graph an_is_graph cd_is_graph ct_is_graph), sl_is_graph⟩)
    (c_is_graph : PySem.W.codeIn K cd_is_graph "_law_is_graph" = true) (k_is_graph : PySem.W.keepIn K (.ref f_is_graph) = true)
    (a_prefixes : PySem.W.nsIn K mainGlobals "_law_prefixes" = some (some (.ref f_prefixes)))
    (l_prefixes : K.lookup f_prefixes = some ⟨oc_prefixes, od_prefixes, .func (PySem.W.fnOf "_law_prefixes" "_law_prefixes" (defArgs s_prefixes) (defBody s_prefixes) (defScope s_prefixes) .none kV_prefixes dc_prefixes pm_prefixes an_prefixes cd_prefixes ct_prefixes), sl_prefixes⟩)
    (c_prefixes : PySem.W.codeIn K cd_prefixes "_law_prefixes" = true) (k_prefixes : PySem.W.keepIn K (.ref f_prefixes) = true)
    (a_told : PySem.W.nsIn K mainGlobals "_law_told" = some (some (.ref f_told)))
    (l_told : K.lookup f_told = some ⟨oc_told, od_told, .func (PySem.W.fnOf "_law_told" "_law_told" (defArgs s_told) (defBody s_told) (defScope s_told) .none kV_told dc_told pm_told an_told cd_told ct_told), sl_told⟩)
    (c_told : PySem.W.codeIn K cd_told "_law_told" = true) (k_told : PySem.W.keepIn K (.ref f_told) = true)
    (a_graphs_in : PySem.W.nsIn K mainGlobals "_law_graphs_in" = some (some (.ref f_graphs_in)))
    (l_graphs_in : K.lookup f_graphs_in = some ⟨oc_graphs_in, od_graphs_in, .func (PySem.W.fnOf "_law_graphs_in" "_law_graphs_in" (defArgs s_graphs_in) (defBody s_graphs_in) (defScope s_graphs_in) .none kV_graphs_in dc_graphs_in pm_graphs_in an_graphs_in cd_graphs_in ct_graphs_in), sl_graphs_in⟩)
    (c_graphs_in : PySem.W.codeIn K cd_graphs_in "_law_graphs_in" = true) (k_graphs_in : PySem.W.keepIn K (.ref f_graphs_in) = true)
    (a_graphs_l : PySem.W.nsIn K mainGlobals "_law_graphs" = some (some (.ref f_graphs_l)))
    (l_graphs_l : K.lookup f_graphs_l = some ⟨oc_graphs_l, od_graphs_l, .func (PySem.W.fnOf "_law_graphs" "_law_graphs" (defArgs s_graphs_l) (defBody s_graphs_l) (defScope s_graphs_l) .none kV_graphs_l dc_graphs_l pm_graphs_l an_graphs_l cd_graphs_l ct_graphs_l), sl_graphs_l⟩)
    (c_graphs_l : PySem.W.codeIn K cd_graphs_l "_law_graphs" = true) (k_graphs_l : PySem.W.keepIn K (.ref f_graphs_l) = true)
    (a_law : PySem.W.nsIn K mainGlobals "law" = some (some (.ref f_law)))
    (l_law : K.lookup f_law = some ⟨oc_law, od_law, .func (PySem.W.fnOf "law" "law" (defArgs s_law) (defBody s_law) (defScope s_law) .none kV_law dc_law pm_law an_law cd_law ct_law), sl_law⟩)
    (c_law : PySem.W.codeIn K cd_law "law" = true) (k_law : PySem.W.keepIn K (.ref f_law) = true)
    (z_len : PySem.W.nsIn K mainGlobals "len" = some none)
    (z_range : PySem.W.nsIn K mainGlobals "range" = some none)
    (z_isinstance : PySem.W.nsIn K mainGlobals "isinstance" = some none)
    (z_str : PySem.W.nsIn K mainGlobals "str" = some none)
    (z_tuple : PySem.W.nsIn K mainGlobals "tuple" = some none)
    (z_list : PySem.W.nsIn K mainGlobals "list" = some none)
    (z_int : PySem.W.nsIn K mainGlobals "int" = some none)
    (z_bool : PySem.W.nsIn K mainGlobals "bool" = some none)
    (z_reversed : PySem.W.nsIn K mainGlobals "reversed" = some none)
    (z_all : PySem.W.nsIn K mainGlobals "all" = some none)
    (z_any : PySem.W.nsIn K mainGlobals "any" = some none) :
    ∃ fd : FuncData, (∀ (s : Shared) (v : Value), BindsTo s fd ⟨[v], []⟩ [("script", v)]) ∧ ∀ base : Heap, K.In base → base.Ns mainGlobals mg → FnOk l.prog w K mg base (CX1 l.prog w) 40 fa fd ["script"] (lSp K lawS) := by
  have e := hfa.symm.trans (PySem.W.mg_of X G a_law)
  cases e
  have H_parts : Has K mg "parts" s_parts ["saying"] := has_mk X G a_parts l_parts c_parts k_parts fun _ _ _ _ _ _ us hl => match us, hl with | [_], _ => rfl
  have H_graphs : Has K mg "graphs" s_graphs ["program"] := has_mk X G a_graphs l_graphs c_graphs k_graphs fun _ _ _ _ _ _ us hl => match us, hl with | [_], _ => rfl
  have H_placed_sends : Has K mg "placed_sends" s_placed_sends ["body"] := has_mk X G a_placed_sends l_placed_sends c_placed_sends k_placed_sends fun _ _ _ _ _ _ us hl => match us, hl with | [_], _ => rfl
  have H_placed_parts : Has K mg "placed_parts" s_placed_parts ["saying", "known"] := has_mk X G a_placed_parts l_placed_parts c_placed_parts k_placed_parts fun _ _ _ _ _ _ us hl => match us, hl with | [_, _], _ => rfl
  have H_path_parameter : Has K mg "path_parameter" s_path_parameter ["saying"] := has_mk X G a_path_parameter l_path_parameter c_path_parameter k_path_parameter fun _ _ _ _ _ _ us hl => match us, hl with | [_], _ => rfl
  have H_told_row : Has K mg "told_row" s_told_row ["param", "sayings", "known"] := has_mk X G a_told_row l_told_row c_told_row k_told_row fun _ _ _ _ _ _ us hl => match us, hl with | [_, _, _], _ => rfl
  have H_told_number : Has K mg "told_number" s_told_number ["param", "saying", "known"] := has_mk X G a_told_number l_told_number c_told_number k_told_number fun _ _ _ _ _ _ us hl => match us, hl with | [_, _, _], _ => rfl
  have H_cell_at : Has K mg "_law_cell_at" s_cell_at ["script", "k"] := has_mk X G a_cell_at l_cell_at c_cell_at k_cell_at fun _ _ _ _ _ _ us hl => match us, hl with | [_, _], _ => rfl
  have H_names : Has K mg "_law_names" s_names ["cell", "many"] := has_mk X G a_names l_names c_names k_names fun _ _ _ _ _ _ us hl => match us, hl with | [_, _], _ => rfl
  have H_next : Has K mg "_law_next" s_next ["script", "spot"] := has_mk X G a_next l_next c_next k_next fun _ _ _ _ _ _ us hl => match us, hl with | [_, _], _ => rfl
  have H_saying : Has K mg "_law_saying" s_saying ["script", "spot", "names", "counts", "params", "deep"] := has_mk X G a_saying l_saying c_saying k_saying fun _ _ _ _ _ _ us hl => match us, hl with | [_, _, _, _, _, _], _ => rfl
  have H_drawn : Has K mg "_law_drawn" s_drawn ["script", "spot", "most", "deep"] := has_mk X G a_drawn l_drawn c_drawn k_drawn fun _ _ _ _ _ _ us hl => match us, hl with | [_, _, _, _], _ => rfl
  have H_path : Has K mg "_law_path" s_path ["cell", "params"] := has_mk X G a_path l_path c_path k_path fun _ _ _ _ _ _ us hl => match us, hl with | [_, _], _ => rfl
  have H_arg : Has K mg "_law_arg" s_arg ["cell", "params"] := has_mk X G a_arg l_arg c_arg k_arg fun _ _ _ _ _ _ us hl => match us, hl with | [_, _], _ => rfl
  have H_send : Has K mg "_law_send" s_send ["script", "spot", "names", "counts", "params"] := has_mk X G a_send l_send c_send k_send fun _ _ _ _ _ _ us hl => match us, hl with | [_, _, _, _, _], _ => rfl
  have H_body : Has K mg "_law_body" s_body ["script", "spot", "names", "counts", "params"] := has_mk X G a_body l_body c_body k_body fun _ _ _ _ _ _ us hl => match us, hl with | [_, _, _, _, _], _ => rfl
  have H_program : Has K mg "_law_program" s_program ["script", "spot", "most"] := has_mk X G a_program l_program c_program k_program fun _ _ _ _ _ _ us hl => match us, hl with | [_, _, _], _ => rfl
  have H_is_graph : Has K mg "_law_is_graph" s_is_graph ["found"] := has_mk X G a_is_graph l_is_graph c_is_graph k_is_graph fun _ _ _ _ _ _ us hl => match us, hl with | [_], _ => rfl
  have H_prefixes : Has K mg "_law_prefixes" s_prefixes ["saying"] := has_mk X G a_prefixes l_prefixes c_prefixes k_prefixes fun _ _ _ _ _ _ us hl => match us, hl with | [_], _ => rfl
  have H_told : Has K mg "_law_told" s_told ["param", "saying", "known"] := has_mk X G a_told l_told c_told k_told fun _ _ _ _ _ _ us hl => match us, hl with | [_, _, _], _ => rfl
  have H_graphs_in : Has K mg "_law_graphs_in" s_graphs_in ["errand", "saying", "known"] := has_mk X G a_graphs_in l_graphs_in c_graphs_in k_graphs_in fun _ _ _ _ _ _ us hl => match us, hl with | [_, _, _], _ => rfl
  have H_graphs_l : Has K mg "_law_graphs" s_graphs_l ["program"] := has_mk X G a_graphs_l l_graphs_l c_graphs_l k_graphs_l fun _ _ _ _ _ _ us hl => match us, hl with | [_], _ => rfl
  have Gx : Gs K mg := ⟨PySem.W.mg_none_of X G z_len, PySem.W.mg_none_of X G z_range, PySem.W.mg_none_of X G z_isinstance, PySem.W.mg_none_of X G z_str, PySem.W.mg_none_of X G z_tuple, PySem.W.mg_none_of X G z_list, PySem.W.mg_none_of X G z_int, PySem.W.mg_none_of X G z_bool, PySem.W.mg_none_of X G z_reversed, PySem.W.mg_none_of X G z_all, PySem.W.mg_none_of X G z_any⟩
  have F_law := fun_mk (st := s_law) l_law c_law k_law
  refine ⟨PySem.W.fnOf "law" "law" (defArgs s_law) (defBody s_law) (defScope s_law) .none kV_law dc_law pm_law an_law cd_law ct_law, fun s v => .of_eq rfl, fun base _ _ => ?_⟩
  have C_cell_at := ok_cell_at (P := l.prog) (w := w) (base := base) (k := 0) H_cell_at Gx
  have C_next := ok_next (P := l.prog) (w := w) (base := base) (k := 1) H_next C_cell_at
  have C_names := ok_names (P := l.prog) (w := w) (base := base) (k := 0) H_names Gx
  have C_drawn := ok_drawn (n := 5) H_drawn Gx C_next C_names (ok_saying H_saying Gx C_next 5)
  have C_pp := ok_path_parameter (P := l.prog) (w := w) (base := base) (k := 0) H_path_parameter Gx
  have C_row := ok_told_row (k := 2) H_told_row Gx (ok_told_number (k := 1) H_told_number Gx C_pp)
  have C_placed := ok_placed_sends (k := 2) H_placed_sends Gx (ok_placed_parts (k := 1) H_placed_parts Gx (ok_parts (k := 0) H_parts Gx) C_pp)
  have C_graphs := ok_graphs (k := 3) H_graphs Gx C_placed C_row
  have C_path := ok_path (P := l.prog) (w := w) (base := base) (k := 0) H_path Gx
  have C_arg := ok_arg (k := 1) H_arg C_path
  have C_send := ok_send (k := 2) H_send Gx C_next C_arg
  have C_body := ok_body (k := 3) H_body Gx (C_next.mono (by decide)) (C_arg.mono (by decide)) (C_path.mono (by decide)) C_send
  have C_program := ok_program (k := 4) H_program Gx (C_next.mono (by decide)) (C_names.mono (by decide)) C_body
  have C_prefixes := ok_prefixes (P := l.prog) (w := w) (base := base) (k := 0) H_prefixes Gx
  have C_told := ok_told (k := 1) H_told Gx C_prefixes
  have C_graphs_l := ok_graphs_l H_graphs_l Gx (ok_graphs_in H_graphs_in Gx C_prefixes C_told 20)
  exact ok_law F_law Gx (C_cell_at.mono (by decide)) (C_drawn.mono (by decide)) (C_program.mono (by decide)) (C_graphs_l.mono (by decide)) (C_graphs.mono (by decide)) ((ok_is_graph (k := 0) H_is_graph Gx).mono (by decide))
theorem walk {l : PySem.W.OpenLaw} {q : Program} {loose : List Str} {XP : (Str → Option Value) → Heap → Prop} {YP : World → Heap → Prop} {d : DefRec} {K : Params → PySem.W.Frag} (hn : l.most = some 63) (hdf : d.params.defaults = [])
    (hY : ∀ (w : World) (h : Heap), YP w h → (K w.params).In h)
    (F : ∀ (w : World) (mg : Str → Option Value) (fa : Addr) (h : Heap), (K w.params).In h → h.Ns mainGlobals mg → mg d.name = some (.ref fa) →
      ∃ fd : FuncData, (∀ (s : Shared) (u : Value), BindsTo s fd ⟨[u], []⟩ [("script", u)]) ∧ ∀ base : Heap, (K w.params).In base → base.Ns mainGlobals mg → FnOk l.prog w (K w.params) mg base (CX1 l.prog w) 40 fa fd ["script"] (lSp (K w.params) lawS)) :
    PySem.W.WalkO q loose XP YP l.row.toRowW d [] (fun f vs => PySem.call f vs) :=
  L2.walk_of (n := 63) (k := 40) (x := "script") (CX := fun w => CX1 l.prog w) (sp := fun w => lSp (K w.params) lawS) hn (by decide) hdf ⟨rfl, by decide, by decide⟩ hY F (fun _ _ a ns hl hO hS => law_sp hl hO hS) fun _ _ _ _ _ z => by
    obtain ⟨a, C, T, H', _, _, _, _, _, _, _, _, _, _, z⟩ := z
    exact z
end LW
open PySem PySem.W PyProof.Rows
set_option maxRecDepth 100000 in
set_option maxHeartbeats 0 in
theorem PySem.Challenge.cw_errandend_k08_graphs_holds : PySem.Challenge.rw_errandend_k08_graphs.Holds := by
  w_on; o_law; k_head; (case hw => w_witness2)
  k_fill
  refine LW.walk (l := PySem.Challenge.rw_errandend_k08_graphs) rfl rfl (fun w h Y => PySem.W.kIn_of Y) ?F
  case F =>
    intro w mg fa h KX G hmg
    refine' LW.all_mk KX G hmg ?a_parts ?l_parts ?c_parts ?k_parts ?a_graphs ?l_graphs ?c_graphs ?k_graphs ?a_placed_sends ?l_placed_sends ?c_placed_sends ?k_placed_sends ?a_placed_parts ?l_placed_parts ?c_placed_parts ?k_placed_parts ?a_path_parameter ?l_path_parameter ?c_path_parameter ?k_path_parameter ?a_told_row ?l_told_row ?c_told_row ?k_told_row ?a_told_number ?l_told_number ?c_told_number ?k_told_number ?a_cell_at ?l_cell_at ?c_cell_at ?k_cell_at ?a_names ?l_names ?c_names ?k_names ?a_next ?l_next ?c_next ?k_next ?a_saying ?l_saying ?c_saying ?k_saying ?a_drawn ?l_drawn ?c_drawn ?k_drawn ?a_path ?l_path ?c_path ?k_path ?a_arg ?l_arg ?c_arg ?k_arg ?a_send ?l_send ?c_send ?k_send ?a_body ?l_body ?c_body ?k_body ?a_program ?l_program ?c_program ?k_program ?a_is_graph ?l_is_graph ?c_is_graph ?k_is_graph ?a_prefixes ?l_prefixes ?c_prefixes ?k_prefixes ?a_told ?l_told ?c_told ?k_told ?a_graphs_in ?l_graphs_in ?c_graphs_in ?k_graphs_in ?a_graphs_l ?l_graphs_l ?c_graphs_l ?k_graphs_l ?a_law ?l_law ?c_law ?k_law ?z_len ?z_range ?z_isinstance ?z_str ?z_tuple ?z_list ?z_int ?z_bool ?z_reversed ?z_all ?z_any
    (case a_parts => k_is)
    (case l_parts => k_is)
    (case c_parts => k_is)
    (case k_parts => k_is)
    (case a_graphs => k_is)
    (case l_graphs => k_is)
    (case c_graphs => k_is)
    (case k_graphs => k_is)
    (case a_placed_sends => k_is)
    (case l_placed_sends => k_is)
    (case c_placed_sends => k_is)
    (case k_placed_sends => k_is)
    (case a_placed_parts => k_is)
    (case l_placed_parts => k_is)
    (case c_placed_parts => k_is)
    (case k_placed_parts => k_is)
    (case a_path_parameter => k_is)
    (case l_path_parameter => k_is)
    (case c_path_parameter => k_is)
    (case k_path_parameter => k_is)
    (case a_told_row => k_is)
    (case l_told_row => k_is)
    (case c_told_row => k_is)
    (case k_told_row => k_is)
    (case a_told_number => k_is)
    (case l_told_number => k_is)
    (case c_told_number => k_is)
    (case k_told_number => k_is)
    (case a_cell_at => k_is)
    (case l_cell_at => k_is)
    (case c_cell_at => k_is)
    (case k_cell_at => k_is)
    (case a_names => k_is)
    (case l_names => k_is)
    (case c_names => k_is)
    (case k_names => k_is)
    (case a_next => k_is)
    (case l_next => k_is)
    (case c_next => k_is)
    (case k_next => k_is)
    (case a_saying => k_is)
    (case l_saying => k_is)
    (case c_saying => k_is)
    (case k_saying => k_is)
    (case a_drawn => k_is)
    (case l_drawn => k_is)
    (case c_drawn => k_is)
    (case k_drawn => k_is)
    (case a_path => k_is)
    (case l_path => k_is)
    (case c_path => k_is)
    (case k_path => k_is)
    (case a_arg => k_is)
    (case l_arg => k_is)
    (case c_arg => k_is)
    (case k_arg => k_is)
    (case a_send => k_is)
    (case l_send => k_is)
    (case c_send => k_is)
    (case k_send => k_is)
    (case a_body => k_is)
    (case l_body => k_is)
    (case c_body => k_is)
    (case k_body => k_is)
    (case a_program => k_is)
    (case l_program => k_is)
    (case c_program => k_is)
    (case k_program => k_is)
    (case a_is_graph => k_is)
    (case l_is_graph => k_is)
    (case c_is_graph => k_is)
    (case k_is_graph => k_is)
    (case a_prefixes => k_is)
    (case l_prefixes => k_is)
    (case c_prefixes => k_is)
    (case k_prefixes => k_is)
    (case a_told => k_is)
    (case l_told => k_is)
    (case c_told => k_is)
    (case k_told => k_is)
    (case a_graphs_in => k_is)
    (case l_graphs_in => k_is)
    (case c_graphs_in => k_is)
    (case k_graphs_in => k_is)
    (case a_graphs_l => k_is)
    (case l_graphs_l => k_is)
    (case c_graphs_l => k_is)
    (case k_graphs_l => k_is)
    (case a_law => k_is)
    (case l_law => k_is)
    (case c_law => k_is)
    (case k_law => k_is)
    (case z_len => k_is)
    (case z_range => k_is)
    (case z_isinstance => k_is)
    (case z_str => k_is)
    (case z_tuple => k_is)
    (case z_list => k_is)
    (case z_int => k_is)
    (case z_bool => k_is)
    (case z_reversed => k_is)
    (case z_all => k_is)
    (case z_any => k_is)
#print axioms PySem.Challenge.cw_errandend_k08_graphs_holds
