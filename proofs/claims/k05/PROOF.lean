import PyProof.Rows.All
import Wide.All
import OpenK.AllK
import Wide.FinOn
import Lean
import PyProof.EqAt
import PyProof.EqKinds
import PyProof.TupleCall
import PySem.Challenge.RW_errandend_k05_lines
set_option Elab.async false
set_option linter.all false
set_option maxRecDepth 100000
local macro_rules | `(tactic| omega) => `(tactic| first | lia | omega +splitNatSub)
namespace L2
open PySem PySem.Spec PyProof.Rows
noncomputable abbrev Key := Sum Int Str
noncomputable def keyIs : Key → Value → Bool
  | .inl k, v => Value.isInt k v
  | .inr x, v => Value.isStrOf x v
noncomputable def keyH (w : World) : Key → Int
  | .inl k => hashInt k
  | .inr x => hashStr w x
theorem keyIs_shape : ∀ {k : Key} {v : Value}, keyIs k v = true → (∃ i t, k = Sum.inl i ∧ v = Value.int i t) ∨ (∃ x t, k = Sum.inr x ∧ v = Value.str x t)
  | .inl i, v, h => by
    obtain ⟨t, e⟩ := Value.isInt_shape (k := i) (v := v) h
    exact .inl ⟨i, t, rfl, e⟩
  | .inr x, v, h => by
    obtain ⟨t, e⟩ := Value.isStrOf_shape (x := x) (v := v) h
    exact .inr ⟨x, t, rfl, e⟩
theorem keyIs_int (i : Int) (t : Tok) : keyIs (.inl i) (.int i t) = true := by simp [keyIs, Value.isInt]
theorem keyIs_str (x : Str) (t : Tok) : keyIs (.inr x) (.str x t) = true := by simp [keyIs, Value.isStrOf]
theorem key_ll (a b : Int) : decide ((Sum.inl a : Key) = Sum.inl b) = (a == b) := by
  by_cases e : a = b
  · subst e; simp
  · have h : ¬ (Sum.inl a : Key) = Sum.inl b := fun q => e (Sum.inl.inj q)
    rw [decide_eq_false h]
    exact (beq_eq_false_iff_ne.mpr e).symm
theorem key_rr (a b : Str) : decide ((Sum.inr a : Key) = Sum.inr b) = decide (a = b) := by
  by_cases e : a = b
  · subst e; simp
  · have h : ¬ (Sum.inr a : Key) = Sum.inr b := fun q => e (Sum.inr.inj q)
    rw [decide_eq_false h, decide_eq_false e]
theorem key_lr (a : Int) (b : Str) : decide ((Sum.inl a : Key) = Sum.inr b) = false := decide_eq_false (fun q => nomatch q)
theorem key_rl (a : Str) (b : Int) : decide ((Sum.inr a : Key) = Sum.inl b) = false := decide_eq_false (fun q => nomatch q)
noncomputable def mixKind (prog : Program) (w : World) : PySem.KeyKind prog w Key where
  is := keyIs
  hash := keyH w
  inj := fun v a b ha hb => by
    rcases keyIs_shape ha with ⟨i, t, rfl, rfl⟩ | ⟨x, t, rfl, rfl⟩
    · rcases keyIs_shape hb with ⟨j, u, rfl, e⟩ | ⟨y, u, rfl, e⟩
      · injection e with e1 _; rw [e1]
      · exact nomatch e
    · rcases keyIs_shape hb with ⟨j, u, rfl, e⟩ | ⟨y, u, rfl, e⟩
      · exact nomatch e
      · injection e with e1 _; rw [e1]
  byValue := fun k v h => by
    rcases keyIs_shape h with ⟨i, t, rfl, rfl⟩ | ⟨x, t, rfl, rfl⟩ <;> rfl
  pyHash := fun hv h => by
    rcases keyIs_shape hv with ⟨i, t, rfl, rfl⟩ | ⟨x, t, rfl, rfl⟩
    · exact wpAny_pyHash_int h
    · exact wpAny_pyHash_str h
  eqBool := fun hu hv h => by
    rcases keyIs_shape hu with ⟨i, t, rfl, rfl⟩ | ⟨x, t, rfl, rfl⟩
    · rcases keyIs_shape hv with ⟨j, u, rfl, rfl⟩ | ⟨y, u, rfl, rfl⟩
      · rw [key_ll] at h; exact wpAny_eqBool_int h
      · rw [key_lr] at h; exact SeqAt.EqAt.int_str i t y u _ _ _ _ h
    · rcases keyIs_shape hv with ⟨j, u, rfl, rfl⟩ | ⟨y, u, rfl, rfl⟩
      · rw [key_rl] at h; exact SeqAt.EqAt.str_int x t j u _ _ _ _ h
      · rw [key_rr] at h; exact wpAny_eqBool_str h
  «strs» := fun k x t v h => by
    rcases keyIs_shape h with ⟨i, u, rfl, e⟩ | ⟨y, u, rfl, e⟩
    · exact nomatch e
    · injection e with e1 _
      subst e1
      cases v <;> rfl
theorem mixKind_int (prog : Program) (w : World) (i : Int) (t : Tok) : (mixKind prog w).is (.inl i) (.int i t) = true := keyIs_int i t
theorem mixKind_str (prog : Program) (w : World) (x : Str) (t : Tok) : (mixKind prog w).is (.inr x) (.str x t) = true := keyIs_str x t
end L2
namespace L2
open PySem PySem.Spec PyProof.Rows
inductive V where
  | non | bl (b : Bool) | int (i : Int) | str (x : Str) | byt (b : Array UInt8) | flt (b : UInt64) | ref (a : Addr) | ty (n : String)
  deriving DecidableEq
def RelV : V → Value → Prop
  | .non, u => u = Value.none
  | .bl b, u => u = Value.bool b
  | .int i, u => ∃ t, u = Value.int i t
  | .str x, u => ∃ t, u = Value.str x t
  | .byt b, u => ∃ t, u = Value.bytes b t
  | .flt b, u => ∃ t, u = Value.float b t
  | .ref a, u => u = Value.ref a
  | .ty n, u => u = Value.type n
abbrev Vals : List V → List Value → Prop := Paired RelV
theorem Vals.length {xs : List V} {us : List Value} (r : Vals xs us) : xs.length = us.length := Paired.length r
theorem Vals.get : ∀ {xs : List V} {us : List Value} {i : Nat} {x : V}, Vals xs us → xs[i]? = some x → ∃ u, us[i]? = some u ∧ RelV x u
  | _, _, _, _, .nil, e => by simp at e
  | _, _, 0, _, .cons r _, e => by simp at e; subst e; exact ⟨_, rfl, r⟩
  | _, _, i + 1, x, .cons _ t, e => by
    obtain ⟨u, h1, h2⟩ := Vals.get (i := i) (x := x) t (by simpa using e)
    exact ⟨u, by simpa using h1, h2⟩
theorem Vals.set {x : V} {u : Value} (r : RelV x u) : ∀ {xs : List V} {us : List Value} (i : Nat), Vals xs us → Vals (xs.set i x) (us.set i u)
  | _, _, _, .nil => .nil
  | _, _, 0, .cons _ t => .cons r t
  | _, _, i + 1, .cons q t => .cons q (Vals.set r i t)
theorem Vals.append : ∀ {xs ys : List V} {us ws : List Value}, Vals xs us → Vals ys ws → Vals (xs ++ ys) (us ++ ws)
  | _, _, _, _, .nil, s => s
  | _, _, _, _, .cons r t, s => .cons r (Vals.append t s)
theorem Vals.take : ∀ {xs : List V} {us : List Value} (n : Nat), Vals xs us → Vals (xs.take n) (us.take n)
  | _, _, 0, _ => .nil
  | _, _, _ + 1, .nil => .nil
  | _, _, n + 1, .cons r t => .cons r (Vals.take n t)
theorem Vals.drop : ∀ {xs : List V} {us : List Value} (n : Nat), Vals xs us → Vals (xs.drop n) (us.drop n)
  | _, _, 0, r => r
  | _, _, _ + 1, .nil => .nil
  | _, _, n + 1, .cons _ t => Vals.drop n t
def RelO : Option V → Option Value → Prop
  | some v, some u => RelV v u
  | none, none => True
  | _, _ => False
def KV {κ : Type} : List (κ × V) → List (κ × Value) → Prop := Paired fun (p : κ × V) (q : κ × Value) => p.1 = q.1 ∧ RelV p.2 q.2
noncomputable def kV : Key → V
  | .inl i => .int i
  | .inr x => .str x
inductive HO where
  | lst (xs : List V)
  | tup (xs : List V)
  | dK (kvs : List (Key × V)) | dT (kvs : List (List Key × V))
  | set (S : Int → Bool) (n : Nat)
  | ins (C dx : Addr) (fs : List (Str × V))
  | own (x : Addr)
  | xd (fs : List (Str × V))
  | met (f x : Addr)
  | rng (lo hi : Int)
  | frz (o : Obj) (u : HO)
  | tbl (ps : Array Value)
  | ext (φ : Heap → Prop)
noncomputable abbrev Hp := Addr → Option HO
noncomputable def upd (H : Hp) (a : Addr) (o : HO) : Hp := fun b => if b = a then some o else H b
theorem upd_same {H : Hp} {a : Addr} {o : HO} : upd H a o a = some o := by unfold upd; rw [if_pos rfl]
theorem upd_ne {H : Hp} {a b : Addr} {o : HO} (h : b ≠ a) : upd H a o b = H b := by unfold upd; rw [if_neg h]
theorem ne_of_none {H : Hp} {a b : Addr} {o : HO} (h : H a = some o) (h' : H b = none) : a ≠ b := by
  intro e; subst e; rw [h] at h'; cases h'
section
variable (P : Program) (w : World)
def ObjOk (H : Hp) (h : Heap) (a : Addr) : HO → Prop
  | .lst xs => xs.length ≤ sizeLine ∧ ∃ (its : List Value) (n : Nat), Vals xs its ∧ h.get? a = some { cls := .type "list", data := .seq its.toArray n }
  | .tup xs => xs.length ≤ sizeLine ∧ ∃ its : List Value, Vals xs its ∧ IsTup h a its.toArray ∧ ∀ o, h.get? a = some o → o.dict = none
  | .dK kvs => kvs.length ≤ sizeLine ∧ (a == sysModules) = false ∧ ∃ vs, KV kvs vs ∧ h.DictOf (mixKind P w) a vs
  | .dT kvs => kvs.length ≤ sizeLine ∧ (a == sysModules) = false ∧ ∃ xs : List (List Key × Addr × Value),
      Paired (fun (p : List Key × V) (q : List Key × Addr × Value) => p.1 = q.1 ∧ H q.2.1 = some (.tup (p.1.map kV)) ∧ RelV p.2 q.2.2) kvs xs ∧
      ∃ o es ep, h.get? a = some o ∧ o.ExactDict ∧ o.data = .dict es ep ∧ es.toList = xs.map (entryOfKey (tupleKind (mixKind P w))) ∧ (xs.map (·.1)).Nodup
  | .set S n => h.SetOf (intKind P w) a S n
  | .ins C dx fs => H dx = some (.own a) ∧ fs.length ≤ 1000 ∧ dx ≠ a ∧ h.get? a = some (PySem.W.instObj C dx) ∧
      ∃ mA, h.Ns1 dx mA ∧ (∀ f, RelO (fs.lookup f) (mA f)) ∧ PySem.Within mA (fs.map (·.1))
  | .own _ => ∃ o, h.get? a = some o
  | .xd fs => ∃ mA, h.Ns1 a mA ∧ ∀ f, RelO (fs.lookup f) (mA f)
  | .rng lo hi => ∃ t u v, h.get? a = some { cls := .type "range", data := .fields #[.int lo t, .int hi u, .int 1 v] }
  | .frz o u => h.get? a = some o ∧ ObjOk H h a u
  | .tbl ps => h.get? a = some { cls := .none, data := .fields ps }
  | .met f x => h.get? a = some (PySem.W.methodObj (.ref f) (.ref x))
  | .ext φ => φ h ∧ (∃ o, h.get? a = some o) ∧ ∀ h1 h2 : Heap, φ h1 → (∀ o, h1.get? a = some o → h2.get? a = some o) → φ h2
def HOk (H : Hp) (h : Heap) : Prop := ∀ a o, H a = some o → ObjOk P w H h a o
end
section
variable {P : Program} {w : World} {H H' : Hp} {h h' : Heap} {a : Addr} {o : HO}
theorem ObjOk.lt (x : ObjOk P w H h a o) : a < h.objs.size := by
  cases o with
  | lst xs => obtain ⟨_, _, _, _, e⟩ := x; exact Heap.lt_size e
  | tup xs => obtain ⟨_, _, _, p, _⟩ := x; exact p.lt
  | dK kvs => obtain ⟨_, _, _, _, o, _, _, e, _⟩ := x; exact Heap.lt_size e
  | dT kvs => obtain ⟨_, _, _, _, o, _, _, e, _⟩ := x; exact Heap.lt_size e
  | set S n => obtain ⟨o, _, _, _, e, _⟩ := x; exact Heap.lt_size e
  | ins C dx fs => obtain ⟨_, _, _, e, _⟩ := x; exact Heap.lt_size e
  | own y => obtain ⟨_, e⟩ := x; exact Heap.lt_size e
  | xd fs => obtain ⟨_, ⟨_, _, _, e, _⟩, _⟩ := x; exact Heap.lt_size e
  | rng lo hi => obtain ⟨_, _, _, e⟩ := x; exact Heap.lt_size e
  | frz ob u => obtain ⟨e, _⟩ := x; exact Heap.lt_size e
  | tbl ps => exact Heap.lt_size (show h.get? a = some _ from x)
  | met f y => exact Heap.lt_size (show h.get? a = some _ from x)
  | ext φ => obtain ⟨_, ⟨_, e⟩, _⟩ := x; exact Heap.lt_size e
theorem Paired.mapP {α β : Type} {F G : α → β → Prop} : ∀ {l₁ : List α} {l₂ : List β}, Paired F l₁ l₂ → (∀ a b, F a b → G a b) → Paired G l₁ l₂
  | _, _, .nil, _ => .nil
  | _, _, .cons r t, f => .cons (f _ _ r) (Paired.mapP t f)
theorem ObjOk.stay (x : ObjOk P w H h a o) (k : ∀ b u, (b = a ∨ H b = some (.own a)) → h.get? b = some u → h'.get? b = some u)
    (ho : ∀ b, H b = some (.own a) → H' b = some (.own a)) (ht : ∀ b xs, H b = some (.tup xs) → H' b = some (.tup xs)) : ObjOk P w H' h' a o := by
  induction o with
  | lst xs => obtain ⟨z, its, n, r, e⟩ := x; exact ⟨z, its, n, r, k _ _ (.inl rfl) e⟩
  | tup xs => obtain ⟨z, its, r, ⟨ob, e, c⟩, nd⟩ := x; exact ⟨z, its, r, ⟨ob, k _ _ (.inl rfl) e, c⟩, fun o q => by rw [k _ _ (.inl rfl) e] at q; cases q; exact nd _ e⟩
  | dK kvs => obtain ⟨z, y, vs, r, ob, es, ep, e, c⟩ := x; exact ⟨z, y, vs, r, ob, es, ep, k _ _ (.inl rfl) e, c⟩
  | dT kvs =>
    obtain ⟨z, y, xs, r, ob, es, ep, e, c⟩ := x
    exact ⟨z, y, xs, Paired.mapP r fun p q z => ⟨z.1, ht _ _ z.2.1, z.2.2⟩, ob, es, ep, k _ _ (.inl rfl) e, c⟩
  | set S n => obtain ⟨ob, es, ep, t, e, c⟩ := x; exact ⟨ob, es, ep, t, k _ _ (.inl rfl) e, c⟩
  | ins C dx fs =>
    obtain ⟨d, z, ne, e, mA, ⟨od, es, ep, e2, c⟩, r⟩ := x
    exact ⟨ho _ d, z, ne, k _ _ (.inl rfl) e, mA, ⟨od, es, ep, k _ _ (.inr d) e2, c⟩, r⟩
  | own y => obtain ⟨ob, e⟩ := x; exact ⟨ob, k _ _ (.inl rfl) e⟩
  | xd fs => obtain ⟨mA, ⟨od, es, ep, e, c⟩, r⟩ := x; exact ⟨mA, ⟨od, es, ep, k _ _ (.inl rfl) e, c⟩, r⟩
  | rng lo hi => obtain ⟨t, u, v, e⟩ := x; exact ⟨t, u, v, k _ _ (.inl rfl) e⟩
  | frz ob u ih => obtain ⟨e, q⟩ := x; exact ⟨k _ _ (.inl rfl) e, ih q⟩
  | tbl ps =>
    have e : h.get? a = some { cls := .none, data := .fields ps } := x
    show h'.get? a = some { cls := .none, data := .fields ps }
    exact k a _ (.inl rfl) e
  | met f y =>
    have e : h.get? a = some (PySem.W.methodObj (.ref f) (.ref y)) := x
    show h'.get? a = some (PySem.W.methodObj (.ref f) (.ref y))
    exact k a _ (.inl rfl) e
  | ext φ => obtain ⟨p, ⟨o, e⟩, st⟩ := x; exact ⟨st _ _ p fun o q => k _ _ (.inl rfl) q, ⟨o, k _ _ (.inl rfl) e⟩, st⟩
theorem HOk.lt (x : HOk P w H h) (e : H a = some o) : a < h.objs.size := (x a o e).lt
theorem HOk.fresh (x : HOk P w H h) (e : h.objs.size ≤ a) : H a = none := by
  cases q : H a with
  | none => rfl
  | some u => exact absurd (Nat.lt_of_lt_of_le (x.lt q) e) (Nat.lt_irrefl _)
theorem HOk.kept (x : HOk P w H h) (k : ∀ b u, h.get? b = some u → h'.get? b = some u) : HOk P w H h' := fun a o e =>
  (x a o e).stay (fun b u _ q => k b u q) (fun _ q => q) fun _ _ q => q
theorem HOk.laid (x : HOk P w H h) (k : ∀ b u, h.get? b = some u → h'.get? b = some u) (hp : h.objs.size ≤ a) (new : ObjOk P w (upd H a o) h' a o) : HOk P w (upd H a o) h' := fun b u e => by
  have hn := x.fresh hp
  by_cases hb : b = a
  · subst hb; rw [upd_same] at e; cases e; exact new
  · rw [upd_ne hb] at e
    exact (x b u e).stay (fun c v _ q => k c v q) (fun c q => by rw [upd_ne (ne_of_none q hn)]; exact q) fun c xs q => by rw [upd_ne (ne_of_none q hn)]; exact q
end
def Rd (H : Hp) (a : Addr) (u : HO) : Prop := H a = some u ∨ ∃ o, H a = some (.frz o u)
theorem Rd.ok {P : Program} {w : World} {H : Hp} {h : Heap} {a : Addr} {u : HO} (r : Rd H a u) (x : HOk P w H h) : ObjOk P w H h a u := by
  rcases r with r | ⟨o, r⟩
  · exact x a u r
  · obtain ⟨_, q⟩ := x a _ r
    exact q
def Mut : Option HO → Prop
  | some (.lst _) => True
  | some (.dK _) => True
  | some (.dT _) => True
  | some (.set _ _) => True
  | some (.ins _ _ _) => True
  | some (.ext _) => True
  | _ => False
section
variable {P : Program} {w : World} {H : Hp} {h h' : Heap} {x e : Addr} {o' : HO}
theorem HOk.write (ok : HOk P w H h) (mu : Mut (H x)) (he : e = x ∨ H e = some (.own x)) (k : ∀ b u, b ≠ e → h.get? b = some u → h'.get? b = some u) (heo : ∃ u, h'.get? e = some u)
    (new : ObjOk P w (upd H x o') h' x o') : HOk P w (upd H x o') h' := fun b u q => by
  have nown : ∀ c y, H c = some (.own y) → c ≠ x := fun c y r z => by subst z; rw [r] at mu; exact mu
  have ntup : ∀ c xs, H c = some (.tup xs) → c ≠ x := fun c xs r z => by subst z; rw [r] at mu; exact mu
  by_cases hb : b = x
  · subst hb; rw [upd_same] at q; cases q; exact new
  · rw [upd_ne hb] at q
    by_cases hbe : b = e
    · have q' : H b = some (.own x) := by
        rcases he with z | z
        · exact absurd (hbe.trans z) hb
        · rw [hbe]; exact z
      rw [q] at q'; cases q'
      obtain ⟨v, hv⟩ := heo
      exact ⟨v, by rw [hbe]; exact hv⟩
    · refine (ok b u q).stay (fun c v hc r => k c v ?_ r) (fun c r => by rw [upd_ne (nown c b r)]; exact r) fun c xs r => by rw [upd_ne (ntup c xs r)]; exact r
      rcases hc with rfl | hc
      · exact hbe
      · rintro rfl
        rcases he with z | z
        · exact nown c b hc z
        · rw [hc] at z; cases z; exact hb rfl
end
structure Un (fs ex : List Addr) (H H' : Hp) (h h' : Heap) : Prop where
  keep : ∀ b o, h.get? b = some o → H b = none → b ∉ fs → b ∉ ex → h'.get? b = some o
  slot : ∀ b o, h.get? b = some o → H b = none → b ∈ fs → b ∉ ex → ∃ sl, h'.get? b = some { o with slots := sl }
  free : ∀ b o, h.get? b = some o → H b = none → b ∉ ex → H' b = none
  there : ∀ b o, h.get? b = some o → b ∉ ex → ∃ o', h'.get? b = some o'
  tups : ∀ b xs, H b = some (.tup xs) → H' b = some (.tup xs)
  frzs : ∀ b o u, H b = some (.frz o u) → H' b = some (.frz o u)
  tbls : ∀ b ps, H b = some (.tbl ps) → ∃ more, H' b = some (.tbl (ps ++ more))
section
variable {fs fs' ex ex' : List Addr} {H H1 H2 : Hp} {h h1 h2 h' : Heap} {a x e : Addr} {o : HO}
theorem Un.any (u : Un fs ex H H1 h h1) {b : Addr} {ob : Obj} (q : h.get? b = some ob) (n : H b = none) (hx : b ∉ ex) : ∃ sl, h1.get? b = some { ob with slots := sl } := by
  by_cases hb : b ∈ fs
  · exact u.slot b ob q n hb hx
  · exact ⟨ob.slots, u.keep b ob q n hb hx⟩
theorem Un.kept (k : ∀ b u, h.get? b = some u → h'.get? b = some u) : Un fs ex H H h h' :=
  ⟨fun b ob q _ _ _ => k b ob q, fun b ob q _ _ _ => ⟨ob.slots, k b ob q⟩, fun _ _ _ n _ => n, fun b ob q _ => ⟨ob, k b ob q⟩, fun _ _ q => q, fun _ _ _ q => q, fun _ ps q => ⟨#[], by rw [q]; simp⟩⟩
theorem Un.refl : Un fs ex H H h h := Un.kept fun _ _ q => q
theorem Un.laid (k : ∀ b u, h.get? b = some u → h'.get? b = some u) (hp : h.objs.size ≤ a) (hn : H a = none) : Un fs ex H (upd H a o) h h' where
  keep := fun b u q _ _ _ => k b u q
  slot := fun b u q _ _ _ => ⟨u.slots, k b u q⟩
  free := fun b u q n _ => by rw [upd_ne (Nat.ne_of_lt (Nat.lt_of_lt_of_le (Heap.lt_size q) hp))]; exact n
  there := fun b u q _ => ⟨u, k b u q⟩
  tups := fun b xs q => by rw [upd_ne (ne_of_none q hn)]; exact q
  frzs := fun b u xs q => by rw [upd_ne (ne_of_none q hn)]; exact q
  tbls := fun b ps q => ⟨#[], by rw [upd_ne (ne_of_none q hn), q]; simp⟩
theorem Un.write (mu : Mut (H x)) (he : e = x ∨ H e = some (.own x)) (k : ∀ b u, b ≠ e → h.get? b = some u → h'.get? b = some u) (heo : ∃ u, h'.get? e = some u) : Un fs ex H (upd H x o) h h' := by
  have hx : ∀ b, H b = none → b ≠ x := fun b n z => by subst z; rw [n] at mu; exact mu
  have hb : ∀ b, H b = none → b ≠ e := fun b n z => by
    subst z
    rcases he with r | r
    · exact hx b n r
    · rw [n] at r; cases r
  have hm : ∀ b u, H b = some u → ¬ Mut (some u) → b ≠ x := fun b u q nm z => by subst z; rw [q] at mu; exact nm mu
  refine ⟨fun b u q n _ _ => k b u (hb b n) q, fun b u q n _ _ => ⟨u.slots, k b u (hb b n) q⟩, fun b u q n _ => by rw [upd_ne (hx b n)]; exact n, fun b u q _ => ?_,
    fun b xs q => by rw [upd_ne (hm b _ q fun z => z)]; exact q, fun b u xs q => by rw [upd_ne (hm b _ q fun z => z)]; exact q, fun b ps q => ⟨#[], by rw [upd_ne (hm b _ q fun z => z), q]; simp⟩⟩
  by_cases hbe : b = e
  · subst hbe; exact heo
  · exact ⟨u, k b u hbe q⟩
end
noncomputable def trk (h : Heap) (H : Hp) : List Addr := (List.range h.objs.size).filter fun a => (H a).isSome
noncomputable def hidT (h : Heap) (H : Hp) : Heap := PySem.W.hideAll h (trk h H)
theorem hidT_size (h : Heap) (H : Hp) : (hidT h H).objs.size = h.objs.size := PySem.W.hideAll_size _ _
theorem hidT_get {h : Heap} {H : Hp} {b : Addr} {o : Obj} (e : h.get? b = some o) (n : H b = none) : (hidT h H).get? b = some o :=
  PySem.W.hideAll_get _ e fun hm => by
    have q : (H b).isSome = true := (List.mem_filter.mp hm).2
    rw [n] at q; simp at q
theorem of_hidT {h : Heap} {H : Hp} {b : Addr} {o : Obj} (e : (hidT h H).get? b = some o) : h.get? b = some o ∧ H b = none := by
  have e' : h.get? b = some o := PySem.W.of_hideAll (trk h H) e
  refine ⟨e', ?_⟩
  cases q : H b with
  | none => rfl
  | some x =>
    have hm : b ∈ trk h H := List.mem_filter.mpr ⟨List.mem_range.mpr (Heap.lt_size e'), by simp [q]⟩
    have z : (hidT h H).get? b = none := PySem.W.hideAll_none (trk h H) hm
    rw [z] at e; cases e
noncomputable def allNews (g h : Heap) (L : Addr) : List (Addr × Obj) := (List.range h.objs.size).filterMap fun a => if a = L ∨ (g.get? a).isSome = true then none else (h.get? a).map fun o => (a, o)
noncomputable def rest (g h : Heap) (L d : Addr) : List (Addr × Obj) := (allNews g h L).filter fun p => decide (p.1 ≠ d)
end L2
namespace L2
open PySem PySem.Spec PyProof.Rows
structure Mod (K : PySem.W.Frag) (mg : Str → Option Value) (base : Heap) : Prop where
  kin : K.In base
  glob : base.Ns mainGlobals mg
  blt : ∃ mb, base.Ns builtinsNs mb ∧ ∀ x : Str, x ≠ "__name__" → mb x = bootBuiltins x
  nolimit : base.NoLimit
structure Cx where
  prog : Program
  w : World
  K : PySem.W.Frag
  mg : Str → Option Value
  base : Heap
  A : Around
  N : List Str
  s₀ : Shared
  H₀ : Hp
  env : Env
  outer : List Env
  stack : List Env
  ex : List Addr
  fn : Str → Bool
  calm : Bool
  pn : List (Addr × Obj)
  xe : Value → Shared → Prop
noncomputable def frs (l : List Env) : List Addr := l.filterMap (·.frame)
noncomputable abbrev Cx.fs (X : Cx) : List Addr := frs X.outer
def Vis (sc : Scope) (x : Str) : Prop := sc.names.lookup x = some .local ∨ sc.names.lookup x = some .cell ∨ sc.names.lookup x = some .free
def Loc (sc : Scope) (x : Str) : Prop := sc.names.lookup x = some .local ∨ sc.names.lookup x = some .cell
def Look (env : Env) (h : Heap) (m : Str → Option Value) (x : Str) (u : Value) : Prop :=
  (env.kindOf x = some .local ∧ m x = some u) ∨ ((env.kindOf x = some .cell ∨ env.kindOf x = some .free) ∧ ∃ c, env.cells.lookup x = some c ∧ h.IsCell c (some u))
structure Cx.Ok (X : Cx) : Prop where
  mod : Mod X.K X.mg X.base
  kind : X.env.scope.kind = .function
  glob : X.env.globals = mainGlobals
  blt : X.env.builtins = builtinsNs
  above : X.s₀.heap.objs.size ≤ X.env.locals
  inj : ∀ x y c, X.env.cells.lookup x = some c → X.env.cells.lookup y = some c → x = y
  has : ∀ x, (X.env.kindOf x = some .cell ∨ X.env.kindOf x = some .free) → ∃ c, X.env.cells.lookup x = some c
  cab : ∀ x c, X.fn x = true → X.env.cells.lookup x = some c → X.s₀.heap.objs.size ≤ c
  hd : X.calm = true → X.A.handled = none
  frames : X.A.frames = some X.stack
  stk : X.stack = X.outer ∨ (X.stack = X.env :: X.outer ∧ X.env.frame = some X.env.locals)
  exf : ∀ b ∈ X.ex, b ≠ X.env.locals ∧ ∀ x c, X.env.cells.lookup x = some c → c ≠ b
  bs : ∀ b o, X.base.get? b = some o → X.s₀.heap.get? b = some o ∧ X.H₀ b = none
  bsz : X.base.objs.size ≤ X.s₀.heap.objs.size
  noex : ∀ b o, X.base.get? b = some o → b ∉ X.ex
  exfs : ∀ b ∈ X.ex, b ∉ X.fs
  funs : X.s₀.heap.FunFrames X.base X.outer
  frf : ∀ b ∈ X.fs, X.H₀ b = none
structure Inv (X : Cx) (pins : List (Addr × Obj)) (σ : List (Option V)) (H : Hp) (s : Shared) : Prop where
  ok : X.Ok
  os : s.os = X.s₀.os
  bare : AllBare s.gens
  base : Un X.fs X.ex X.H₀ H X.s₀.heap s.heap
  loc : ∃ m, s.heap.Ns X.env.locals m ∧ ∀ (i : Nat) (x : Str) (v : V), X.N[i]? = some x → σ[i]? = some (some v) → Vis X.env.scope x → ∃ u, RelV v u ∧ Look X.env s.heap m x u
  cell : ∀ x c, X.env.cells.lookup x = some c → ∃ v, s.heap.IsCell c v
  free : H X.env.locals = none
  freeC : ∀ x c, X.env.cells.lookup x = some c → H c = none
  pin : ∀ p ∈ X.pn ++ pins, s.heap.get? p.1 = some p.2 ∧ H p.1 = none ∧ p.1 ≠ X.env.locals ∧ p.1 ∉ X.fs ∧ ∀ v, p.2.data ≠ .cell v
  hok : HOk X.prog X.w H s.heap
  len : σ.length = X.N.length
section
variable {X : Cx} {pins : List (Addr × Obj)} {σ : List (Option V)} {H H' : Hp} {s : Shared} {h' : Heap}
theorem Cx.Ok.nofr (ok : X.Ok) {b : Addr} {o : Obj} (e : X.base.get? b = some o) : b ∉ X.fs := fun hb => by
  have := (ok.funs.mem hb).1
  rw [e] at this; cases this
theorem Inv.bs (I : Inv X pins σ H s) : ∀ b o, X.base.get? b = some o → s.heap.get? b = some o ∧ H b = none := fun b o e =>
  ⟨I.base.keep b o (I.ok.bs b o e).1 (I.ok.bs b o e).2 (I.ok.nofr e) (I.ok.noex b o e), I.base.free b o (I.ok.bs b o e).1 (I.ok.bs b o e).2 (I.ok.noex b o e)⟩
theorem Inv.bk (I : Inv X pins σ H s) : ∀ b o, X.base.get? b = some o → s.heap.get? b = some o := fun b o e => (I.bs b o e).1
theorem Inv.mod (I : Inv X pins σ H s) : Mod X.K X.mg X.base := I.ok.mod
theorem Inv.kIn (I : Inv X pins σ H s) : X.K.In s.heap := I.ok.mod.kin.keeps I.bk
theorem Inv.lt (I : Inv X pins σ H s) : X.env.locals < s.heap.objs.size := let ⟨_, hn, _⟩ := I.loc; hn.lt
theorem Inv.sz (I : Inv X pins σ H s) : X.s₀.heap.objs.size ≤ s.heap.objs.size := Nat.le_trans I.ok.above (Nat.le_of_lt I.lt)
theorem Inv.nofs (I : Inv X pins σ H s) {a : Addr} (h : s.heap.objs.size ≤ a) : a ∉ X.fs := fun hb => by
  obtain ⟨_, o, ho, _⟩ := I.ok.funs.mem hb
  exact absurd (Nat.lt_of_lt_of_le (Heap.lt_size ho) (Nat.le_trans I.sz h)) (Nat.lt_irrefl _)
theorem Inv.cne (I : Inv X pins σ H s) : ∀ x c, X.env.cells.lookup x = some c → c ≠ X.env.locals := fun x c e z => by
  obtain ⟨v, o, ho, hd⟩ := I.cell x c e
  obtain ⟨m, ⟨o', es, ep, ho', hd', _⟩, _⟩ := I.loc
  rw [z, ho'] at ho; cases ho; rw [hd'] at hd; cases hd
theorem Inv.funs (I : Inv X pins σ H s) : s.heap.FunFrames X.base X.outer := by
  have all : ∀ (l : List Env), (∀ b ∈ frs l, b ∈ X.fs) → X.s₀.heap.FunFrames X.base l → s.heap.FunFrames X.base l := by
    intro l
    induction l with
    | nil => intro _ _; trivial
    | cons env r ih =>
      intro hs hl
      obtain ⟨hk, ⟨L, o, hf, hn, ho, hd⟩, hr⟩ := hl
      have hL : L ∈ X.fs := hs L (by unfold frs; rw [List.filterMap_cons, hf]; exact List.mem_cons_self)
      obtain ⟨sl, e⟩ := I.base.slot L o ho (I.ok.frf L hL) hL fun z => I.ok.exfs L z hL
      exact ⟨hk, ⟨L, _, hf, hn, e, hd⟩, ih (fun b hb => hs b (by unfold frs; rw [List.filterMap_cons, hf]; exact List.mem_cons_of_mem _ hb)) hr⟩
  exact all X.outer (fun _ hb => hb) I.ok.funs
theorem Inv.stack (I : Inv X pins σ H s) : s.heap.FunFrames X.base X.stack := by
  rcases I.ok.stk with e | ⟨e, hf⟩
  · rw [e]; exact I.funs
  · rw [e]
    obtain ⟨m, hn, _⟩ := I.loc
    refine .cons (by rw [I.ok.kind]; decide) hf hn ?_ I.funs
    exact Heap.get?_none_of_le (Nat.le_trans I.ok.bsz I.ok.above)
theorem Inv.stkSub (I : Inv X pins σ H s) : ∀ b ∈ frs X.stack, b ∈ X.env.locals :: X.fs := fun b hb => by
  rcases I.ok.stk with e | ⟨e, hf⟩
  · rw [e] at hb; exact List.mem_cons_of_mem _ hb
  · rw [e] at hb
    unfold frs at hb
    rw [List.filterMap_cons, hf] at hb
    exact hb
theorem Inv.stkFree (I : Inv X pins σ H s) : ∀ b ∈ frs X.stack, H b = none := fun b hb => by
  rcases List.mem_cons.mp (I.stkSub b hb) with e | hb
  · rw [e]; exact I.free
  · obtain ⟨_, o, ho, _⟩ := I.ok.funs.mem hb
    exact I.base.free b o ho (I.ok.frf b hb) fun z => I.ok.exfs b z hb
theorem Inv.step {g' : Array GenState} {t' : Nat} {d' : Drawn} {ch : List Addr} (I : Inv X pins σ H s)
    (hch : ∀ b ∈ ch, (b ∈ X.ex ∨ X.s₀.heap.objs.size ≤ b) ∧ b ≠ X.env.locals ∧ (∀ x c, X.env.cells.lookup x = some c → c ≠ b) ∧ ∀ p ∈ X.pn ++ pins, p.1 ≠ b)
    (keep : ∀ b o, b ≠ X.env.locals → b ∉ X.fs → b ∉ ch → s.heap.get? b = some o → H b = none → h'.get? b = some o)
    (slot : ∀ b o, b ≠ X.env.locals → b ∈ X.fs → b ∉ ch → s.heap.get? b = some o → H b = none → ∃ sl, h'.get? b = some { o with slots := sl }) (free : ∀ b o, b ∉ ch → s.heap.get? b = some o → H b = none → H' b = none)
    (there : ∀ b o, b ∉ ch → s.heap.get? b = some o → ∃ o', h'.get? b = some o')
    (tups : ∀ b xs, H b = some (.tup xs) → H' b = some (.tup xs)) (frzs : ∀ b o u, H b = some (.frz o u) → H' b = some (.frz o u)) (tbls : ∀ b ps, H b = some (.tbl ps) → ∃ more, H' b = some (.tbl (ps ++ more)))
    (ns : ∀ m, s.heap.Ns X.env.locals m → h'.Ns X.env.locals m) (hok : HOk X.prog X.w H' h') (hg : AllBare g') :
    Inv X pins σ H' { s with heap := h', gens := g', drawn := d', toks := t' } := by
  have neL : ∀ b o, X.s₀.heap.get? b = some o → b ≠ X.env.locals := fun b o e => Nat.ne_of_lt (Nat.lt_of_lt_of_le (Heap.lt_size e) I.ok.above)
  have neC : ∀ b o, X.s₀.heap.get? b = some o → b ∉ X.ex → b ∉ ch := fun b o e hx hb => by
    rcases (hch b hb).1 with z | z
    · exact hx z
    · exact absurd (Nat.lt_of_lt_of_le (Heap.lt_size e) z) (Nat.lt_irrefl _)
  have cellK : ∀ x c, X.env.cells.lookup x = some c → ∀ v, s.heap.IsCell c v → h'.IsCell c v := fun x c e v z_1 => by
    obtain ⟨o, ho, hd⟩ := z_1
    have nch : c ∉ ch := fun z => (hch c z).2.2.1 x c e rfl
    by_cases hc : c ∈ X.fs
    · obtain ⟨sl, q⟩ := slot c o (I.cne x c e) hc nch ho (I.freeC x c e)
      exact ⟨_, q, hd⟩
    · exact ⟨o, keep c o (I.cne x c e) hc nch ho (I.freeC x c e), hd⟩
  refine ⟨I.ok, I.os, hg, ⟨fun b o e n hb hx => ?_, fun b o e n hb hx => ?_, fun b o e n hx => ?_, fun b o e hx => ?_, fun b xs e => tups b xs (I.base.tups b xs e), fun b o xs e => frzs b o xs (I.base.frzs b o xs e), fun b ps e => ?_⟩, ?_, fun x c e => ?_, ?_, fun x c e => ?_, fun p hp => ?_, hok, I.len⟩
  · exact keep b o (neL b o e) hb (neC b o e hx) (I.base.keep b o e n hb hx) (I.base.free b o e n hx)
  · obtain ⟨sl, e1⟩ := I.base.slot b o e n hb hx
    obtain ⟨sl', e2⟩ := slot b _ (neL b o e) hb (neC b o e hx) e1 (I.base.free b o e n hx)
    exact ⟨sl', e2⟩
  · obtain ⟨o', e1⟩ := I.base.there b o e hx
    exact free b o' (neC b o e hx) e1 (I.base.free b o e n hx)
  · obtain ⟨o', e1⟩ := I.base.there b o e hx
    exact there b o' (neC b o e hx) e1
  · obtain ⟨m1, e1⟩ := I.base.tbls b ps e
    obtain ⟨m2, e2⟩ := tbls b _ e1
    exact ⟨m1 ++ m2, by rw [e2, Array.append_assoc]⟩
  · obtain ⟨m, hn, hl⟩ := I.loc
    refine ⟨m, ns m hn, fun i x v e1 e2 e3 => ?_⟩
    obtain ⟨u, r, l⟩ := hl i x v e1 e2 e3
    refine ⟨u, r, ?_⟩
    rcases l with l | ⟨k, c, e, z⟩
    · exact .inl l
    · exact .inr ⟨k, c, e, cellK x c e _ z⟩
  · obtain ⟨v, z⟩ := I.cell x c e
    exact ⟨v, cellK x c e v z⟩
  · obtain ⟨m, ⟨o, _, _, ho, _⟩, _⟩ := I.loc
    exact free _ o (fun z => (hch _ z).2.1 rfl) ho I.free
  · obtain ⟨v, o, ho, hd⟩ := I.cell x c e
    exact free c o (fun z => (hch c z).2.2.1 x c e rfl) ho (I.freeC x c e)
  · obtain ⟨e, n, ne, nf, d⟩ := I.pin p hp
    have nch : p.1 ∉ ch := fun z => (hch p.1 z).2.2.2 p hp rfl
    exact ⟨keep p.1 p.2 ne nf nch e n, free p.1 p.2 nch e n, ne, nf, d⟩
theorem Inv.un {t' : Nat} (I : Inv X pins σ H s) (u : Un X.fs [] H H' s.heap h') (hok : HOk X.prog X.w H' h') : Inv X pins σ H' { s with heap := h', toks := t' } := by
  obtain ⟨m, ⟨o, es, ep, ho, r⟩, _⟩ := id I.loc
  obtain ⟨sl, hL⟩ := u.any ho I.free (by simp)
  exact I.step (g' := s.gens) (d' := s.drawn) (ch := []) (fun _ z => nomatch z) (fun b o _ hb _ e n => u.keep b o e n hb (by simp)) (fun b o _ hb _ e n => u.slot b o e n hb (by simp)) (fun b o _ e n => u.free b o e n (by simp)) (fun b o _ e => u.there b o e (by simp)) u.tups u.frzs u.tbls (fun m' hm => by
    obtain ⟨o', es', ep', ho', r'⟩ := hm
    rw [ho] at ho'; cases ho'
    exact ⟨_, es', ep', hL, r'⟩) hok I.bare
theorem Inv.call {g' : Array GenState} {t' : Nat} {d' : Drawn} {ch : List Addr} (I : Inv X pins σ H s) (u : Un (frs X.stack) ch H H' s.heap h') (hok : HOk X.prog X.w H' h') (hg : AllBare g')
    (hch : ∀ b ∈ ch, (b ∈ X.ex ∨ X.s₀.heap.objs.size ≤ b) ∧ b ≠ X.env.locals ∧ (∀ x c, X.env.cells.lookup x = some c → c ≠ b) ∧ ∀ p ∈ X.pn ++ pins, p.1 ≠ b) :
    Inv X pins σ H' { s with heap := h', gens := g', drawn := d', toks := t' } := by
  obtain ⟨m, ⟨o, es, ep, ho, r⟩, _⟩ := id I.loc
  obtain ⟨sl, hL⟩ := u.any ho I.free fun z => (hch _ z).2.1 rfl
  exact I.step (ch := ch) hch (fun b o hL hb hc e n => u.keep b o e n (fun z => (List.mem_cons.mp (I.stkSub b z)).elim hL hb) hc) (fun b o _ _ hc e n => u.any e n hc) (fun b o hc e n => u.free b o e n hc) (fun b o hc e => u.there b o e hc) u.tups u.frzs u.tbls (fun m' hm => by
    obtain ⟨o', es', ep', ho', r'⟩ := hm
    rw [ho] at ho'; cases ho'
    exact ⟨_, es', ep', hL, r'⟩) hok hg
theorem Inv.turned {t' : Nat} {it : Addr} (I : Inv X pins σ H s) (k : ∀ b o, b ≠ it → s.heap.get? b = some o → h'.get? b = some o) (hn : H it = none) (hL : it ≠ X.env.locals)
    (h1 : it ∈ X.ex ∨ X.s₀.heap.objs.size ≤ it) (h2 : ∀ x c, X.env.cells.lookup x = some c → c ≠ it) (h3 : ∀ p ∈ X.pn ++ pins, p.1 ≠ it) : Inv X pins σ H { s with heap := h', toks := t' } := by
  have nit : ∀ b u, H b = some u → b ≠ it := fun b u e z => by rw [z, hn] at e; cases e
  refine I.step (g' := s.gens) (d' := s.drawn) (ch := [it]) (fun b hb => ?_) (fun b o _ _ hc e _ => k b o (fun z => hc (by simp [z])) e) (fun b o _ _ hc e _ => ⟨o.slots, k b o (fun z => hc (by simp [z])) e⟩) (fun _ _ _ _ n => n)
    (fun b o hc e => ⟨o, k b o (fun z => hc (by simp [z])) e⟩) (fun _ _ e => e) (fun _ _ _ e => e) (fun b ps e => ⟨#[], by rw [e]; simp⟩) (fun m hm => ?_) (fun b u e => ?_) I.bare
  · have e : b = it := by simpa using hb
    subst e
    exact ⟨h1, hL, h2, h3⟩
  · obtain ⟨o, es, ep, ho, r⟩ := hm
    exact ⟨o, es, ep, k _ o (Ne.symm hL) ho, r⟩
  · refine (I.hok b u e).stay (fun c v hc q => k c v ?_ q) (fun _ q => q) fun _ _ q => q
    rcases hc with z | z
    · rw [z]; exact nit b u e
    · exact nit c _ z
theorem Inv.tok (I : Inv X pins σ H s) (t : Nat) : Inv X pins σ H { s with toks := t } := I.un (h' := s.heap) (t' := t) Un.refl I.hok
theorem Inv.kept {t' : Nat} (I : Inv X pins σ H s) (k : ∀ b u, s.heap.get? b = some u → h'.get? b = some u) : Inv X pins σ H { s with heap := h', toks := t' } := I.un (Un.kept k) (I.hok.kept k)
theorem Inv.laid {a : Addr} {o : HO} {t' : Nat} (I : Inv X pins σ H s) (k : ∀ b u, s.heap.get? b = some u → h'.get? b = some u) (hp : s.heap.objs.size ≤ a) (new : ObjOk X.prog X.w (upd H a o) h' a o) :
    Inv X pins σ (upd H a o) { s with heap := h', toks := t' } := I.un (Un.laid k hp (I.hok.fresh hp)) (I.hok.laid k hp new)
theorem Inv.write {x e : Addr} {o : HO} {t' : Nat} (I : Inv X pins σ H s) (mu : Mut (H x)) (he : e = x ∨ H e = some (.own x)) (k : ∀ b u, b ≠ e → s.heap.get? b = some u → h'.get? b = some u) (heo : ∃ u, h'.get? e = some u)
    (new : ObjOk X.prog X.w (upd H x o) h' x o) : Inv X pins σ (upd H x o) { s with heap := h', toks := t' } := I.un (Un.write mu he k heo) (I.hok.write mu he k heo new)
theorem Inv.pins_of {pins' : List (Addr × Obj)} (I : Inv X pins σ H s) (h : ∀ p ∈ pins', s.heap.get? p.1 = some p.2 ∧ H p.1 = none ∧ p.1 ≠ X.env.locals ∧ p.1 ∉ X.fs ∧ ∀ v, p.2.data ≠ .cell v) : Inv X pins' σ H s :=
  ⟨I.ok, I.os, I.bare, I.base, I.loc, I.cell, I.free, I.freeC, fun p hp => (List.mem_append.mp hp).elim (fun z => I.pin p (List.mem_append_left _ z)) (h p), I.hok, I.len⟩
theorem nodup_ix {N : List Str} (hN : N.Nodup) {i j : Nat} {x : Str} (a : N[i]? = some x) (b : N[j]? = some x) : i = j := by
  obtain ⟨h1, e1⟩ := List.getElem?_eq_some_iff.mp a
  obtain ⟨h2, e2⟩ := List.getElem?_eq_some_iff.mp b
  exact (List.getElem_inj hN).mp (e1.trans e2.symm)
theorem store_ok2 {M : Model} {A : Around} {E : Value → Shared → Prop} {i : Nat} {x : Str} {v : V} {u : Value} {Q : Unit → Shared → Prop} (I : Inv X pins σ H s) (hN : X.N.Nodup) (hi : X.N[i]? = some x) (hx : Loc X.env.scope x) (r : RelV v u)
    (h : ∀ s', Inv X pins (σ.set i (some v)) H s' → (∃ a, Heap.SameBut a s.heap s'.heap ∧ (a = X.env.locals ∨ X.env.cells.lookup x = some a)) → Q () s') (hf : X.fn x = true ∨ X.env.scope.names.lookup x = some .local := by first | exact .inl rfl | exact .inr rfl | assumption) : wpAny M A (storeName X.env x u) Q E s := by
  obtain ⟨m, hn, hl⟩ := id I.loc
  have hcls : (X.env.scope.kind == .class || (X.env.scope.kind == .module && X.env.locals != X.env.globals)) = false := by rw [I.ok.kind]; rfl
  have hiσ : i < σ.length := by rw [I.len]; exact (List.getElem?_eq_some_iff.mp hi).1
  have cne := I.cne
  have tracked : ∀ {a : Addr} {h' : Heap}, (∃ o, s.heap.get? a = some o ∧ H a = none) → Heap.SameBut a s.heap h' → HOk X.prog X.w H h' := fun {a h'} ha hs b ob e => by
    obtain ⟨_, _, hfree⟩ := ha
    refine (I.hok b ob e).stay (fun c w' hc q => (hs.2 c ?_).trans q) (fun _ q => q) fun _ _ q => q
    rintro rfl
    rcases hc with rfl | hc
    · rw [hfree] at e; cases e
    · rw [hfree] at hc; cases hc
  rcases hx with hk | hk
  · refine wpAny_storeName_local hk hn (fun h' hn' hs => ?_) hcls
    obtain ⟨oL, _, _, hoL, _⟩ := id hn
    refine h _ ⟨I.ok, I.os, I.bare, ⟨fun b o e n hb hx => ?_, fun b o e n hb hx => ?_, I.base.free, fun b o e hx => ?_, I.base.tups, I.base.frzs, I.base.tbls⟩, ⟨_, hn', fun j y v' e1 e2 e3 => ?_⟩, fun y c e => ?_, I.free, I.freeC, fun p hp => ?_, tracked ⟨oL, hoL, I.free⟩ hs, by simpa using I.len⟩ ⟨_, hs, .inl rfl⟩
    · exact (hs.2 b (Nat.ne_of_lt (Nat.lt_of_lt_of_le (Heap.lt_size e) I.ok.above))).trans (I.base.keep b o e n hb hx)
    · obtain ⟨sl, e1⟩ := I.base.slot b o e n hb hx
      exact ⟨sl, (hs.2 b (Nat.ne_of_lt (Nat.lt_of_lt_of_le (Heap.lt_size e) I.ok.above))).trans e1⟩
    · obtain ⟨o', e1⟩ := I.base.there b o e hx
      exact ⟨o', (hs.2 b (Nat.ne_of_lt (Nat.lt_of_lt_of_le (Heap.lt_size e) I.ok.above))).trans e1⟩
    · by_cases hj : j = i
      · subst hj
        rw [hi] at e1; cases e1
        rw [List.getElem?_set_self hiσ] at e2
        cases e2
        exact ⟨u, r, .inl ⟨hk, by simp⟩⟩
      · rw [List.getElem?_set_ne (Ne.symm hj)] at e2
        obtain ⟨u', r', q⟩ := hl j y v' e1 e2 e3
        refine ⟨u', r', ?_⟩
        rcases q with ⟨k, e⟩ | ⟨k, c, e, z⟩
        · refine .inl ⟨k, ?_⟩
          have : y ≠ x := fun e => hj (nodup_ix hN e1 (e ▸ hi))
          simp [this, e]
        · exact .inr ⟨k, c, e, z.sameBut hs (cne y c e)⟩
    · obtain ⟨w', z⟩ := I.cell y c e
      exact ⟨w', z.sameBut hs (cne y c e)⟩
    · obtain ⟨e, n, ne, nf, d⟩ := I.pin p hp
      exact ⟨(hs.2 p.1 ne).trans e, n, ne, nf, d⟩
  · have hfn : X.fn x = true := by
      rcases hf with z | z
      · exact z
      · rw [z] at hk; cases hk
    obtain ⟨c, hc⟩ := I.ok.has x (.inl hk)
    obtain ⟨w', z⟩ := I.cell x c hc
    refine wpAny_storeName_cell I.ok.kind hk hc z (fun h' hc' hs => ?_)
    obtain ⟨oc, hoc, hocd⟩ := id z
    refine h { s with heap := h' } ⟨I.ok, I.os, I.bare, ⟨fun b o e n hb hx => ?_, fun b o e n hb hx => ?_, I.base.free, fun b o e hx => ?_, I.base.tups, I.base.frzs, I.base.tbls⟩, ⟨m, hn.sameBut hs (Ne.symm (cne x c hc)), fun j y v' e1 e2 e3 => ?_⟩, fun y c' e => ?_, I.free, I.freeC, fun p hp => ?_, tracked ⟨oc, hoc, I.freeC x c hc⟩ hs, by simpa using I.len⟩ ⟨c, hs, .inr hc⟩
    · exact (hs.2 b (Nat.ne_of_lt (Nat.lt_of_lt_of_le (Heap.lt_size e) (I.ok.cab x c hfn hc)))).trans (I.base.keep b o e n hb hx)
    · obtain ⟨sl, e1⟩ := I.base.slot b o e n hb hx
      exact ⟨sl, (hs.2 b (Nat.ne_of_lt (Nat.lt_of_lt_of_le (Heap.lt_size e) (I.ok.cab x c hfn hc)))).trans e1⟩
    · obtain ⟨o', e1⟩ := I.base.there b o e hx
      exact ⟨o', (hs.2 b (Nat.ne_of_lt (Nat.lt_of_lt_of_le (Heap.lt_size e) (I.ok.cab x c hfn hc)))).trans e1⟩
    · by_cases hj : j = i
      · subst hj
        rw [hi] at e1; cases e1
        rw [List.getElem?_set_self hiσ] at e2
        cases e2
        exact ⟨u, r, .inr ⟨.inl hk, c, hc, hc'⟩⟩
      · rw [List.getElem?_set_ne (Ne.symm hj)] at e2
        obtain ⟨u', r', q⟩ := hl j y v' e1 e2 e3
        refine ⟨u', r', ?_⟩
        rcases q with q | ⟨k, c', e, z'⟩
        · exact .inl q
        · refine .inr ⟨k, c', e, z'.sameBut hs ?_⟩
          rintro rfl
          exact hj (nodup_ix hN e1 (I.ok.inj _ _ _ e hc ▸ hi))
    · by_cases hcc : c' = c
      · subst hcc; exact ⟨_, hc'⟩
      · obtain ⟨w2, z2⟩ := I.cell y c' e
        exact ⟨w2, z2.sameBut hs hcc⟩
    · obtain ⟨e, n, ne, nf, d⟩ := I.pin p hp
      refine ⟨(hs.2 p.1 ?_).trans e, n, ne, nf, d⟩
      intro q
      rw [q, hoc] at e
      have q' : oc = p.2 := Option.some.inj e
      exact d w' (by rw [← q']; exact hocd)
theorem store_ok {M : Model} {A : Around} {E : Value → Shared → Prop} {i : Nat} {x : Str} {v : V} {u : Value} {Q : Unit → Shared → Prop} (I : Inv X pins σ H s) (hN : X.N.Nodup) (hi : X.N[i]? = some x) (hx : Loc X.env.scope x) (r : RelV v u)
    (h : ∀ s', Inv X pins (σ.set i (some v)) H s' → Q () s') (hf : X.fn x = true ∨ X.env.scope.names.lookup x = some .local := by first | exact .inl rfl | exact .inr rfl | assumption) : wpAny M A (storeName X.env x u) Q E s :=
  store_ok2 I hN hi hx r (fun s' I' _ => h s' I') hf
theorem Inv.call' {s' : Shared} {ch : List Addr} (I : Inv X pins σ H s) (ho : s'.os = s.os) (u : Un (frs X.stack) ch H H' s.heap s'.heap) (hok : HOk X.prog X.w H' s'.heap) (hg : AllBare s'.gens)
    (hch : ∀ b ∈ ch, (b ∈ X.ex ∨ X.s₀.heap.objs.size ≤ b) ∧ b ≠ X.env.locals ∧ (∀ x c, X.env.cells.lookup x = some c → c ≠ b) ∧ ∀ p ∈ X.pn ++ pins, p.1 ≠ b) : Inv X pins σ H' s' := by
  obtain ⟨h', g', d', t', o'⟩ := s'
  have e : o' = s.os := ho
  subst e
  exact I.call (g' := g') (t' := t') (d' := d') u hok hg hch
end
noncomputable abbrev XK := Value → Option Addr → Hp → Prop
noncomputable abbrev St := List (Option V)
noncomputable abbrev VK := V → Hp → Prop
noncomputable abbrev TE := St → Hp → VK → Prop
noncomputable abbrev TT := St → Hp → (Bool → Hp → Prop) → Prop
noncomputable abbrev TA := St → Hp → (List V → Hp → Prop) → Prop
structure Ends where
  nx : St → Hp → Prop
  rt : VK
  bk : St → Hp → Prop := fun _ _ => False
  ct : St → Hp → Prop := fun _ _ => False
noncomputable abbrev TS := Ends → St → Hp → Prop
inductive EP (X : Cx) (pins : List (Addr × Obj)) (σ : St) (Q : VK) (u : Value) (s' : Shared) : Prop where
  | mk (v : V) (H' : Hp) (I : Inv X pins σ H' s') (r : RelV v u) (q : Q v H')
def TP (X : Cx) (pins : List (Addr × Obj)) (σ : St) (Q : Bool → Hp → Prop) (b : Bool) (s' : Shared) : Prop := ∃ H', Inv X pins σ H' s' ∧ Q b H'
inductive AP (X : Cx) (pins : List (Addr × Obj)) (σ : St) (Q : List V → Hp → Prop) (us : List Value) (s' : Shared) : Prop where
  | mk (vs : List V) (H' : Hp) (I : Inv X pins σ H' s') (r : Vals vs us) (q : Q vs H')
def SP (X : Cx) (pins : List (Addr × Obj)) (D : Ends) (f : Flow) (s' : Shared) : Prop :=
  match f with
  | .next => ∃ σ' H', Inv X pins σ' H' s' ∧ D.nx σ' H'
  | .brk => ∃ σ' H', Inv X pins σ' H' s' ∧ D.bk σ' H'
  | .cont => ∃ σ' H', Inv X pins σ' H' s' ∧ D.ct σ' H'
  | .ret u => ∃ v σ' H', Inv X pins σ' H' s' ∧ RelV v u ∧ D.rt v H'
def PE (X : Cx) (e : Expr) (t : TE) : Prop :=
  ∀ (pins : List (Addr × Obj)) (s : Shared) (σ : St) (H : Hp) (Q : VK), Inv X pins σ H s → t σ H Q → wpAny (model X.prog X.w) X.A (eval e X.env) (EP X pins σ Q) X.xe s
def PT (X : Cx) (e : Expr) (t : TT) : Prop :=
  ∀ (pins : List (Addr × Obj)) (s : Shared) (σ : St) (H : Hp) (Q : Bool → Hp → Prop), Inv X pins σ H s → t σ H Q → wpAny (model X.prog X.w) X.A (isTrue e X.env (eval e X.env)) (TP X pins σ Q) X.xe s
def PW (X : Cx) (e : Expr) (t : TT) : Prop :=
  ∀ (whole : Sem Value) (pins : List (Addr × Obj)) (s : Shared) (σ : St) (H : Hp) (Q : Bool → Hp → Prop), Inv X pins σ H s → t σ H Q → wpAny (model X.prog X.w) X.A (isTrue e X.env whole) (TP X pins σ Q) X.xe s
theorem PW.pt {X : Cx} {e : Expr} {t : TT} (h : PW X e t) : PT X e t := h _
def PA (X : Cx) (es : List Expr) (t : TA) : Prop :=
  ∀ (pos : Pos) (pins : List (Addr × Obj)) (s : Shared) (σ : St) (H : Hp) (Q : List V → Hp → Prop), Inv X pins σ H s → t σ H Q → wpAny (model X.prog X.w) X.A (spliced (backTo pos (starEach es X.env))) (AP X pins σ Q) X.xe s
def PS (X : Cx) (st : Stmt) (t : TS) : Prop :=
  ∀ (pins : List (Addr × Obj)) (s : Shared) (σ : St) (H : Hp) (D : Ends), Inv X pins σ H s → t D σ H → wpAny (model X.prog X.w) X.A (exec st X.env) (SP X pins D) X.xe s
def PSs (X : Cx) (st : List Stmt) (t : TS) : Prop :=
  ∀ (pins : List (Addr × Obj)) (s : Shared) (σ : St) (H : Hp) (D : Ends), Inv X pins σ H s → t D σ H → wpAny (model X.prog X.w) X.A (execs st X.env) (SP X pins D) X.xe s
theorem thn {α : Type} {t : Sem α} {Q Q' : α → Shared → Prop} {M : Model} {A : Around} {E : Value → Shared → Prop} {s : Shared} (h : wpAny M A t Q E s) (hQ : ∀ a s, Q a s → Q' a s) : wpAny M A t Q' E s := wpAny_mono h hQ fun _ _ x => x
end L2
namespace L2
open PySem PySem.Spec PyProof.Rows
section
variable {X : Cx}
def tVar (i : Nat) : TE := fun σ H Q => ∃ v, σ[i]? = some (some v) ∧ Q v H
def tC (v : V) : TE := fun _ H Q => Q v H
theorem pe_var {i : Nat} {x : Str} {pos : Pos} (hN : X.N[i]? = some x) (hv : Vis X.env.scope x) (hd : (x == ("__debug__" : Str)) = false := by decide) (hcd : (x == ("__classdict__" : Str)) = false := by decide) : PE X (.Name x pos) (tVar i) := by
  intro pins s σ H Q I h
  obtain ⟨v, e, h⟩ := h
  obtain ⟨m, hn, hl⟩ := I.loc
  obtain ⟨u, r, l⟩ := hl i x v hN e hv
  have fin : EP X pins σ Q u s := ⟨v, H, I, r, h⟩
  rcases l with ⟨hk, hm⟩ | ⟨hk, c, hc, hcell⟩
  · exact wpAny_Name (wpAny_loadName_local I.ok.kind hk hn hm fin) hd
  · rcases hk with hk | hk
    · exact wpAny_Name (wpAny_loadName_cell I.ok.kind hk hc hcell fin) hd
    · exact wpAny_Name (wpAny_loadName_free I.ok.kind hk hc hcell fin hcd) hd
theorem pe_int {i j pos} : PE X (.Constant (.int i) j pos) (tC (.int i)) := fun _ _ _ H _ I h => wpAny_Constant_int ⟨.int i, H, I.tok _, ⟨_, rfl⟩, h⟩
theorem pe_bl {b j pos} : PE X (.Constant (.bool b) j pos) (tC (.bl b)) := fun _ _ _ H _ I h => Constant_bool ⟨.bl b, H, I, rfl, h⟩
theorem pe_str {x j pos} : PE X (.Constant (.str x) j pos) (tC (.str x)) := fun _ _ _ H _ I h => Calls.Constant_str ⟨.str x, H, I.tok _, ⟨_, rfl⟩, h⟩
def Gl (X : Cx) (x : Str) : Prop := X.env.kindOf x = some .globalImplicit
theorem ld_glob {E : Value → Shared → Prop} {pins : List (Addr × Obj)} {s : Shared} {σ : St} {H : Hp} {x : Str} {u : Value} {pos : Pos} {Q : Value → Shared → Prop} (I : Inv X pins σ H s) (hg : Gl X x) (hm : X.mg x = some u) (h : Q u s)
    (hd : (x == ("__debug__" : Str)) = false := by decide) : wpAny (model X.prog X.w) X.A (eval (.Name x pos) X.env) Q E s :=
  Calls.Name_function_global I.ok.kind hg (Calls.loadGlobal_global (by rw [I.ok.glob]; exact I.mod.glob.keeps I.bk) hm h) hd
theorem ld_blt {E : Value → Shared → Prop} {pins : List (Addr × Obj)} {s : Shared} {σ : St} {H : Hp} {x : Str} {u : Value} {pos : Pos} {Q : Value → Shared → Prop} (I : Inv X pins σ H s) (hg : Gl X x) (hm : X.mg x = none) (hv : bootBuiltins x = some u) (h : Q u s)
    (hn : x ≠ "__name__" := by decide) (hd : (x == ("__debug__" : Str)) = false := by decide) : wpAny (model X.prog X.w) X.A (eval (.Name x pos) X.env) Q E s := by
  obtain ⟨mb, h1, h2⟩ := I.mod.blt
  exact Calls.Name_function_global I.ok.kind hg (Calls.loadGlobal_builtin (by rw [I.ok.glob]; exact I.mod.glob.keeps I.bk) hm (by rw [I.ok.blt]; exact h1.keeps I.bk) ((h2 x hn).trans hv) h) hd
theorem pe_glob {x : Str} {v : V} {u : Value} {pos : Pos} (hg : Gl X x) (hm : X.mg x = some u) (r : RelV v u) (hd : (x == ("__debug__" : Str)) = false := by decide) : PE X (.Name x pos) (tC v) :=
  fun _ _ _ H _ I h => ld_glob I hg hm ⟨v, H, I, r, h⟩ hd
theorem pe_bltn {x : Str} {v : V} {u : Value} {pos : Pos} (hg : Gl X x) (hm : X.mg x = none) (hv : bootBuiltins x = some u) (r : RelV v u) (hn : x ≠ "__name__" := by decide) (hd : (x == ("__debug__" : Str)) = false := by decide) : PE X (.Name x pos) (tC v) :=
  fun _ _ _ H _ I h => ld_blt I hg hm hv ⟨v, H, I, r, h⟩ hn hd
variable {a b : Expr} {ta tb : TE} {pos : Pos}
def tB (t : TE) : TT := fun σ H Q => t σ H fun x H1 => ∃ c, x = .bl c ∧ Q c H1
theorem pt_val {e : Expr} {t : TE} (h : PE X e t) (he : ∀ whole, isTrue e X.env whole = (do let v ← whole; standAt e.pos; holding [v] (truthy v)) := by intro _; rfl) : PT X e (tB t) := by
  intro pins s σ H Q I hw
  refine isTrue_plain (thn (h pins s σ H _ I hw) fun v s1 ⟨x, H1, I1, r1, q1⟩ => ?_) (he _)
  obtain ⟨d, rfl, q⟩ := q1
  cases r1
  exact wpAny_truthy_bool ⟨H1, I1, q⟩
variable {tA tB' : TT} {rest : List Expr}
def tAnd (t u : TT) : TT := fun σ H Q => t σ H fun c H1 => if c = true then u σ H1 Q else Q false H1
def tOr (t u : TT) : TT := fun σ H Q => t σ H fun c H1 => if c = true then Q true H1 else u σ H1 Q
def tNot (t : TT) : TT := fun σ H Q => t σ H fun c H1 => Q (!c) H1
theorem pw_and1 (ha : PT X a tA) : PW X (.BoolOp .And [a] pos) tA := by
  intro wh pins s σ H Q I h
  refine isTrue_and (thn (ha pins s σ H Q I h) fun c s1 e => ?_)
  cases c with
  | true => exact isTrue_and_nil e
  | false => exact e
theorem pw_or1 (ha : PT X a tA) : PW X (.BoolOp .Or [a] pos) tA := by
  intro wh pins s σ H Q I h
  refine isTrue_or (thn (ha pins s σ H Q I h) fun c s1 e => ?_)
  cases c with
  | false => exact isTrue_or_nil e
  | true => exact e
theorem pw_and (ha : PT X a tA) (hb : PW X (.BoolOp .And (b :: rest) pos) tB') : PW X (.BoolOp .And (a :: b :: rest) pos) (tAnd tA tB') := by
  intro wh pins s σ H Q I h
  refine isTrue_and (thn (ha pins s σ H _ I h) fun c s1 ⟨H1, I1, q1⟩ => ?_)
  cases c with
  | true => exact hb wh pins s1 σ H1 Q I1 q1
  | false => exact ⟨H1, I1, q1⟩
theorem pw_or (ha : PT X a tA) (hb : PW X (.BoolOp .Or (b :: rest) pos) tB') : PW X (.BoolOp .Or (a :: b :: rest) pos) (tOr tA tB') := by
  intro wh pins s σ H Q I h
  refine isTrue_or (thn (ha pins s σ H _ I h) fun c s1 ⟨H1, I1, q1⟩ => ?_)
  cases c with
  | true => exact ⟨H1, I1, q1⟩
  | false => exact hb wh pins s1 σ H1 Q I1 q1
theorem pt_not (ha : PT X a tA) : PT X (.UnaryOp .Not a pos) (tNot tA) := by
  intro pins s σ H Q I h
  exact isTrue_not (ha pins s σ H (fun c H1 => Q (!c) H1) I h)
def tAndV (ta tb : TE) : TE := fun σ H Q => ta σ H fun x H1 => ∃ c, x = .bl c ∧ if c = true then tb σ H1 Q else Q (.bl false) H1
theorem pe_one {op} {t : TE} (h : PE X a t) : PE X (.BoolOp op [a] pos) t := fun pins s σ H Q I hw => BoolOp_one (h pins s σ H Q I hw)
theorem pe_and (ha : PE X a ta) (hb : PE X (.BoolOp .And (b :: rest) pos) tb) : PE X (.BoolOp .And (a :: b :: rest) pos) (tAndV ta tb) := by
  intro pins s σ H Q I h
  refine BoolOp_and (thn (ha pins s σ H _ I h) fun v s1 ⟨x, H1, I1, r1, q1⟩ => ?_)
  obtain ⟨c, rfl, q1⟩ := q1
  cases r1
  refine wpAny_truthy_bool ?_
  cases c with
  | true => exact hb pins s1 σ H1 Q I1 q1
  | false => exact ⟨.bl false, H1, I1, rfl, q1⟩
end
end L2
namespace L2
open PySem PySem.Spec PyProof.Rows
def SqL (K : PySem.W.Frag) (H : Hp) (a : Addr) (xs : List V) : Prop :=
  Rd H a (.lst xs) ∨
    ∃ (o : Obj) (its : Array Value) (n : Nat), K.lookup a = some o ∧ o.cls = .type "list" ∧ o.dict = none ∧ o.data = .seq its n ∧ its.size ≤ sizeLine ∧ Vals xs its.toList
def SqT (K : PySem.W.Frag) (H : Hp) (a : Addr) (xs : List V) : Prop :=
  Rd H a (.tup xs) ∨
    ∃ (o : Obj) (its : Array Value) (n : Nat), K.lookup a = some o ∧ o.cls = .type "tuple" ∧ o.dict = none ∧ o.data = .seq its n ∧ its.size ≤ sizeLine ∧ Vals xs its.toList
noncomputable def absV : Value → Option V
  | .none => some .non
  | .bool b => some (.bl b)
  | .int i _ => some (.int i)
  | .str x _ => some (.str x)
  | .bytes b _ => some (.byt b)
  | .float b _ => some (.flt b)
  | .ref a => some (.ref a)
  | .type n => some (.ty n)
  | _ => none
theorem RelV.abs {x : V} {u : Value} (r : RelV x u) : absV u = some x := by
  cases x with
  | non => cases r; rfl
  | bl _ => cases r; rfl
  | int _ => obtain ⟨t, rfl⟩ := r; rfl
  | str _ => obtain ⟨t, rfl⟩ := r; rfl
  | byt _ => obtain ⟨t, rfl⟩ := r; rfl
  | flt _ => obtain ⟨t, rfl⟩ := r; rfl
  | ref _ => cases r; rfl
  | ty _ => cases r; rfl
theorem RelV.inj {x y : V} {u : Value} (r : RelV x u) (q : RelV y u) : x = y := Option.some.inj (r.abs.symm.trans q.abs)
theorem Vals.inj : ∀ {xs ys : List V} {us : List Value}, Vals xs us → Vals ys us → xs = ys
  | _, _, _, .nil, .nil => rfl
  | _, _, _, .cons r t, .cons r' t' => by rw [r.inj r', Vals.inj t t']
section
variable {X : Cx} {pins : List (Addr × Obj)} {σ : St} {H : Hp} {s : Shared} {a : Addr} {xs ys : List V}
theorem SqL.of {K : PySem.W.Frag} (h : H a = some (.lst xs)) : SqL K H a xs := .inl (.inl h)
theorem SqT.of {K : PySem.W.Frag} (h : H a = some (.tup xs)) : SqT K H a xs := .inl (.inl h)
theorem Inv.list (I : Inv X pins σ H s) (h : SqL X.K H a xs) : ∃ its : List Value, Vals xs its ∧ PlainL s.heap a its.toArray ∧ xs.length ≤ sizeLine := by
  rcases h with h | ⟨o, its, n, hk, hc, hd, hs, hz, r⟩
  · obtain ⟨z, its, n, r, e⟩ := h.ok I.hok
    exact ⟨its, r, ⟨_, n, e, rfl, rfl, rfl⟩, z⟩
  · refine ⟨its.toList, r, ⟨o, n, I.kIn a o hk, hc, hd, by simpa using hs⟩, ?_⟩
    have e := r.length
    simp only [Array.length_toList] at e
    omega
theorem Inv.tuple (I : Inv X pins σ H s) (h : SqT X.K H a xs) : ∃ its : List Value, Vals xs its ∧ IsTup s.heap a its.toArray ∧ xs.length ≤ sizeLine := by
  rcases h with h | ⟨o, its, n, hk, hc, _, hs, hz, r⟩
  · obtain ⟨z, its, r, p, _⟩ := h.ok I.hok
    exact ⟨its, r, p, z⟩
  · refine ⟨its.toList, r, ⟨o, I.kIn a o hk, hc, n, by simpa using hs⟩, ?_⟩
    have e := r.length
    simp only [Array.length_toList] at e
    omega
theorem Inv.list_inj (I : Inv X pins σ H s) (h : SqL X.K H a xs) (h' : SqL X.K H a ys) : xs = ys := by
  obtain ⟨its, r, ⟨o, n, e, _, _, d⟩, _⟩ := I.list h
  obtain ⟨its', r', ⟨o', n', e', _, _, d'⟩, _⟩ := I.list h'
  rw [e] at e'; cases e'
  rw [d] at d'
  injection d' with d1 _
  have : its = its' := by simpa using congrArg Array.toList d1
  subst this
  exact r.inj r'
theorem Inv.tuple_inj (I : Inv X pins σ H s) (h : SqT X.K H a xs) (h' : SqT X.K H a ys) : xs = ys := by
  obtain ⟨its, r, ⟨o, e, _, n, d⟩, _⟩ := I.tuple h
  obtain ⟨its', r', ⟨o', e', _, n', d'⟩, _⟩ := I.tuple h'
  rw [e] at e'; cases e'
  rw [d] at d'
  injection d' with d1 _
  have : its = its' := by simpa using congrArg Array.toList d1
  subst this
  exact r.inj r'
end
noncomputable abbrev Cx.wish (X : Cx) (E : Value → Shared → Prop) : Cx := { X with xe := E }
noncomputable abbrev Cx.nox (X : Cx) : Cx := X.wish fun _ _ => False
theorem Cx.Ok.wish {X : Cx} (ok : X.Ok) (E : Value → Shared → Prop) : (X.wish E).Ok :=
  ⟨ok.mod, ok.kind, ok.glob, ok.blt, ok.above, ok.inj, ok.has, ok.cab, ok.hd, ok.frames, ok.stk, ok.exf, ok.bs, ok.bsz, ok.noex, ok.exfs, ok.funs, ok.frf⟩
theorem Cx.Ok.unwish {X : Cx} {E : Value → Shared → Prop} (ok : (X.wish E).Ok) : X.Ok :=
  ⟨ok.mod, ok.kind, ok.glob, ok.blt, ok.above, ok.inj, ok.has, ok.cab, ok.hd, ok.frames, ok.stk, ok.exf, ok.bs, ok.bsz, ok.noex, ok.exfs, ok.funs, ok.frf⟩
section
variable {X : Cx} {pins : List (Addr × Obj)} {σ : St} {H : Hp} {s : Shared} {E : Value → Shared → Prop}
theorem Inv.wish (I : Inv X pins σ H s) (E : Value → Shared → Prop) : Inv (X.wish E) pins σ H s := ⟨I.ok.wish E, I.os, I.bare, I.base, I.loc, I.cell, I.free, I.freeC, I.pin, I.hok, I.len⟩
theorem Inv.unwish (I : Inv (X.wish E) pins σ H s) : Inv X pins σ H s := ⟨I.ok.unwish, I.os, I.bare, I.base, I.loc, I.cell, I.free, I.freeC, I.pin, I.hok, I.len⟩
theorem SP.unwish {D : Ends} {f : Flow} {s' : Shared} (h : SP (X.wish E) pins D f s') : SP X pins D f s' := by
  cases f with
  | next => obtain ⟨σ', H', I, q⟩ := h; exact ⟨σ', H', I.unwish, q⟩
  | brk => obtain ⟨σ', H', I, q⟩ := h; exact ⟨σ', H', I.unwish, q⟩
  | cont => obtain ⟨σ', H', I, q⟩ := h; exact ⟨σ', H', I.unwish, q⟩
  | ret u => obtain ⟨v, σ', H', I, r, q⟩ := h; exact ⟨v, σ', H', I.unwish, r, q⟩
theorem PSs.nox {st : List Stmt} {t : TS} (h : PSs X.nox st t) : PSs X st t := fun pins s σ H D I hw =>
  wpAny_mono (h pins s σ H D (I.wish _) hw) (fun _ _ q => q.unwish) fun _ _ z => False.elim z
end
section
variable {X : Cx} {st : Stmt} {rest : List Stmt} {t u : TS} {e : Expr} {te : TE} {pos : Pos}
def tNext : TS := fun D σ H => D.nx σ H
def tSeq (t u : TS) : TS := fun D σ H => t { D with nx := u D } σ H
theorem pss_nil : PSs X [] tNext := fun _ _ σ H _ I h => wpAny_execs_nil ⟨σ, H, I, h⟩
theorem pss_cons (h1 : PS X st t) (h2 : PSs X rest u) : PSs X (st :: rest) (tSeq t u) := by
  intro pins s σ H D I h
  refine wpAny_execs_cons (thn (h1 pins s σ H { D with nx := u D } I h) fun f s1 q => ?_)
  cases f with
  | next =>
    obtain ⟨σ', H', I', q⟩ := q
    exact h2 pins s1 σ' H' D I' q
  | ret v => exact q
  | brk => exact q
  | cont => exact q
theorem pss_one (h1 : PS X st t) : PSs X [st] t := by
  intro pins s σ H D I h
  refine wpAny_execs_cons (thn (h1 pins s σ H D I h) fun f s1 q => ?_)
  cases f with
  | next => exact wpAny_execs_nil q
  | ret v => exact q
  | brk => exact q
  | cont => exact q
theorem Inv.quiet {pins : List (Addr × Obj)} {σ : St} {H : Hp} {s : Shared} (I : Inv X pins σ H s) : interactive X.env = false := by simp [interactive, I.ok.kind]
def tDrop (te : TE) : TS := fun D σ H => te σ H fun _ H1 => D.nx σ H1
theorem ps_expr (he : PE X e te) (hs : swapsWith e none pos.line X.env = pure false := by rfl) : PS X (.Expr e pos) (tDrop te) := by
  intro pins s σ H D I h
  exact wpAny_Expr_any (thn (he pins s σ H _ I h) fun v s1 z_4 => by obtain ⟨x, H1, I1, r1, q1⟩ := z_4; exact ⟨σ, H1, I1, q1⟩) I.quiet hs
def tRet (te : TE) : TS := fun D σ H => te σ H D.rt
theorem ps_ret (he : PE X e te) : PS X (.Return (some e) pos) (tRet te) := by
  intro pins s σ H D I h
  exact wpAny_Return_some (thn (he pins s σ H _ I h) fun v s1 z_5 => by obtain ⟨x, H1, I1, r1, q1⟩ := z_5; exact ⟨x, σ, H1, I1, r1, q1⟩)
def tIfS (c : TT) (t u : TS) : TS := fun D σ H => c σ H fun b H1 => if b = true then t D σ H1 else u D σ H1
theorem ps_if {c : Expr} {a b : List Stmt} {tc : TT} (hc : PT X c tc) (ha : PSs X a t) (hb : PSs X b u) : PS X (.If c a b pos) (tIfS tc t u) := by
  intro pins s σ H D I h
  refine wpAny_If (thn (hc pins s σ H _ I h) fun d s1 ⟨H1, I1, q1⟩ => ?_)
  cases d with
  | true => exact ha pins s1 σ H1 D I1 q1
  | false => exact hb pins s1 σ H1 D I1 q1
def tNever : TS := fun _ _ _ => False
theorem pss_never {sts : List Stmt} : PSs X sts tNever := fun _ _ _ _ _ _ h => h.elim
end
noncomputable abbrev TG := V → St → Hp → (St → Hp → Prop) → Prop
def PG (X : Cx) (target : Expr) (t : TG) : Prop :=
  ∀ (pins : List (Addr × Obj)) (s : Shared) (σ : St) (H : Hp) (v : V) (u : Value) (Q : St → Hp → Prop), Inv X pins σ H s → RelV v u → t v σ H Q →
    wpAny (model X.prog X.w) X.A (assign target X.env u) (fun _ s' => ∃ σ' H', Inv X pins σ' H' s' ∧ Q σ' H') X.xe s
noncomputable abbrev TSet := V → V → V → Hp → (Hp → Prop) → Prop
def PSet (X : Cx) (t : TSet) : Prop :=
  ∀ (pins : List (Addr × Obj)) (s : Shared) (σ : St) (H : Hp) (o i v : V) (ov iv u : Value) (Q : Hp → Prop), Inv X pins σ H s → RelV o ov → RelV i iv → RelV v u → t o i v H Q →
    wpAny (model X.prog X.w) X.A (setItem ov iv u) (fun _ s' => ∃ H', Inv X pins σ H' s' ∧ Q H') X.xe s
section
variable {X : Cx} {pos : Pos}
def gName (i : Nat) : TG := fun v σ H Q => Q (σ.set i (some v)) H
theorem pg_name {i : Nat} {x : Str} (hN : X.N.Nodup) (hi : X.N[i]? = some x) (hx : Loc X.env.scope x) (hf : X.fn x = true ∨ X.env.scope.names.lookup x = some .local := by first | exact .inl rfl | exact .inr rfl | assumption) : PG X (.Name x pos) (gName i) := by
  intro pins s σ H v u Q I r h
  exact wpAny_assign_Name (store_ok I hN hi hx r (fun s' I' => ⟨_, H, I', h⟩) hf)
def gSub (to ti : TE) (t : TSet) : TG := fun v σ H Q => to σ H fun o H1 => ti σ H1 fun i H2 => t o i v H2 fun H3 => Q σ H3
theorem pg_sub {o i : Expr} {to ti : TE} {t : TSet} (ho : PE X o to) (hi : PE X i ti) (hs : PSet X t)
    (ha : ∀ v, assign (.Subscript o i pos) X.env v = (do
      let ov ← holding [v] (eval o X.env)
      let iv ← holding [v, ov] (eval i X.env)
      standAt pos
      holding [v, ov, iv] (setItem ov iv v)
      release [v, ov, iv] []) := by intro _; rfl) : PG X (.Subscript o i pos) (gSub to ti t) := by
  intro pins s σ H v u Q I r h
  rw [ha]
  refine wpAny_bind (wpAny_holding (thn (ho pins s σ H _ I h) fun ov s1 ⟨x, H1, I1, r1, q1⟩ => ?_))
  refine wpAny_bind (wpAny_holding (thn (hi pins s1 σ H1 _ I1 q1) fun iv s2 ⟨y, H2, I2, r2, q2⟩ => ?_))
  refine wpAny_bind (wpAny_standAt (wpAny_bind (wpAny_holding (thn (hs pins s2 σ H2 x y v ov iv u _ I2 r1 r2 r q2) fun _ s3 ⟨H3, I3, q3⟩ => ?_))))
  exact wpAny_release ⟨σ, H3, I3, q3⟩
def tAsg (te : TE) (g : TG) : TS := fun D σ H => te σ H fun x H1 => g x σ H1 D.nx
theorem ps_asg {tg e : Expr} {te : TE} {g : TG} (he : PE X e te) (hg : PG X tg g) (hs : swapsWithSole [tg] e pos.line X.env = pure false := by rfl) (hw : swappedStores [tg] e X.env = pure none := by rfl)
    (h1 : (assignEach [tg] X.env).map (·.2) = [assign tg X.env] := by rfl) : PS X (.Assign [tg] e pos) (tAsg te g) := by
  intro pins s σ H D I h
  refine wpAny_Assign_stores (thn (he pins s σ H _ I h) fun v s1 ⟨x, H1, I1, r1, q1⟩ => ?_) hs hw
  rw [h1]
  exact thn (hg pins s1 σ H1 x v _ I1 r1 q1) fun _ s2 q => q
theorem ps_set {i : Nat} {x : Str} {e : Expr} {te : TE} {pos' : Pos} (hN : X.N.Nodup) (hi : X.N[i]? = some x) (hx : Loc X.env.scope x) (he : PE X e te) (hs : swapsWith e (some (.Name x pos')) pos.line X.env = pure false := by rfl) (hf : X.fn x = true ∨ X.env.scope.names.lookup x = some .local := by first | exact .inl rfl | exact .inr rfl | assumption) :
    PS X (.Assign [.Name x pos'] e pos) (tAsg te (gName i)) := by
  intro pins s σ H D I h
  refine wpAny_Assign_Name (thn (he pins s σ H _ I h) fun v s1 ⟨y, H1, I1, r1, q1⟩ => ?_) hs
  exact store_ok I1 hN hi hx r1 (fun s2 I2 => ⟨_, H1, I2, q1⟩) hf
end
section
variable {X : Cx} {pos : Pos}
def tWhile (c : TT) (tb : TS) : TS := fun D σ H => ∃ W : Nat → St → Hp → Prop, (∃ m, W m σ H) ∧ ∀ m σ H, W m σ H →
  c σ H fun b H1 => if b = true then ∃ N : St → Hp → Prop, (∀ σ' H', N σ' H' → ∃ m', m' < m ∧ W m' σ' H') ∧ tb { D with nx := N, ct := N, bk := D.nx } σ H1 else D.nx σ H1
theorem ps_while {c : Expr} {body : List Stmt} {tc : TT} {tb : TS} (hp : PassesOwn (model X.prog X.w) X.A X.env X.xe) (hc : PT X c tc) (hb : PSs X body tb) : PS X (.While c body [] pos) (tWhile tc tb) := by
  intro pins s σ H D I h
  obtain ⟨W, ⟨m0, w0⟩, turn⟩ := h
  refine wpAny_While (codeAny_whileLoop (fun n s' => ∃ σ' H', Inv X pins σ' H' s' ∧ W n σ' H') ?_ m0 ⟨σ, H, I, w0⟩)
  rintro n s1 ⟨σ1, H1, I1, w1⟩
  refine wpAny_passesOwn hp (thn (hc pins s1 σ1 H1 _ I1 (turn n σ1 H1 w1)) fun b s2 ⟨H2, I2, q2⟩ => ?_)
  cases b with
  | true =>
    obtain ⟨N, hN, q2⟩ := q2
    rw [if_pos rfl]
    refine wpAny_passesOwn hp (thn (hb pins s2 σ1 H2 _ I2 q2) fun f s3 q3 => ?_)
    cases f with
    | next =>
      obtain ⟨σ3, H3, I3, n3⟩ := q3
      obtain ⟨m', hm, w3⟩ := hN σ3 H3 n3
      exact ⟨m', hm, σ3, H3, I3, w3⟩
    | cont =>
      obtain ⟨σ3, H3, I3, n3⟩ := q3
      obtain ⟨m', hm, w3⟩ := hN σ3 H3 n3
      exact ⟨m', hm, σ3, H3, I3, w3⟩
    | brk => exact q3
    | ret v => exact q3
  | false =>
    rw [if_neg Bool.false_ne_true]
    exact wpAny_execs_nil ⟨σ1, H2, I2, q2⟩
end
structure It where
  go : Nat → Hp → Prop
  yld : Nat → Hp → V → Hp → Prop
  stop : Nat → Hp → Prop
def FpOk (X : Cx) (pins : List (Addr × Obj)) (H : Hp) (b : Addr) : Prop :=
  H b = none ∧ b ≠ X.env.locals ∧ b ∉ X.fs ∧ (b ∈ X.ex ∨ X.s₀.heap.objs.size ≤ b) ∧ (∀ x c, X.env.cells.lookup x = some c → c ≠ b) ∧ ∀ p ∈ X.pn ++ pins, p.1 ≠ b
theorem Inv.fpOk {X : Cx} {pins : List (Addr × Obj)} {σ : St} {H H' : Hp} {s : Shared} {b : Addr} (I : Inv X pins σ H s) (hb : s.heap.objs.size ≤ b) (hn : H' b = none) : FpOk X pins H' b := by
  refine ⟨hn, Nat.ne_of_gt (Nat.lt_of_lt_of_le I.lt hb), I.nofs hb, .inr (Nat.le_trans I.sz hb), fun x c e z => ?_, fun p hp z => ?_⟩
  · obtain ⟨v, q⟩ := I.cell x c e
    exact absurd (Nat.lt_of_lt_of_le q.lt (by rw [z]; exact hb)) (Nat.lt_irrefl _)
  · exact absurd (Nat.lt_of_lt_of_le (Heap.lt_size (I.pin p hp).1) (by rw [z]; exact hb)) (Nat.lt_irrefl _)
structure Turn (P : Program) (w : World) (K : PySem.W.Frag) (tg : Expr) (J : It) (fp : List Addr) (it : Addr) (tn : Nat → Heap → Prop) : Prop where
  mem : it ∈ fp
  obj : ∀ i h, tn i h → ∀ b ∈ fp, ∃ o, h.get? b = some o ∧ ∀ v, o.data ≠ .cell v
  keep : ∀ i h h', tn i h → (∀ b ∈ fp, ∀ o, h.get? b = some o → h'.get? b = some o) → tn i h'
  item : ∀ (X : Cx), X.prog = P → X.w = w → X.K = K → X.calm = true → ∀ (i : Nat) (pins : List (Addr × Obj)) (s : Shared) (σ : St) (H : Hp) (E : Value → Shared → Prop), Inv X pins σ H s → (∀ b ∈ fp, FpOk X pins H b) → tn i s.heap → J.go i H →
    wpAny (model P w) X.A (pyNext (.ref it)) (fun r s1 => ∃ u, r = some u ∧
      wpAny (model P w) X.A (letOwnedTupleGo tg (.ref it) u) (fun _ s2 => ∃ x H', Inv X pins σ H' s2 ∧ RelV x u ∧ J.yld i H x H' ∧ tn (i + 1) s2.heap ∧ ∀ b ∈ fp, H' b = none) E s1) E s
  done : ∀ (X : Cx), X.prog = P → X.w = w → X.K = K → X.calm = true → ∀ (i : Nat) (pins : List (Addr × Obj)) (s : Shared) (σ : St) (H : Hp) (E : Value → Shared → Prop), Inv X pins σ H s → (∀ b ∈ fp, FpOk X pins H b) → tn i s.heap → J.stop i H →
    wpAny (model P w) X.A (pyNext (.ref it)) (fun r s1 => r = none ∧ Inv X pins σ H s1) E s
  self : ∀ (A : Around) (i : Nat) (s : Shared) (Q : Value → Shared → Prop) (E : Value → Shared → Prop), tn i s.heap → Q (.ref it) s → wpAny (model P w) A (pyIter (.ref it)) Q E s
noncomputable abbrev TI := St → Hp → (It → Hp → Prop) → Prop
def PIE (X : Cx) (pins : List (Addr × Obj)) (σ : St) (tg : Expr) (R : It → Hp → Prop) (itv : Value) (s2 : Shared) : Prop :=
  ∃ (it : Addr) (fp : List Addr) (tn : Nat → Heap → Prop) (J : It) (H' : Hp), itv = .ref it ∧ Inv X pins σ H' s2 ∧ Turn X.prog X.w X.K tg J fp it tn ∧ tn 0 s2.heap ∧ (∀ b ∈ fp, FpOk X pins H' b) ∧ R J H'
def PI (X : Cx) (tg iter : Expr) (wi : TI) : Prop :=
  ∀ (pins : List (Addr × Obj)) (s : Shared) (σ : St) (H : Hp) (R : It → Hp → Prop), Inv X pins σ H s → wi σ H R →
    wpAny (model X.prog X.w) X.A (eval iter X.env) (fun v s1 => wpAny (model X.prog X.w) X.A (pyIter v) (PIE X pins σ tg R) X.xe s1) X.xe s
theorem go_of {M : Model} {A : Around} {E : Value → Shared → Prop} {s : Shared} {tg : Expr} {it : Addr} {u : Value} {o : Obj} {n : String} {vs : Array Value} {Q : Unit → Shared → Prop} (ho : s.heap.get? it = some o) (hc : o.cls = .type n) (hd : o.data = .fields vs)
    (hn : ["enumerate", "zip", "dict_itemiterator", "dict_reverseitemiterator", "odict_iterator", "itertools.zip_longest", "itertools.pairwise"].contains n = false) (hQ : Q () s) : wpAny M A (letOwnedTupleGo tg (.ref it) u) Q E s := by
  unfold letOwnedTupleGo
  cases tg <;> first
    | exact wpAny_pure hQ
    | (cases u <;> first
        | exact wpAny_pure hQ
        | (refine wpAny_bind (wpAny_load ho ?_)
           rw [hc, hd]
           show wpAny M A (if (["enumerate", "zip", "dict_itemiterator", "dict_reverseitemiterator", "odict_iterator", "itertools.zip_longest", "itertools.pairwise"].contains n && vs[0]? == some (rawInt _)) = true then _ else _) Q E s
           rw [if_neg (by intro h; rw [hn, Bool.false_and] at h; cases h)]
           exact wpAny_pure hQ))
noncomputable def Itl (K : PySem.W.Frag) (a : Addr) : It :=
  ⟨fun i H => ∃ xs x, SqL K H a xs ∧ xs[i]? = some x, fun i H x H' => H' = H ∧ ∀ xs, SqL K H a xs → xs[i]? = some x, fun i H => ∃ xs, SqL K H a xs ∧ xs.length ≤ i⟩
noncomputable def Itt (K : PySem.W.Frag) (a : Addr) : It :=
  ⟨fun i H => ∃ xs x, SqT K H a xs ∧ xs[i]? = some x, fun i H x H' => H' = H ∧ ∀ xs, SqT K H a xs → xs[i]? = some x, fun i H => ∃ xs, SqT K H a xs ∧ xs.length ≤ i⟩
noncomputable def Itr (lo : Int) (n : Nat) : It := ⟨fun i _ => i < n, fun i H x H' => H' = H ∧ x = .int (lo + i), fun i _ => n ≤ i⟩
theorem turn_list {P : Program} {w : World} {K : PySem.W.Frag} {tg : Expr} (a it : Addr) : Turn P w K tg (Itl K a) [it] it (fun i h => h.IsListIter it a i) where
  mem := by simp
  obj := fun i h st b hb => by
    have e : b = it := by simpa using hb
    subst e
    obtain ⟨o, e, c, d⟩ := st
    exact ⟨o, e, fun v z => by rw [d] at z; cases z⟩
  keep := fun i h h' st k => st.at fun o e => k it (by simp) o e
  item := by
    intro X hP hw hK hc i pins s σ H E I hf st hg
    subst hP hw hK
    obtain ⟨xs, x, hq, hx⟩ := hg
    obtain ⟨its, rv, p, hz⟩ := I.list hq
    obtain ⟨u, hu, ru⟩ := rv.get hx
    obtain ⟨f0, f1, f2, f3, f4, f5⟩ := hf it (by simp)
    refine wpAny_pyNext_list_item st p.isList (x := u) (by simpa using hu) fun h' st' sb => ?_
    have I1 : Inv X pins σ H { s with heap := h' } := I.turned (t' := s.toks) (fun b o hb e => (sb.2 b hb).trans e) f0 f1 f3 f4 f5
    obtain ⟨o, e, c, d⟩ := id st'
    exact ⟨u, rfl, go_of (s := { s with heap := h' }) e c d (by decide) ⟨x, H, I1, ru, ⟨rfl, fun ys hy => by rw [I.list_inj hy hq]; exact hx⟩, st', fun b hb => (hf b hb).1⟩⟩
  done := by
    intro X hP hw hK hc i pins s σ H E I hf st hg
    subst hP hw hK
    obtain ⟨xs, hq, hx⟩ := hg
    obtain ⟨its, rv, p, hz⟩ := I.list hq
    obtain ⟨f0, f1, f2, f3, f4, f5⟩ := hf it (by simp)
    have hl := rv.length
    exact wpAny_pyNext_list_end (I.ok.hd hc) st p.isList (by simp; omega) fun h' eb => ⟨rfl, I.turned (t' := s.toks) (fun b o hb e => eb b o hb e) f0 f1 f3 f4 f5⟩
  self := fun _ _ _ _ _ st h => wpAny_pyIter_listiter st h
theorem turn_tuple {P : Program} {w : World} {K : PySem.W.Frag} {tg : Expr} (a it : Addr) : Turn P w K tg (Itt K a) [it] it (fun i h => h.IsTupleIter it a i) where
  mem := by simp
  obj := fun i h st b hb => by
    have e : b = it := by simpa using hb
    subst e
    obtain ⟨o, e, c, d⟩ := st
    exact ⟨o, e, fun v z => by rw [d] at z; cases z⟩
  keep := fun i h h' st k => st.at fun o e => k it (by simp) o e
  item := by
    intro X hP hw hK hc i pins s σ H E I hf st hg
    subst hP hw hK
    obtain ⟨xs, x, hq, hx⟩ := hg
    obtain ⟨its, rv, p, hz⟩ := I.tuple hq
    obtain ⟨u, hu, ru⟩ := rv.get hx
    obtain ⟨f0, f1, f2, f3, f4, f5⟩ := hf it (by simp)
    refine wpAny_pyNext_tuple_item st (show s.heap.IsTuple a its.toArray from p) (x := u) (by simpa using hu) fun h' st' sb => ?_
    have I1 : Inv X pins σ H { s with heap := h' } := I.turned (t' := s.toks) (fun b o hb e => (sb.2 b hb).trans e) f0 f1 f3 f4 f5
    obtain ⟨o, e, c, d⟩ := id st'
    exact ⟨u, rfl, go_of (s := { s with heap := h' }) e c d (by decide) ⟨x, H, I1, ru, ⟨rfl, fun ys hy => by rw [I.tuple_inj hy hq]; exact hx⟩, st', fun b hb => (hf b hb).1⟩⟩
  done := by
    intro X hP hw hK hc i pins s σ H E I hf st hg
    subst hP hw hK
    obtain ⟨xs, hq, hx⟩ := hg
    obtain ⟨its, rv, p, hz⟩ := I.tuple hq
    obtain ⟨f0, f1, f2, f3, f4, f5⟩ := hf it (by simp)
    have hl := rv.length
    exact wpAny_pyNext_tuple_end (I.ok.hd hc) st (show s.heap.IsTuple a its.toArray from p) (by simp; omega) fun h' eb => ⟨rfl, I.turned (t' := s.toks) (fun b o hb e => eb b o hb e) f0 f1 f3 f4 f5⟩
  self := fun _ _ _ _ _ st h => wpAny_pyIter_tupleiter st h
theorem turn_range {P : Program} {w : World} {K : PySem.W.Frag} {tg : Expr} (it : Addr) (lo : Int) (n : Nat) : Turn P w K tg (Itr lo n) [it] it (fun i h => IsRangeIter h it (lo + (i : Nat) * 1) ((n : Int) - (i : Nat)) 1) where
  mem := by simp
  obj := fun i h st b hb => by
    have e : b = it := by simpa using hb
    subst e
    exact ⟨_, st, fun v z => by
      have z' : Data.fields _ = Data.cell v := z
      cases z'⟩
  keep := fun i h h' st k => k it (by simp) _ st
  item := by
    intro X hP hw hK hc i pins s σ H E I hf st hg
    subst hP hw hK
    obtain ⟨f0, f1, f2, f3, f4, f5⟩ := hf it (by simp)
    have W := Walks.range (prog := X.prog) (w := X.w) (I.ok.hd hc) it lo 1 n
    refine W.item i s _ _ hg st fun v h' tk hv st' kk => ?_
    obtain ⟨t, rfl⟩ := hv
    have I1 : Inv X pins σ H { s with heap := h', toks := tk } := I.turned (fun b o hb e => kk b o (by simpa using hb) e) f0 f1 f3 f4 f5
    refine ⟨_, rfl, go_of (s := { s with heap := h', toks := tk }) (n := "range_iterator") st' rfl rfl (by decide) ⟨.int (lo + i), H, I1, ⟨t, ?_⟩, ⟨rfl, rfl⟩, st', fun b hb => (hf b hb).1⟩⟩
    rw [Int.mul_one]
  done := by
    intro X hP hw hK hc i pins s σ H E I hf st hg
    subst hP hw hK
    obtain ⟨f0, f1, f2, f3, f4, f5⟩ := hf it (by simp)
    exact wpAny_pyNext_range_end (I.ok.hd hc) st (by have : n ≤ i := hg; omega) fun h' eb => ⟨rfl, I.turned (t' := s.toks) (fun b o hb e => eb b o hb e) f0 f1 f3 f4 f5⟩
  self := fun _ _ _ _ _ st h => wpAny_pyIter_rangeiter st h
end L2
namespace L2
open PySem PySem.Spec PyProof.Rows
section
variable {X : Cx} {tg : Expr}
def iList (K : PySem.W.Frag) (tl : TE) : TI := fun σ H R => tl σ H fun x H1 => ∃ a, x = .ref a ∧ (∃ xs, SqL K H1 a xs) ∧ R (Itl K a) H1
def iTup (K : PySem.W.Frag) (tl : TE) : TI := fun σ H R => tl σ H fun x H1 => ∃ a, x = .ref a ∧ (∃ xs, SqT K H1 a xs) ∧ R (Itt K a) H1
theorem pi_list {l : Expr} {tl : TE} (hl : PE X l tl) : PI X tg l (iList X.K tl) := by
  intro pins s σ H R I h
  refine thn (hl pins s σ H _ I h) fun v s1 ⟨x, H1, I1, r1, q1⟩ => ?_
  obtain ⟨a, e, ⟨xs, hq⟩, q⟩ := q1
  subst e
  cases r1
  obtain ⟨its, rv, p, hz⟩ := I1.list hq
  refine wpAny_pyIter_list p.isList ?_
  refine ⟨s1.heap.objs.size, [s1.heap.objs.size], _, _, H1, rfl, I1.kept (t' := s1.toks) fun b o e => Heap.get?_push_of_some _ e, turn_list a _, ⟨_, Heap.get?_push_size _ rfl, rfl, rfl⟩, fun b hb => ?_, q⟩
  have e : b = s1.heap.objs.size := by simpa using hb
  subst e
  exact I1.fpOk (Nat.le_refl _) (I1.hok.fresh (Nat.le_refl _))
theorem pi_tup {l : Expr} {tl : TE} (hl : PE X l tl) : PI X tg l (iTup X.K tl) := by
  intro pins s σ H R I h
  refine thn (hl pins s σ H _ I h) fun v s1 ⟨x, H1, I1, r1, q1⟩ => ?_
  obtain ⟨a, e, ⟨xs, hq⟩, q⟩ := q1
  subst e
  cases r1
  obtain ⟨its, rv, p, hz⟩ := I1.tuple hq
  refine wpAny_pyIter_tuple (show s1.heap.IsTuple a its.toArray from p) ?_
  refine ⟨s1.heap.objs.size, [s1.heap.objs.size], _, _, H1, rfl, I1.kept (t' := s1.toks) fun b o e => Heap.get?_push_of_some _ e, turn_tuple a _, ⟨_, Heap.get?_push_size _ rfl, rfl, rfl⟩, fun b hb => ?_, q⟩
  have e : b = s1.heap.objs.size := by simpa using hb
  subst e
  exact I1.fpOk (Nat.le_refl _) (I1.hok.fresh (Nat.le_refl _))
theorem range_it {pins : List (Addr × Obj)} {σ : St} {H : Hp} {s : Shared} {R : It → Hp → Prop} {E : Value → Shared → Prop} {lo hi : Int} {t u v : Tok} {tk : Nat} (I : Inv X pins σ H s) (h1 : -(2 ^ 62) ≤ lo) (h2 : lo < 2 ^ 62) (h3 : -(2 ^ 62) ≤ hi) (h4 : hi < 2 ^ 62)
    (q : R (Itr lo (hi - lo).toNat) H) : wpAny (model X.prog X.w) X.A (pyIter (.ref s.heap.objs.size)) (PIE X pins σ tg R) E { s with heap := s.heap.push { cls := .type "range", data := .fields #[.int lo t, .int hi u, .int 1 v] }, toks := tk } := by
  refine wpAny_pyIter_range (IsRange.new ..) (small_one h1 h2 h3 h4) ?_
  have I1 : Inv X pins σ H { s with heap := s.heap.push { cls := .type "range", data := .fields #[.int lo t, .int hi u, .int 1 v] }, toks := tk } := I.kept fun b o e => Heap.get?_push_of_some _ e
  refine ⟨(s.heap.push { cls := .type "range", data := .fields #[.int lo t, .int hi u, .int 1 v] }).objs.size, [(s.heap.push { cls := .type "range", data := .fields #[.int lo t, .int hi u, .int 1 v] }).objs.size], _, _, H, rfl,
    I1.kept (t' := tk) fun b o e => Heap.get?_push_of_some _ e, turn_range _ lo (hi - lo).toNat, ?_, fun b hb => ?_, q⟩
  · have e1 : lo + ((0 : Nat) : Int) * 1 = lo := by simp
    have e2 : (((hi - lo).toNat : Nat) : Int) - ((0 : Nat) : Int) = Builtin.Range.rangeSize lo hi 1 := by rw [rangeSize_one]; split <;> omega
    show IsRangeIter _ _ (lo + ((0 : Nat) : Int) * 1) ((((hi - lo).toNat : Nat) : Int) - ((0 : Nat) : Int)) 1
    rw [e1, e2]
    exact Heap.get?_push_size _ rfl
  · have e : b = (s.heap.push { cls := .type "range", data := .fields #[.int lo t, .int hi u, .int 1 v] }).objs.size := by simpa using hb
    subst e
    exact I1.fpOk (Nat.le_refl _) (I1.hok.fresh (Nat.le_refl _))
def iRng1 (ta : TA) : TI := fun σ H R => ta σ H fun vs H1 => ∃ j : Int, vs = [.int j] ∧ -(2 ^ 62) ≤ j ∧ j < 2 ^ 62 ∧ R (Itr 0 j.toNat) H1
theorem pi_range1 {a : Expr} {ta : TA} {p pos : Pos} (hg : Gl X "range") (hm : X.mg "range" = none) (ha : PA X [a] ta) (hs : starEach [a] X.env = [(false, eval a X.env)] := by rfl) : PI X tg (.Call (.Name "range" p) [a] [] pos) (iRng1 ta) := by
  intro pins s σ H R I h
  refine Call_ (ld_blt I hg hm boot_range (PyProof.Rows.callWith_type1 (thn (ha pos pins s σ H _ I h) fun us s1 ⟨vs, H1, I1, r1, q1⟩ => ?_) hs rfl))
  obtain ⟨j, e, q1, q2, q⟩ := q1
  subst e
  cases r1 with
  | cons r rr =>
    cases rr
    obtain ⟨t, rfl⟩ := r
    exact call_range_1 (range_it I1 (by omega) (by omega) q1 q2 (by simpa using q))
def tFor (wi : TI) (g : TG) (tb : TS) : TS := fun D σ H => wi σ H fun J H1 => ∃ W : Nat → Nat → St → Hp → Prop, (∃ m, W 0 m σ H1) ∧ ∀ i m σ H, W i m σ H →
  (J.stop i H ∧ D.nx σ H) ∨ (J.go i H ∧ ∃ N : St → Hp → Prop, (∀ σ' H', N σ' H' → ∃ m', m' < m ∧ W (i + 1) m' σ' H') ∧ ∀ x H', J.yld i H x H' → g x σ H' fun σ2 H2 => tb { D with nx := N, ct := N, bk := D.nx } σ2 H2)
noncomputable def pinsAt (fp : List Addr) (h : Heap) : List (Addr × Obj) := fp.filterMap fun b => (h.get? b).map fun o => (b, o)
theorem mem_pinsAt {fp : List Addr} {h : Heap} {b : Addr} {o : Obj} (hb : b ∈ fp) (e : h.get? b = some o) : (b, o) ∈ pinsAt fp h := List.mem_filterMap.mpr ⟨b, hb, by rw [e]; rfl⟩
theorem of_pinsAt {fp : List Addr} {h : Heap} {p : Addr × Obj} (hp : p ∈ pinsAt fp h) : p.1 ∈ fp ∧ h.get? p.1 = some p.2 := by
  obtain ⟨b, hb, e⟩ := List.mem_filterMap.mp hp
  cases q : h.get? b with
  | none => rw [q] at e; cases e
  | some o =>
    rw [q] at e
    have e' : (b, o) = p := Option.some.inj e
    subst e'
    exact ⟨hb, q⟩
theorem Inv.pinned {pins : List (Addr × Obj)} {σ : St} {H : Hp} {s : Shared} {fp : List Addr} (I : Inv X pins σ H s) (hf : ∀ b ∈ fp, FpOk X pins H b) (ho : ∀ b ∈ fp, ∃ o, s.heap.get? b = some o ∧ ∀ v, o.data ≠ .cell v) : Inv X (pins ++ pinsAt fp s.heap) σ H s :=
  I.pins_of fun p hp => (List.mem_append.mp hp).elim (fun z => I.pin p (List.mem_append_right _ z)) fun z => by
    obtain ⟨hb, e⟩ := of_pinsAt z
    obtain ⟨f0, f1, f2, _⟩ := hf p.1 hb
    obtain ⟨o, e', d⟩ := ho p.1 hb
    rw [e] at e'; cases e'
    exact ⟨e, f0, f1, f2, d⟩
theorem Inv.unpinned {pins pl : List (Addr × Obj)} {σ : St} {H : Hp} {s : Shared} (I : Inv X (pins ++ pl) σ H s) : Inv X pins σ H s := I.pins_of fun p hp => I.pin p (List.mem_append_right _ (List.mem_append_left _ hp))
theorem ps_for {iter : Expr} {body : List Stmt} {wi : TI} {g : TG} {tb : TS} {pos : Pos} (hp : PassesOwn (model X.prog X.w) X.A X.env X.xe) (hc : X.calm = true) (hi : PI X tg iter wi) (hg : PG X tg g) (hb : PSs X body tb)
    (hs : ∀ x, foldedSetIterable iter X.env x = pure x := by intro _; rfl) : PS X (.For tg iter body [] pos) (tFor wi g tb) := by
  intro pins s σ H D I h
  refine wpAny_For (thn (hi pins s σ H _ I h) fun v s1 h1 => thn h1 fun itv s2 h2 => ?_) hs
  obtain ⟨it, fp, tn, J, H2, e, I2, T, st2, f2, W, ⟨m0, w0⟩, turn⟩ := h2
  subst e
  have stat : ∀ {H' : Hp}, (∀ b ∈ fp, H' b = none) → ∀ b ∈ fp, FpOk X pins H' b := fun hn b hb => ⟨hn b hb, (f2 b hb).2⟩
  refine codeAny_forLoop_any (fun n s' => ∃ i σ' H', Inv X pins σ' H' s' ∧ tn i s'.heap ∧ (∀ b ∈ fp, H' b = none) ∧ W i n σ' H') ?_ m0 ⟨0, σ, H2, I2, st2, fun b hb => (f2 b hb).1, w0⟩
  rintro n s3 ⟨i, σ3, H3, I3, st3, fr3, w3⟩
  rcases turn i n σ3 H3 w3 with ⟨stop, qn⟩ | ⟨go, N, hN, step⟩
  · refine wpAny_passesOwn hp (thn (T.done X rfl rfl rfl hc i pins s3 σ3 H3 X.xe I3 (stat fr3) st3 stop) fun r s4 ⟨hr, I4⟩ => ?_)
    subst hr
    exact wpAny_execs_nil ⟨σ3, H3, I4, qn⟩
  · refine wpAny_passesOwn hp (thn (T.item X rfl rfl rfl hc i pins s3 σ3 H3 X.xe I3 (stat fr3) st3 go) fun r s4 ⟨u, hr, h4⟩ => ?_)
    subst hr
    refine wpAny_passesOwn hp (thn h4 fun _ s5 ⟨x, H5, I5, r5, y5, st5, fr5⟩ => ?_)
    have I5' := I5.pinned (stat fr5) (T.obj _ _ st5)
    refine wpAny_passesOwn hp (thn (hg _ s5 σ3 H5 x u _ I5' r5 (step x H5 y5)) fun _ s6 ⟨σ6, H6, I6, q6⟩ => ?_)
    refine wpAny_passesOwn hp (thn (hb _ s6 σ6 H6 _ I6 q6) fun f s7 q7 => ?_)
    have again : ∀ {σ7 : St} {H7 : Hp}, Inv X (pins ++ pinsAt fp s5.heap) σ7 H7 s7 → N σ7 H7 → ∃ m, m < n ∧ ∃ i σ' H', Inv X pins σ' H' s7 ∧ tn i s7.heap ∧ (∀ b ∈ fp, H' b = none) ∧ W i m σ' H' := fun {σ7 H7} I7 n7 => by
      obtain ⟨m', hm, w7⟩ := hN σ7 H7 n7
      refine ⟨m', hm, i + 1, σ7, H7, I7.unpinned, T.keep _ _ _ st5 fun b hb o e => (I7.pin (b, o) (List.mem_append_right _ (List.mem_append_right _ (mem_pinsAt hb e)))).1, fun b hb => ?_, w7⟩
      obtain ⟨o, e, d⟩ := T.obj _ _ st5 b hb
      exact (I7.pin (b, o) (List.mem_append_right _ (List.mem_append_right _ (mem_pinsAt hb e)))).2.1
    cases f with
    | next => obtain ⟨σ7, H7, I7, n7⟩ := q7; exact again I7 n7
    | cont => obtain ⟨σ7, H7, I7, n7⟩ := q7; exact again I7 n7
    | brk => obtain ⟨σ7, H7, I7, q7⟩ := q7; exact ⟨σ7, H7, I7.unpinned, q7⟩
    | ret v => obtain ⟨x7, σ7, H7, I7, r7, q7⟩ := q7; exact ⟨x7, σ7, H7, I7.unpinned, r7, q7⟩
end
end L2
namespace L2
open PySem PySem.Spec PyProof.Rows
noncomputable abbrev R2 := V → V → Hp → VK → Prop
def OpR (X : Cx) (f : Value → Value → Sem Value) (r : R2) : Prop :=
  ∀ (pins : List (Addr × Obj)) (s : Shared) (σ : St) (H : Hp) (x y : V) (v u : Value) (Q : VK), Inv X pins σ H s → RelV x v → RelV y u → r x y H Q →
    wpAny (model X.prog X.w) X.A (f v u) (EP X pins σ Q) X.xe s
def UnR (X : Cx) (f : Value → Sem Value) (r : V → Hp → VK → Prop) : Prop :=
  ∀ (pins : List (Addr × Obj)) (s : Shared) (σ : St) (H : Hp) (x : V) (v : Value) (Q : VK), Inv X pins σ H s → RelV x v → r x H Q →
    wpAny (model X.prog X.w) X.A (f v) (EP X pins σ Q) X.xe s
def CallR (X : Cx) (f : Value) (r : List V → Hp → VK → Prop) : Prop :=
  ∀ (pins : List (Addr × Obj)) (s : Shared) (σ : St) (H : Hp) (xs : List V) (us : List Value) (Q : VK), Inv X pins σ H s → Vals xs us → r xs H Q →
    wpAny (model X.prog X.w) X.A (call f us) (EP X pins σ Q) X.xe s
def TruR (X : Cx) (r : V → Hp → (Bool → Hp → Prop) → Prop) : Prop :=
  ∀ (pins : List (Addr × Obj)) (s : Shared) (σ : St) (H : Hp) (x : V) (v : Value) (Q : Bool → Hp → Prop), Inv X pins σ H s → RelV x v → r x H Q →
    wpAny (model X.prog X.w) X.A (truthy v) (TP X pins σ Q) X.xe s
def tOp (r : R2) (ta tb : TE) : TE := fun σ H Q => ta σ H fun x H1 => tb σ H1 fun y H2 => r x y H2 Q
def tUn (r : V → Hp → VK → Prop) (ta : TE) : TE := fun σ H Q => ta σ H fun x H1 => r x H1 Q
def rI (C : Int → Int → Prop) (g : Int → Int → V) : R2 := fun x y H Q => ∃ i j, x = .int i ∧ y = .int j ∧ C i j ∧ Q (g i j) H
def rI0 (g : Int → Int → V) : R2 := fun x y H Q => ∃ i j, x = .int i ∧ y = .int j ∧ Q (g i j) H
def rU (g : Int → V) : V → Hp → VK → Prop := fun x H Q => ∃ i, x = .int i ∧ Q (g i) H
section
variable {X : Cx} {a b c : Expr} {ta tb tc : TE} {pos : Pos}
theorem binT (ha : PE X a ta) (hb : PE X b tb) {pins : List (Addr × Obj)} {s : Shared} {σ : St} {H : Hp} {R : V → V → Hp → Prop} (I : Inv X pins σ H s)
    (h : ta σ H fun x H1 => tb σ H1 fun y H2 => R x y H2) {Q : Value → Shared → Prop} {f : Value → Value → Sem Value}
    (hf : ∀ v u s2 x y H2, Inv X pins σ H2 s2 → RelV x v → RelV y u → R x y H2 → wpAny (model X.prog X.w) X.A (f v u) Q X.xe s2) :
    wpAny (model X.prog X.w) X.A (eval a X.env) (fun v s₁ => wpAny (model X.prog X.w) X.A (eval b X.env) (fun u s₂ => wpAny (model X.prog X.w) X.A (f v u) Q X.xe s₂) X.xe s₁) X.xe s := by
  refine thn (ha pins s σ H _ I h) fun v s1 ⟨x, H1, I1, r1, q1⟩ => ?_
  refine thn (hb pins s1 σ H1 _ I1 q1) fun u s2 ⟨y, H2, I2, r2, q2⟩ => ?_
  exact hf v u s2 x y H2 I2 r1 r2 q2
theorem pe_op {op : Operator} {r : R2} (ho : OpR X (binaryOp op) r) (ha : PE X a ta) (hb : PE X b tb) : PE X (.BinOp a op b pos) (tOp r ta tb) := by
  intro pins s σ H Q I h
  exact wpAny_BinOp (binT ha hb I h fun v u s2 x y H2 I2 rx ry q => ho pins s2 σ H2 x y v u Q I2 rx ry q)
theorem pe_un {op : UnaryOp} {r : V → Hp → VK → Prop} (ho : UnR X (unaryOp op) r) (ha : PE X a ta) : PE X (.UnaryOp op a pos) (tUn r ta) := by
  intro pins s σ H Q I h
  exact UnaryOp_ (thn (ha pins s σ H _ I h) fun v s1 z_8 => by obtain ⟨x, H1, I1, r1, q1⟩ := z_8; exact ho pins s1 σ H1 x v Q I1 r1 q1)
theorem opI {f : Value → Value → Sem Value} {C : Int → Int → Prop} {g : Int → Int → Int}
    (rule : ∀ (i j : Int) (t u : Tok) (s : Shared) (Q : Value → Shared → Prop) (E : Value → Shared → Prop), C i j → Q (.int (g i j) s.toks) { s with toks := s.toks + 1 } → wpAny (model X.prog X.w) X.A (f (.int i t) (.int j u)) Q E s) :
    OpR X f (rI C fun i j => .int (g i j)) := by
  intro pins s σ H x y v u Q I rx ry h
  obtain ⟨i, j, rfl, rfl, hc, q⟩ := h
  obtain ⟨t, rfl⟩ := rx
  obtain ⟨t', rfl⟩ := ry
  exact rule i j t t' s _ _ hc ⟨.int (g i j), H, I.tok _, ⟨_, rfl⟩, q⟩
theorem opI0 {f : Value → Value → Sem Value} {g : Int → Int → Int}
    (rule : ∀ (i j : Int) (t u : Tok) (s : Shared) (Q : Value → Shared → Prop) (E : Value → Shared → Prop), Q (.int (g i j) s.toks) { s with toks := s.toks + 1 } → wpAny (model X.prog X.w) X.A (f (.int i t) (.int j u)) Q E s) :
    OpR X f (rI0 fun i j => .int (g i j)) := by
  intro pins s σ H x y v u Q I rx ry h
  obtain ⟨i, j, rfl, rfl, q⟩ := h
  obtain ⟨t, rfl⟩ := rx
  obtain ⟨t', rfl⟩ := ry
  exact rule i j t t' s _ _ ⟨.int (g i j), H, I.tok _, ⟨_, rfl⟩, q⟩
theorem opB0 {f : Value → Value → Sem Value} {g : Int → Int → Bool}
    (rule : ∀ (i j : Int) (t u : Tok) (s : Shared) (Q : Value → Shared → Prop) (E : Value → Shared → Prop), Q (.bool (g i j)) s → wpAny (model X.prog X.w) X.A (f (.int i t) (.int j u)) Q E s) :
    OpR X f (rI0 fun i j => .bl (g i j)) := by
  intro pins s σ H x y v u Q I rx ry h
  obtain ⟨i, j, rfl, rfl, q⟩ := h
  obtain ⟨t, rfl⟩ := rx
  obtain ⟨t', rfl⟩ := ry
  exact rule i j t t' s _ _ ⟨.bl (g i j), H, I, rfl, q⟩
def CDiv (i j : Int) : Prop := 0 < j ∧ j < 1073741824
def CPow (i j : Int) : Prop := 0 ≤ j ∧ j ≤ 1000000 ∧ i.natAbs < 2 ^ 64
def CMul (i j : Int) : Prop := (-(2 ^ 64) < i ∧ i < 2 ^ 64) ∨ (-(2 ^ 64) < j ∧ j < 2 ^ 64)
theorem CMul.ok {i j : Int} (h : CMul i j) : IntMulOk i j := by
  rcases h with ⟨h1, h2⟩ | ⟨h1, h2⟩
  · exact .of_left (intBits_le_64 h1 h2)
  · exact .of_right (intBits_le_64 h1 h2)
theorem op_add : OpR X (binaryOp .Add) (rI0 fun i j => .int (i + j)) := opI0 fun _ _ _ _ _ _ _ q => add_int q
theorem op_sub : OpR X (binaryOp .Sub) (rI0 fun i j => .int (i - j)) := opI0 fun _ _ _ _ _ _ _ q => sub_int q
theorem op_mul : OpR X (binaryOp .Mult) (rI CMul fun i j => .int (i * j)) := opI fun _ _ _ _ _ _ _ hc q => mul_int q hc.ok
theorem op_fdiv : OpR X (binaryOp .FloorDiv) (rI CDiv fun i j => .int (i / j)) := opI fun i j _ _ _ _ _ hc q => by
  have h1 : (0 : Int) < j := hc.1
  have h2 : j < 1073741824 := hc.2
  exact floordiv_int (by omega) (by rw [Int.fdiv_eq_ediv_of_nonneg i (by omega)]; exact q) (.inl (PyProof.noPylong_small (by omega)))
theorem op_mod : OpR X (binaryOp .Mod) (rI (fun _ j => 0 < j) fun i j => .int (i % j)) := opI fun i j _ _ _ _ _ hc q => by
  have h1 : (0 : Int) < j := hc
  exact mod_int' (by omega) (by rw [Int.fmod_eq_emod_of_nonneg i (by omega)]; exact q)
theorem op_pow : OpR X (binaryOp .Pow) (rI CPow fun i j => .int (i ^ j.toNat)) := opI fun _ _ _ _ _ _ _ hc q => pow_int_small hc.1 hc.2.1 hc.2.2 q
theorem unI {f : Value → Sem Value} {g : Int → Int}
    (rule : ∀ (i : Int) (t : Tok) (s : Shared) (Q : Value → Shared → Prop) (E : Value → Shared → Prop), Q (.int (g i) s.toks) { s with toks := s.toks + 1 } → wpAny (model X.prog X.w) X.A (f (.int i t)) Q E s) :
    UnR X f (rU fun i => .int (g i)) := by
  intro pins s σ H x v Q I rx h
  obtain ⟨i, rfl, q⟩ := h
  obtain ⟨t, rfl⟩ := rx
  exact rule i t s _ _ ⟨.int (g i), H, I.tok _, ⟨_, rfl⟩, q⟩
theorem un_neg : UnR X (unaryOp .USub) (rU fun i => .int (-i)) := unI fun _ _ _ _ _ q => neg_int q
end
noncomputable def scal : V → V → Bool
  | .non, .non => true | .non, .int _ => true | .int _, .non => true | .non, .bl _ => true | .bl _, .non => true | .non, .str _ => true | .str _, .non => true
  | .int _, .int _ => true | .bl _, .bl _ => true | .str _, .str _ => true | .byt _, .byt _ => true
  | .int _, .str _ => true | .str _, .int _ => true | .bl _, .str _ => true | .str _, .bl _ => true
  | _, _ => false
def rEq : R2 := fun x y H Q => scal x y = true ∧ Q (.bl (decide (x = y))) H
def rNe : R2 := fun x y H Q => scal x y = true ∧ Q (.bl (!decide (x = y))) H
theorem dec_int {i j : Int} : decide (V.int i = V.int j) = (i == j) := by
  rw [Bool.eq_iff_iff]
  simp
theorem dec_bl {i j : Bool} : decide (V.bl i = V.bl j) = (i == j) := by
  rw [Bool.eq_iff_iff]
  simp
theorem dec_str {i j : Str} : decide (V.str i = V.str j) = (i == j) := by
  rw [Bool.eq_iff_iff]
  simp
theorem dec_byt {i j : Array UInt8} : decide (V.byt i = V.byt j) = (i.toList == j.toList) := by
  rw [Bool.eq_iff_iff]
  cases i
  cases j
  simp
section
variable {X : Cx} {a b c : Expr} {ta tb tc : TE} {pos : Pos}
theorem fin_bl {pins : List (Addr × Obj)} {σ : St} {H : Hp} {s : Shared} {Q : VK} {k k' : Bool} (I : Inv X pins σ H s) (q : Q (.bl k) H) (e : k = k') : EP X pins σ Q (.bool k') s := by
  subst e
  exact ⟨.bl k, H, I, rfl, q⟩
theorem op_eq : OpR X (compareOp .Eq) rEq := by
  intro pins s σ H x y v u Q I rx ry h
  obtain ⟨hs, q⟩ := h
  cases x with
  | non =>
    cases rx
    cases y with
    | non => cases ry; exact PySem.EqNone.eq_none_none (fin_bl I q (by simp))
    | bl j => cases ry; exact PySem.EqNone.eq_none_bool (fin_bl I q (by simp))
    | int j => obtain ⟨t', rfl⟩ := ry; exact PySem.EqNone.eq_none_int (fin_bl I q (by simp))
    | str j => obtain ⟨t', rfl⟩ := ry; exact PySem.EqNone.eq_none_str (fin_bl I q (by simp))
    | _ => exact absurd (show false = true from hs) Bool.false_ne_true
  | bl i =>
    cases rx
    cases y with
    | non => cases ry; exact PySem.EqNone.eq_bool_none (fin_bl I q (by simp))
    | bl j => cases ry; exact eq_bool (fin_bl I q dec_bl)
    | str j => obtain ⟨t', rfl⟩ := ry; exact PySem.EqMixed.eq_bool_str (fin_bl I q (by simp))
    | _ => exact absurd (show false = true from hs) Bool.false_ne_true
  | int i =>
    obtain ⟨t, rfl⟩ := rx
    cases y with
    | non => cases ry; exact PySem.EqNone.eq_int_none (fin_bl I q (by simp))
    | int j => obtain ⟨t', rfl⟩ := ry; exact eq_int (fin_bl I q dec_int)
    | str j => obtain ⟨t', rfl⟩ := ry; exact PySem.EqMixed.eq_int_str (fin_bl I q (by simp))
    | _ => exact absurd (show false = true from hs) Bool.false_ne_true
  | str i =>
    obtain ⟨t, rfl⟩ := rx
    cases y with
    | non => cases ry; exact PySem.EqNone.eq_str_none (fin_bl I q (by simp))
    | bl j => cases ry; exact PySem.EqMixed.eq_str_bool (fin_bl I q (by simp))
    | int j => obtain ⟨t', rfl⟩ := ry; exact PySem.EqMixed.eq_str_int (fin_bl I q (by simp))
    | str j => obtain ⟨t', rfl⟩ := ry; exact eq_str (fin_bl I q dec_str)
    | _ => exact absurd (show false = true from hs) Bool.false_ne_true
  | byt i =>
    obtain ⟨t, rfl⟩ := rx
    cases y with
    | byt j => obtain ⟨t', rfl⟩ := ry; exact PySem.W.eq_bytes (fin_bl I q dec_byt)
    | _ => exact absurd (show false = true from hs) Bool.false_ne_true
  | _ => cases y <;> exact absurd (show false = true from hs) Bool.false_ne_true
theorem op_ne : OpR X (compareOp .NotEq) rNe := by
  intro pins s σ H x y v u Q I rx ry h
  obtain ⟨hs, q⟩ := h
  cases x with
  | non =>
    cases rx
    cases y with
    | non => cases ry; exact PySem.EqNone.ne_none_none (fin_bl I q (by simp))
    | bl j => cases ry; exact PySem.EqNone.ne_none_bool (fin_bl I q (by simp))
    | int j => obtain ⟨t', rfl⟩ := ry; exact PySem.EqNone.ne_none_int (fin_bl I q (by simp))
    | str j => obtain ⟨t', rfl⟩ := ry; exact PySem.EqNone.ne_none_str (fin_bl I q (by simp))
    | _ => exact absurd (show false = true from hs) Bool.false_ne_true
  | bl i =>
    cases rx
    cases y with
    | non => cases ry; exact PySem.EqNone.ne_bool_none (fin_bl I q (by simp))
    | bl j => cases ry; exact ne_bool (fin_bl I q (congrArg not dec_bl))
    | str j => obtain ⟨t', rfl⟩ := ry; exact PySem.EqMixed.ne_bool_str (fin_bl I q (by simp))
    | _ => exact absurd (show false = true from hs) Bool.false_ne_true
  | int i =>
    obtain ⟨t, rfl⟩ := rx
    cases y with
    | non => cases ry; exact PySem.EqNone.ne_int_none (fin_bl I q (by simp))
    | int j => obtain ⟨t', rfl⟩ := ry; exact ne_int (fin_bl I q (congrArg not dec_int))
    | str j => obtain ⟨t', rfl⟩ := ry; exact PySem.EqMixed.ne_int_str (fin_bl I q (by simp))
    | _ => exact absurd (show false = true from hs) Bool.false_ne_true
  | str i =>
    obtain ⟨t, rfl⟩ := rx
    cases y with
    | non => cases ry; exact PySem.EqNone.ne_str_none (fin_bl I q (by simp))
    | bl j => cases ry; exact PySem.EqMixed.ne_str_bool (fin_bl I q (by simp))
    | int j => obtain ⟨t', rfl⟩ := ry; exact PySem.EqMixed.ne_str_int (fin_bl I q (by simp))
    | str j => obtain ⟨t', rfl⟩ := ry; exact ne_str (fin_bl I q (congrArg not dec_str))
    | _ => exact absurd (show false = true from hs) Bool.false_ne_true
  | byt i =>
    obtain ⟨t, rfl⟩ := rx
    cases y with
    | byt j => obtain ⟨t', rfl⟩ := ry; exact PySem.W.ne_bytes (fin_bl I q (congrArg not dec_byt))
    | _ => exact absurd (show false = true from hs) Bool.false_ne_true
  | _ => cases y <;> exact absurd (show false = true from hs) Bool.false_ne_true
theorem op_lt : OpR X (compareOp .Lt) (rI0 fun i j => .bl (decide (i < j))) := opB0 fun _ _ _ _ _ _ _ q => lt_int q
theorem op_gt : OpR X (compareOp .Gt) (rI0 fun i j => .bl (decide (j < i))) := opB0 fun _ _ _ _ _ _ _ q => gt_int q
theorem nomark (b : Expr) {op : CmpOp} (h : op ≠ .In := by decide) (h2 : op ≠ .NotIn := by decide) : behindInMarks op b = false := by
  have e1 : (op == CmpOp.In) = false := by cases op <;> first | rfl | exact absurd rfl h
  have e2 : (op == CmpOp.NotIn) = false := by cases op <;> first | rfl | exact absurd rfl h2
  cases b <;> simp [behindInMarks, e1, e2]
theorem pe_cmpR {op : CmpOp} {r : R2} (ho : OpR X (compareOp op) r) (ha : PE X a ta) (hb : PE X b tb) (hm : behindInMarks op b = false) : PE X (.Compare a [op] [b] pos) (tOp r ta tb) := by
  intro pins s σ H Q I h
  exact wpAny_Compare1 (binT ha hb I h fun v u s2 x y H2 I2 rx ry q => ho pins s2 σ H2 x y v u Q I2 rx ry q) hm
def tTest (t : TE) : TT := fun σ H Q => t σ H fun x H' => ∃ k, x = .bl k ∧ Q k H'
theorem pt_cmpR {op : CmpOp} {r : R2} (ho : OpR X (compareOp op) r) (ha : PE X a ta) (hb : PE X b tb) (hm : behindInMarks op b = false) : PT X (.Compare a [op] [b] pos) (tTest (tOp r ta tb)) := by
  intro pins s σ H Q I h
  refine wpAny_isTrue_Compare1 (thn (ha pins s σ H _ I h) fun v s1 ⟨x, H1, I1, r1, q1⟩ => thn (hb pins s1 σ H1 _ I1 q1) fun u s2 ⟨y, H2, I2, r2, q2⟩ =>
    thn (ho pins s2 σ H2 x y v u _ I2 r1 r2 q2) fun c s3 ⟨z, H3, I3, r3, k, e, q3⟩ => ?_) hm
  subst e
  cases r3
  exact wpAny_truthy_bool ⟨H3, I3, q3⟩
def tChain (r r' : R2) (ta tb tc : TE) : TE := fun σ H Q => ta σ H fun x H1 => tb σ H1 fun y H2 => r x y H2 fun z H3 => ∃ k, z = .bl k ∧
  (if k = true then tc σ H3 fun w' H4 => r' y w' H4 Q else Q (.bl false) H3)
theorem pe_chain {op op' : CmpOp} {r r' : R2} (ho : OpR X (compareOp op) r) (ho' : OpR X (compareOp op') r') (ha : PE X a ta) (hb : PE X b tb) (hc : PE X c tc)
    (hm : lastMarks [op, op'] [b, c] = false := by with_unfolding_all rfl) : PE X (.Compare a [op, op'] [b, c] pos) (tChain r r' ta tb tc) := by
  intro pins s σ H Q I h
  refine Compare_chain (thn (ha pins s σ H _ I h) fun v s1 ⟨x, H1, I1, r1, q1⟩ => chain_link (thn (hb pins s1 σ H1 _ I1 q1) fun u s2 ⟨y, H2, I2, r2, q2⟩ =>
    thn (ho pins s2 σ H2 x y v u _ I2 r1 r2 q2) fun d s3 ⟨z, H3, I3, r3, k, e, q3⟩ => ?_)) hm
  subst e
  cases r3
  refine wpAny_truthy_bool ?_
  cases k with
  | false => exact ite_ff ⟨.bl false, H3, I3, rfl, q3⟩
  | true => exact ite_tt (chain_last (thn (hc pins s3 σ H3 _ I3 q3) fun w' s4 z_9 => by obtain ⟨z', H4, I4, r4, q4⟩ := z_9; exact ho' pins s4 σ H4 y z' u w' Q I4 r2 r4 q4))
def TruV (K : PySem.W.Frag) (x : V) (H : Hp) (k : Bool) : Prop :=
  match x with
  | .non => k = false
  | .bl b => k = b
  | .int i => k = (i != 0)
  | .str y => y.length ≤ sizeLine ∧ k = ((y.length : Int) != 0)
  | .byt y => y.size ≤ sizeLine ∧ k = ((y.size : Int) != 0)
  | .ref p => (∃ xs, SqL K H p xs ∧ k = !xs.isEmpty) ∨ (∃ xs, SqT K H p xs ∧ k = !xs.isEmpty) ∨ ∃ kvs, H p = some (.dK kvs) ∧ k = !kvs.isEmpty
  | _ => False
theorem isEmpty_kv {κ : Type} {kvs : List (κ × V)} {vs : List (κ × Value)} (r : KV kvs vs) : (!vs.isEmpty) = !kvs.isEmpty := by
  cases r <;> rfl
theorem isEmpty_of {xs : List V} {its : List Value} (r : Vals xs its) : (!its.toArray.isEmpty) = !xs.isEmpty := by
  cases r <;> simp
theorem line63 : (sizeLine : Nat) < 2 ^ 63 := by rw [sizeLine_eq]; decide
theorem tru_ok : TruR X (fun x H Q => ∃ k, TruV X.K x H k ∧ Q k H) := by
  intro pins s σ H x v Q I rx h
  obtain ⟨k, e, q⟩ := h
  have hl := line63
  have hs : sizeLine = 16777216 := sizeLine_eq
  cases x with
  | non =>
    cases rx
    have e' : k = false := e
    subst e'
    exact truthy_none ⟨H, I, q⟩
  | bl b =>
    cases rx
    have e' : k = b := e
    subst e'
    exact wpAny_truthy_bool ⟨H, I, q⟩
  | int i =>
    obtain ⟨t, rfl⟩ := rx
    have e' : k = (i != 0) := e
    subst e'
    exact PySem.P.truthy_int ⟨H, I, q⟩
  | str y =>
    obtain ⟨t, rfl⟩ := rx
    obtain ⟨hy, e'⟩ : y.length ≤ sizeLine ∧ k = ((y.length : Int) != 0) := e
    subst e'
    exact PySem.P.truthy_str (by omega) ⟨H, I.tok _, q⟩
  | byt y =>
    obtain ⟨t, rfl⟩ := rx
    obtain ⟨hy, e'⟩ : y.size ≤ sizeLine ∧ k = ((y.size : Int) != 0) := e
    subst e'
    exact PySem.W.truthy_bytes (by omega) ⟨H, I.tok _, q⟩
  | ref p =>
    cases rx
    have e' : (∃ xs, SqL X.K H p xs ∧ k = !xs.isEmpty) ∨ (∃ xs, SqT X.K H p xs ∧ k = !xs.isEmpty) ∨ ∃ kvs, H p = some (.dK kvs) ∧ k = !kvs.isEmpty := e
    rcases e' with ⟨xs, hx, e'⟩ | ⟨xs, hx, e'⟩ | ⟨kvs, hx, e'⟩
    · subst e'
      obtain ⟨its, r, pl, hz⟩ := I.list hx
      have hlen := r.length
      exact wpAny_truthy_list pl.isList (by simp only [List.size_toArray]; omega) ⟨H, I.tok _, by rw [isEmpty_of r]; exact q⟩
    · subst e'
      obtain ⟨its, r, pl, hz⟩ := I.tuple hx
      have hlen := r.length
      exact truthy_tuple pl (by simp only [List.size_toArray]; omega) ⟨H, I.tok _, by rw [isEmpty_of r]; exact q⟩
    · subst e'
      obtain ⟨hz, hS, vs, r, m⟩ : kvs.length ≤ sizeLine ∧ (p == sysModules) = false ∧ ∃ vs, KV kvs vs ∧ s.heap.DictOf (mixKind X.prog X.w) p vs := I.hok p _ hx
      have hlen : kvs.length = vs.length := Paired.length r
      exact wpAny_truthy_dict hS m (by omega) ⟨H, I.tok _, by rw [isEmpty_kv r]; exact q⟩
  | _ => exact (show False from e).elim
theorem pt_truth (ha : PE X a ta) (he : ∀ whole, isTrue a X.env whole = (do let v ← whole; standAt a.pos; holding [v] (truthy v))) :
    PT X a (fun σ H Q => ta σ H fun x H' => ∃ k, TruV X.K x H' k ∧ Q k H') := by
  intro pins s σ H Q I h
  exact isTrue_plain (thn (ha pins s σ H _ I h) fun v s1 z_10 => by obtain ⟨x, H1, I1, r1, q1⟩ := z_10; exact tru_ok pins s1 σ H1 x v Q I1 r1 q1) (he _)
theorem op_add_str : OpR X (binaryOp .Add) (fun x y H Q => ∃ i j, x = .str i ∧ y = .str j ∧ i.length + j.length ≤ sizeLine ∧ Q (.str (i ++ j)) H) := by
  intro pins s σ H x y v u Q I rx ry h
  obtain ⟨i, j, rfl, rfl, hz, q⟩ := h
  obtain ⟨t, rfl⟩ := rx
  obtain ⟨t', rfl⟩ := ry
  exact add_str (fun t' tk => ⟨.str (i ++ j), H, I.tok _, ⟨_, rfl⟩, q⟩) hz
theorem vals1 {x : V} {us : List Value} (r : Vals [x] us) : ∃ u, us = [u] ∧ RelV x u := by
  cases r with
  | cons r1 r2 => cases r2; exact ⟨_, rfl, r1⟩
theorem vals2 {x y : V} {us : List Value} (r : Vals [x, y] us) : ∃ u w', us = [u, w'] ∧ RelV x u ∧ RelV y w' := by
  cases r with
  | cons r1 r2 =>
    cases r2 with
    | cons r3 r4 => cases r4; exact ⟨_, _, rfl, r1, r3⟩
end
end L2
namespace L2
open PySem PySem.Spec PyProof.Rows
structure ObjM (h : Heap) (x dx C : Addr) (mA : Str → Option Value) : Prop where
  obj : h.get? x = some (PySem.W.instObj C dx)
  ns : h.Ns1 dx mA
  ne : dx ≠ x
theorem lookIn_ns {h : Heap} {dx : Addr} {mA : Str → Option Value} (n : h.Ns1 dx mA) : ∃ od, h.get? dx = some od ∧ ∀ name, PySem.W.lookIn name od = some (mA name) := by
  obtain ⟨o, es, ep, ho, hd, hk, _, hm⟩ := n
  refine ⟨o, ho, fun name => ?_⟩
  have e := hm name
  unfold nsFind findBy at e
  rw [← Array.find?_toList] at e
  unfold PySem.W.lookIn
  rw [hd]
  dsimp only
  split
  · rename_i y q
    rw [q] at e
    exact congrArg some e
  · rename_i q
    rw [q] at e
    have a : es.toList.any (·.refKey) = false := by
      rw [List.any_eq_false]
      intro y hy
      obtain ⟨z, t, hkey⟩ := hk y (Array.mem_toList_iff.mp hy)
      simp [DictEntry.refKey, hkey]
    have a' : ¬ es.toList.any (·.refKey) = true := by rw [a]; exact Bool.false_ne_true
    rw [if_neg a']
    exact congrArg some e
theorem ObjM.look {h : Heap} {x dx C : Addr} {mA : Str → Option Value} (I : ObjM h x dx C mA) : ∃ od, PySem.W.InstAt h x (PySem.W.instObj C dx) C (some od) ∧ ∀ name, PySem.W.lookIn name od = some (mA name) :=
  let ⟨od, ho, hl⟩ := lookIn_ns I.ns
  ⟨od, ⟨I.obj, rfl, rfl, ho⟩, hl⟩
section
variable {prog : Program} {w : World} {A : Around} {E : Value → Shared → Prop} {s : Shared} {K : PySem.W.Frag} {x dx C f : Addr} {mA : Str → Option Value} {name : Str} {v : Value}
theorem get_map {expr : Bool} {Q : Value → Shared → Prop} (X : K.In s.heap) (I : ObjM s.heap x dx C mA) (hg : PySem.W.plainGet K C name = true) (hh : PySem.W.hasDictIn K C = true)
    (ha : PySem.W.findIn K (.ref C) name = some none) (hv : mA name = some v) (hv' : PySem.W.handedIn v = true) (h : Q v { s with toks := s.toks + 1 }) :
    wpAny (model prog w) A (getAttr (.ref x) name expr) Q E s := by
  obtain ⟨od, J, hl⟩ := I.look
  exact PySem.W.get_value X J (PySem.W.plainGet_of hg).1 (PySem.W.findObj_own hh ha rfl (by rw [hl, hv])) hv' h
theorem get_meth {pl : Sem Bool} {Q : Value × List Value → Shared → Prop} (X : K.In s.heap) (I : ObjM s.heap x dx C mA) (hg : PySem.W.plainGet K C name = true)
    (hf : PySem.W.findIn K (.ref C) name = some (some (.ref f))) (ht : PySem.W.isFn K (.ref f) = true) (hv : mA name = none) (h : Q (.ref f, [.ref x]) s) :
    wpAny (model prog w) A (getMethod (.ref x) name pl) Q E s := by
  obtain ⟨od, J, hl⟩ := I.look
  exact PySem.W.method_fn X J (PySem.W.plainGet_of hg).1 (PySem.W.plainGet_of hg).2 hf (beq_iff_eq.mp ht) (by show (PySem.W.lookIn name od).map (·.isSome) = some false; rw [hl, hv]; rfl) h
theorem set_map {ns : List Str} {Q : Unit → Shared → Prop} (X : K.In s.heap) (I : ObjM s.heap x dx C mA)
    (hs : PySem.W.findIn K (.ref C) "__setattr__" = some (some (.builtin "object.__setattr__"))) (hp : PySem.W.plainOver K C = true) (ht : PySem.W.takerIn K C name = some none) (hh : PySem.W.hasDictIn K C = true)
    (hw : PySem.Within mA ns) (hsz : ns.length ≤ sizeLine)
    (h : ∀ h', ObjM h' x dx C (fun y => if y = name then some v else mA y) → Heap.SameBut dx s.heap h' → Q () { s with heap := h', toks := s.toks + 2 }) :
    wpAny (model prog w) A (setAttr (.ref x) name v) Q E s := by
  obtain ⟨od, J, hl⟩ := I.look
  refine PySem.W.set_plain X J hs (PySem.W.osa_open (s := { s with toks := s.toks + 1 }) (r := none) X J hp ht fun b => ?_)
  obtain ⟨cd, hc, hd'⟩ := PySem.W.any_some hh
  have hx : s.heap.get? x = some ⟨.ref C, some dx, .plain, #[]⟩ := I.obj
  refine wpAny_bind (wpAny_pure (wpAny_bind (wpAny_bind (wpAny_loadPart hx (wpAny_bind (PySem.W.Looks.here (s := { s with toks := s.toks + 1 }) (PySem.W.looks_clsIn X hc) ?_))))))
  rw [hd']
  refine wpAny_pure (a := some dx) (wpAny_bind (wpAny_pure (wpAny_bind ?_)))
  refine wpAny_nsSet1 (s := { s with toks := s.toks + 1 }) I.ns fun h' hn2 hs2 => ?_
  obtain ⟨oD, esD, epD, hoD, hdD, hcD⟩ := hn2.count (PySem.Within.cons name v hw)
  refine wpAny_bind (wpAny_lookBehind hoD (by rw [hdD]; exact pastItsLine_dict (Nat.le_trans hcD (by rw [List.length_cons]; omega))) ?_)
  exact wpAny_pure (h _ ⟨(hs2.2 _ (Ne.symm I.ne)).trans I.obj, hn2, I.ne⟩ hs2)
theorem make_map {R : Result → Shared → Prop} {vs : List Value} {kw : List (Str × Value)} (X : K.In s.heap) (hm : PySem.W.makesIn K C = true)
    (hi : PySem.W.findIn K (.ref C) "__init__" = some (some (.ref f))) (hf : PySem.W.typeIn K (.ref f) = some (.type "function"))
    (h : codeAny (model prog w) (A.under (.builtin "type.__call__" ⟨.ref C :: vs, kw⟩)) (.call (.ref f) ⟨.ref (s.heap.objs.size + 1) :: vs, kw⟩) (PySem.W.InitBack (s.heap.objs.size + 1) R)
      { s with heap := (s.heap.push PySem.W.emptyDict).push (PySem.W.instObj C s.heap.objs.size) }) :
    codeAny (model prog w) A (.call (.ref C) ⟨vs, kw⟩) R s := by
  obtain ⟨hh, g, d, t, os⟩ := s
  exact PySem.W.make_core (PySem.W.makes_of X hm) (PySem.W.looks_findIn X hi) (fun self => PySem.W.bind_fn X self hf) (.inl rfl) h
end
noncomputable def putF (f : Str) (v : V) : List (Str × V) → List (Str × V)
  | [] => [(f, v)]
  | (g, x) :: r => if g = f then (g, v) :: r else (g, x) :: putF f v r
theorem lookup_putF (f g : Str) (v : V) : ∀ fs : List (Str × V), (putF f v fs).lookup g = if g = f then some v else fs.lookup g
  | [] => by
    show List.lookup g [(f, v)] = _
    by_cases h : g = f
    · have hb : (g == f) = true := beq_iff_eq.mpr h
      simp only [List.lookup, hb, if_pos h]
    · have hb : (g == f) = false := beq_eq_false_iff_ne.mpr h
      simp only [List.lookup, hb, if_neg h]
  | (k, x) :: r => by
    have ih := lookup_putF f g v r
    rw [show putF f v ((k, x) :: r) = (if k = f then (k, v) :: r else (k, x) :: putF f v r) from rfl]
    by_cases hk : k = f
    · rw [if_pos hk]
      by_cases h : g = k
      · have hb : (g == k) = true := beq_iff_eq.mpr h
        simp only [List.lookup, hb, if_pos (h.trans hk)]
      · have hb : (g == k) = false := beq_eq_false_iff_ne.mpr h
        simp only [List.lookup, hb, if_neg (fun e : g = f => h (e.trans hk.symm))]
    · rw [if_neg hk]
      by_cases h : g = k
      · have hb : (g == k) = true := beq_iff_eq.mpr h
        simp only [List.lookup, hb, if_neg (fun e : g = f => hk (h.symm.trans e))]
      · have hb : (g == k) = false := beq_eq_false_iff_ne.mpr h
        simp only [List.lookup, hb]
        exact ih
theorem keys_putF (f : Str) (v : V) : ∀ fs : List (Str × V), f ∈ (putF f v fs).map (·.1) ∧ ∀ g, g ∈ fs.map (·.1) → g ∈ (putF f v fs).map (·.1)
  | [] => ⟨by simp [putF], fun g h => by simp at h⟩
  | (k, x) :: r => by
    obtain ⟨i1, i2⟩ := keys_putF f v r
    rw [show putF f v ((k, x) :: r) = (if k = f then (k, v) :: r else (k, x) :: putF f v r) from rfl]
    by_cases hk : k = f
    · rw [if_pos hk]
      subst hk
      exact ⟨by simp, fun g h => by simpa using h⟩
    · rw [if_neg hk]
      refine ⟨?_, fun g h => ?_⟩
      · rw [List.map_cons]
        exact List.mem_cons_of_mem _ i1
      · rw [List.map_cons] at h ⊢
        rcases List.mem_cons.mp h with e | e
        · exact List.mem_cons.mpr (.inl e)
        · exact List.mem_cons_of_mem _ (i2 g e)
theorem length_putF (f : Str) (v : V) : ∀ fs : List (Str × V), (putF f v fs).length ≤ fs.length + 1
  | [] => by simp [putF]
  | (k, x) :: r => by
    have ih := length_putF f v r
    rw [show putF f v ((k, x) :: r) = (if k = f then (k, v) :: r else (k, x) :: putF f v r) from rfl]
    by_cases hk : k = f
    · rw [if_pos hk, List.length_cons, List.length_cons]; omega
    · rw [if_neg hk, List.length_cons, List.length_cons]; omega
theorem RelO.some_of {v : V} {o : Option Value} (r : RelO (some v) o) : ∃ u, o = some u ∧ RelV v u := by
  cases o with
  | none => exact (show False from r).elim
  | some u => exact ⟨u, rfl, r⟩
theorem RelO.none_of {o : Option Value} (r : RelO none o) : o = none := by
  cases o with
  | none => rfl
  | some u => exact (show False from r).elim
theorem handed_of {v : V} {u : Value} (r : RelV v u) : PySem.W.handedIn u = true := by
  cases v with
  | non => cases (show u = Value.none from r); rfl
  | bl b => cases (show u = Value.bool b from r); rfl
  | int i => obtain ⟨t, e⟩ := (show ∃ t, u = Value.int i t from r); cases e; rfl
  | str x => obtain ⟨t, e⟩ := (show ∃ t, u = Value.str x t from r); cases e; rfl
  | byt b => obtain ⟨t, e⟩ := (show ∃ t, u = Value.bytes b t from r); cases e; rfl
  | flt b => obtain ⟨t, e⟩ := (show ∃ t, u = Value.float b t from r); cases e; rfl
  | ref a => cases (show u = Value.ref a from r); rfl
  | ty n => cases (show u = Value.type n from r); rfl
section
variable {P : Program} {w : World} {H H' : Hp} {h h' : Heap} {a C dx : Addr} {fs fs' : List (Str × V)}
theorem ins_get (hok : HOk P w H h) (e : H a = some (.ins C dx fs)) : ∃ mA, ObjM h a dx C mA ∧ (∀ f, RelO (fs.lookup f) (mA f)) ∧ PySem.Within mA (fs.map (·.1)) ∧ fs.length ≤ 1000 ∧ H dx = some (.own a) := by
  obtain ⟨d, z, ne, ob, mA, n, r, q⟩ := (show ObjOk P w H h a (.ins C dx fs) from hok a _ e)
  exact ⟨mA, ⟨ob, n, ne⟩, r, q, z, d⟩
end
structure Cls (K : PySem.W.Frag) (C : Addr) : Prop where
  pg : PySem.W.plainGet K C Str.empty = true
  hd : PySem.W.hasDictIn K C = true
  po : PySem.W.plainOver K C = true
  sa : PySem.W.findIn K (.ref C) "__setattr__" = some (some (.builtin "object.__setattr__"))
theorem Cls.get {K : PySem.W.Frag} {C : Addr} (c : Cls K C) (f : Str) : PySem.W.plainGet K C f = true := c.pg
def NoAttr (K : PySem.W.Frag) (C : Addr) (f : Str) : Prop := PySem.W.findIn K (.ref C) f = some none
theorem NoAttr.taker {K : PySem.W.Frag} {C : Addr} {f : Str} (n : NoAttr K C f) : PySem.W.takerIn K C f = some none := by
  unfold PySem.W.takerIn
  rw [show PySem.W.findIn K (.ref C) f = some none from n]
  rfl
structure Meth (K : PySem.W.Frag) (C : Addr) (m : Str) (f : Addr) : Prop where
  at_ : PySem.W.findIn K (.ref C) m = some (some (.ref f))
  fn : PySem.W.isFn K (.ref f) = true
  kp : PySem.W.keepIn K (.ref f) = true
section
variable {X : Cx} {pins : List (Addr × Obj)} {σ : St} {H : Hp} {s : Shared} {a C dx : Addr} {fs : List (Str × V)} {f : Str} {v : V} {A : Around} {E : Value → Shared → Prop}
theorem getattr_ok {b : Bool} {Q : Value → Shared → Prop} (I : Inv X pins σ H s) (e : H a = some (.ins C dx fs)) (c : Cls X.K C) (n : NoAttr X.K C f) (l : fs.lookup f = some v)
    (h : ∀ u s', Inv X pins σ H s' → RelV v u → Q u s') : wpAny (model X.prog X.w) A (getAttr (.ref a) f b) Q E s := by
  obtain ⟨mA, O, r, _, _, _⟩ := ins_get I.hok e
  obtain ⟨u, hu, ru⟩ := RelO.some_of (v := v) (o := mA f) (by rw [← l]; exact r f)
  exact get_map I.kIn O (c.get f) c.hd n hu (handed_of ru) (h u _ (I.tok _) ru)
theorem getmeth_ok {m : Str} {g : Addr} {pl : Sem Bool} {Q : Value × List Value → Shared → Prop} (I : Inv X pins σ H s) (e : H a = some (.ins C dx fs)) (c : Cls X.K C) (k : Meth X.K C m g) (l : fs.lookup m = none)
    (h : Q (.ref g, [.ref a]) s) : wpAny (model X.prog X.w) A (getMethod (.ref a) m pl) Q E s := by
  obtain ⟨mA, O, r, _, _, _⟩ := ins_get I.hok e
  have hn : mA m = none := RelO.none_of (by rw [← l]; exact r m)
  exact get_meth I.kIn O (c.get m) k.at_ k.fn hn h
theorem setattr_ok {y : V} {u : Value} {Q : Unit → Shared → Prop} (I : Inv X pins σ H s) (e : H a = some (.ins C dx fs)) (c : Cls X.K C) (n : NoAttr X.K C f) (hl : fs.length < 1000) (ry : RelV y u)
    (h : ∀ s', Inv X pins σ (upd H a (.ins C dx (putF f y fs))) s' → Q () s') : wpAny (model X.prog X.w) A (setAttr (.ref a) f u) Q E s := by
  obtain ⟨mA, O, r, wi, _, ho⟩ := ins_get I.hok e
  have hz : (fs.map (·.1)).length ≤ sizeLine := by rw [List.length_map, sizeLine_eq]; omega
  refine set_map I.kIn O c.sa c.po n.taker c.hd wi hz fun h' O' sb => h _ ?_
  have hd : ∃ o, h'.get? dx = some o := let ⟨o, _, _, e', _⟩ := O'.ns; ⟨o, e'⟩
  refine I.write (x := a) (e := dx) (by rw [e]; exact True.intro) (.inr ho) (fun b q hb z => (sb.2 b hb).trans z) hd ?_
  refine ⟨by rw [upd_ne O.ne]; exact ho, ?_, O.ne, O'.obj, _, O'.ns, fun g => ?_, fun g hg => ?_⟩
  · have := length_putF f y fs; omega
  · show RelO ((putF f y fs).lookup g) (if g = f then some u else mA g)
    rw [lookup_putF]
    by_cases q : g = f
    · rw [if_pos q, if_pos q]; exact ry
    · rw [if_neg q, if_neg q]; exact r g
  · by_cases q : g = f
    · rw [q]; exact (keys_putF f y fs).1
    · refine (keys_putF f y fs).2 g (wi g fun z => hg ?_)
      show (if g = f then some u else mA g) = none
      rw [if_neg q]; exact z
theorem Inv.made (I : Inv X pins σ H s) : Inv X pins σ (upd (upd H s.heap.objs.size (.own (s.heap.objs.size + 1))) (s.heap.objs.size + 1) (.ins C s.heap.objs.size []))
    { s with heap := (s.heap.push PySem.W.emptyDict).push (PySem.W.instObj C s.heap.objs.size) } := by
  have e1 : (s.heap.push PySem.W.emptyDict).get? s.heap.objs.size = some PySem.W.emptyDict := Heap.get?_push_size s.heap rfl
  have e2 : ((s.heap.push PySem.W.emptyDict).push (PySem.W.instObj C s.heap.objs.size)).get? (s.heap.objs.size + 1) = some (PySem.W.instObj C s.heap.objs.size) := by
    have := Heap.get?_push_size (s.heap.push PySem.W.emptyDict) (o := PySem.W.instObj C s.heap.objs.size) rfl
    rwa [Heap.size_push] at this
  have e3 : (s.heap.push PySem.W.emptyDict).Ns s.heap.objs.size (fun _ => none) := ⟨PySem.W.emptyDict, #[], _, e1, rfl, (fun e he => absurd he (by simp)), fun _ => rfl⟩
  have I1 := I.laid (a := s.heap.objs.size) (o := .own (s.heap.objs.size + 1)) (h' := s.heap.push PySem.W.emptyDict) (t' := s.toks) (fun b u q => Heap.get?_push_of_some _ q) (Nat.le_refl _) ⟨_, e1⟩
  refine I1.laid (a := s.heap.objs.size + 1) (o := .ins C s.heap.objs.size []) (t' := s.toks) (fun b u q => Heap.get?_push_of_some _ q) (Nat.le_of_eq (Heap.size_push _ _)) ?_
  have ne : s.heap.objs.size ≠ s.heap.objs.size + 1 := Nat.ne_of_lt (Nat.lt_succ_self _)
  refine ⟨by rw [upd_ne ne, upd_same], Nat.zero_le _, ne, e2, fun _ => none, (Heap.Ns1.of_empty e3).at fun o q => Heap.get?_push_of_some _ q, fun _ => True.intro, fun y hy => absurd rfl hy⟩
theorem attr_of {prog : Program} {w : World} {env : Env} {e : Expr} {f : Str} {pos : Pos} {s : Shared} {Q : Value → Shared → Prop} (hb : attributeBase e f env (eval e env) = eval e env)
    (h : wpAny (model prog w) A (eval e env) (fun o s₁ => wpAny (model prog w) A (getAttr o f true) Q E s₁) E s) : wpAny (model prog w) A (eval (.Attribute e f pos) env) Q E s :=
  Attribute_any_ h (by rw [arm_eval_Attribute, hb])
end
def tFld (K : PySem.W.Frag) (ta : TE) (f : Str) : TE := fun σ H Q => ta σ H fun x H1 => ∃ a C dx fs v, x = .ref a ∧ H1 a = some (.ins C dx fs) ∧ Cls K C ∧ NoAttr K C f ∧ fs.lookup f = some v ∧ Q v H1
def sFld (K : PySem.W.Frag) (ta tv : TE) (f : Str) : TS := fun D σ H => tv σ H fun y H1 => ta σ H1 fun x H2 => ∃ a C dx fs, x = .ref a ∧ H2 a = some (.ins C dx fs) ∧ Cls K C ∧ NoAttr K C f ∧ fs.length < 1000 ∧
  D.nx σ (upd H2 a (.ins C dx (putF f y fs)))
def InOp (X : Cx) (op : Operator) (rd : V → V → Hp → VK → Prop) : Prop :=
  ∀ (pins : List (Addr × Obj)) (s : Shared) (σ : St) (H : Hp) (x y : V) (u v : Value) (Q : VK), Inv X pins σ H s → RelV x u → RelV y v → rd x y H Q → wpAny (model X.prog X.w) X.A (inplaceOp op u v) (EP X pins σ Q) X.xe s
def sFldAug (K : PySem.W.Frag) (ta tv : TE) (rd : V → V → Hp → VK → Prop) (f : Str) : TS := fun D σ H => ta σ H fun x H1 => ∃ a C dx fs v, x = .ref a ∧ H1 a = some (.ins C dx fs) ∧ Cls K C ∧ NoAttr K C f ∧ fs.lookup f = some v ∧
  tv σ H1 fun y H2 => rd v y H2 fun z H3 => ∃ dx' fs', H3 a = some (.ins C dx' fs') ∧ fs'.length < 1000 ∧ D.nx σ (upd H3 a (.ins C dx' (putF f z fs')))
section
variable {X : Cx} {o e value : Expr} {f : Str} {pos pos' tpos : Pos} {ta tv : TE}
theorem pe_fld (he : PE X e ta) (hb : attributeBase e f X.env (eval e X.env) = eval e X.env) : PE X (.Attribute e f pos) (tFld X.K ta f) := by
  intro pins s σ H Q I h
  refine attr_of hb (thn (he pins s σ H _ I h) fun u s1 ⟨x, H1, I1, rx, a, C, dx, fs, v, ex, ea, c, n, l, q⟩ => ?_)
  subst ex
  obtain rfl : u = Value.ref a := rx
  exact getattr_ok I1 ea c n l fun u' s2 I2 ru => ⟨v, H1, I2, ru, q⟩
theorem ps_fld (ha : PE X o ta) (hv : PE X value tv) (hs : swapsWith value (some (.Attribute o f pos')) pos.line X.env = pure false) : PS X (.Assign [.Attribute o f pos'] value pos) (sFld X.K ta tv f) := by
  intro pins s σ H D I h
  refine plainObj_wpAny_Assign_Attribute (thn (hv pins s σ H _ I h) fun u s1 ⟨y, H1, I1, ry, q⟩ => thn (ha pins s1 σ H1 _ I1 q) fun ov s2 ⟨x, H2, I2, rx, a, C, dx, fs, ex, ea, c, n, l, q2⟩ => ?_) hs
  subst ex
  obtain rfl : ov = Value.ref a := rx
  exact setattr_ok I2 ea c n l ry fun s3 I3 => ⟨σ, _, I3, q2⟩
theorem ps_fldaug {op : Operator} {rd : V → V → Hp → VK → Prop} (ha : PE X o ta) (hv : PE X value tv) (hop : InOp X op rd) : PS X (.AugAssign (.Attribute o f tpos) op value pos) (sFldAug X.K ta tv rd f) := by
  intro pins s σ H D I h
  refine wpAny_AugAssign_AttributeAny (thn (ha pins s σ H _ I h) fun ov s1 ⟨x, H1, I1, rx, a, C, dx, fs, v, ex, ea, c, n, l, q⟩ => ?_)
  subst ex
  obtain rfl : ov = Value.ref a := rx
  refine getattr_ok I1 ea c n l fun u s2 I2 ru => thn (hv pins s2 σ H1 _ I2 q) fun w3 s3 ⟨y, H2, I3, ry, q3⟩ => thn (hop pins s3 σ H2 v y u w3 _ I3 ru ry q3) fun w4 s4 ⟨z, H3, I4, rz, dx', fs', ea', l', q4⟩ => ?_
  exact setattr_ok I4 ea' c n l' rz fun s5 I5 => ⟨σ, _, I5, q4⟩
def rAdd : V → V → Hp → VK → Prop := fun x y H Q => ∃ i j, x = .int i ∧ y = .int j ∧ Q (.int (i + j)) H
theorem in_add : InOp X .Add rAdd := by
  rintro pins s σ H x y u v Q I rx ry ⟨i, j, rfl, rfl, q⟩
  obtain ⟨t, rfl⟩ := (show ∃ t, u = Value.int i t from rx)
  obtain ⟨t', rfl⟩ := (show ∃ t', v = Value.int j t' from ry)
  exact PyProof.Rows.iadd_int ⟨.int (i + j), H, I.tok _, ⟨_, rfl⟩, q⟩
end
section
variable {X : Cx} {pins : List (Addr × Obj)} {σ : St} {H : Hp} {s : Shared} {A : Around} {E : Value → Shared → Prop} {Q : Value → Shared → Prop} {c : Value} {b : Bool}
inductive TyOf (K : PySem.W.Frag) (H : Hp) : V → Value → Prop where
  | non : TyOf K H .non (.type "NoneType")
  | bl (x : Bool) : TyOf K H (.bl x) (.type "bool")
  | int (i : Int) : TyOf K H (.int i) (.type "int")
  | str (x : Str) : TyOf K H (.str x) (.type "str")
  | flt (x : UInt64) : TyOf K H (.flt x) (.type "float")
  | lst {a : Addr} {xs : List V} (e : H a = some (.lst xs)) : TyOf K H (.ref a) (.type "list")
  | frz {a : Addr} {o : Obj} {xs : List V} (e : H a = some (.frz o (.lst xs))) : TyOf K H (.ref a) (.type "list")
  | tup {a : Addr} {xs : List V} (e : H a = some (.tup xs)) : TyOf K H (.ref a) (.type "tuple")
  | dK {a : Addr} {kvs : List (Key × V)} (e : H a = some (.dK kvs)) : TyOf K H (.ref a) (.type "dict")
  | dT {a : Addr} {kvs : List (List Key × V)} (e : H a = some (.dT kvs)) : TyOf K H (.ref a) (.type "dict")
  | ins {a C dx : Addr} {fs : List (Str × V)} (e : H a = some (.ins C dx fs)) (cl : Cls K C) (ha : PySem.W.findIn K (.ref C) "__class__" = some (some (.builtin "object.__class__")))
      (hn : PySem.W.specialIn K (.builtin "object.__class__") "__get__" = some (some (.builtin "getset_descriptor.__get__"))) (htk : PySem.W.takesIn K (.builtin "object.__class__") = some true)
      (hm : PySem.W.mroIn K C (.type "object") = some true) : TyOf K H (.ref a) (.ref C)
theorem isinst_ok {x : V} {u t : Value} (I : Inv X pins σ H s) (rx : RelV x u) (ty : TyOf X.K H x t) (e : PySem.W.kitOne X.K t c = some b) (h : ∀ tk, Q (.bool b) { s with toks := tk }) :
    wpAny (model X.prog X.w) A (call (.builtin "isinstance") [u, c]) Q E s := by
  cases ty with
  | non => cases (show u = Value.none from rx); exact PySem.W.kia_one PySem.W.kitx_none I.kIn True.intro e (fun z => nomatch z) h
  | bl y => cases (show u = Value.bool y from rx); exact PySem.W.kia_one PySem.W.kitx_bool I.kIn True.intro e (fun z => nomatch z) h
  | int i => obtain ⟨t, q⟩ := (show ∃ t, u = Value.int i t from rx); cases q; exact PySem.W.kia_one PySem.W.kitx_int I.kIn True.intro e (fun z => nomatch z) h
  | str y => obtain ⟨t, q⟩ := (show ∃ t, u = Value.str y t from rx); cases q; exact PySem.W.kia_one PySem.W.kitx_str I.kIn True.intro e (fun z => nomatch z) h
  | flt y => obtain ⟨t, q⟩ := (show ∃ t, u = Value.float y t from rx); cases q; exact PySem.W.kia_one PySem.W.kitx_float I.kIn True.intro e (fun z => nomatch z) h
  | @lst a xs ea =>
    cases (show u = Value.ref a from rx)
    obtain ⟨_, _, n, _, h1⟩ := (show ObjOk X.prog X.w H s.heap a (.lst xs) from I.hok a _ ea)
    exact PySem.W.kia_one PySem.W.kitx_list I.kIn ⟨_, h1, rfl⟩ e (fun z => nomatch z) h
  | @frz a ob xs ea =>
    cases (show u = Value.ref a from rx)
    obtain ⟨_, _, _, n, _, h1⟩ := (show ObjOk X.prog X.w H s.heap a (.frz ob (.lst xs)) from I.hok a _ ea)
    exact PySem.W.kia_one PySem.W.kitx_list I.kIn ⟨_, h1, rfl⟩ e (fun z => nomatch z) h
  | @tup a xs ea =>
    cases (show u = Value.ref a from rx)
    obtain ⟨_, _, _, p, _⟩ := (show ObjOk X.prog X.w H s.heap a (.tup xs) from I.hok a _ ea)
    obtain ⟨o, h1, h2, _⟩ := p
    exact PySem.W.kia_one PySem.W.kitx_tuple I.kIn ⟨o, h1, h2⟩ e (fun z => nomatch z) h
  | @dK a kvs ea =>
    cases (show u = Value.ref a from rx)
    obtain ⟨_, _, vs, _, p⟩ := (show ObjOk X.prog X.w H s.heap a (.dK kvs) from I.hok a _ ea)
    obtain ⟨o, es, ep, h1, h2, _⟩ := p
    exact PySem.W.kia_one PySem.W.kitx_dict I.kIn ⟨o, h1, h2.1⟩ e (fun z => nomatch z) h
  | @dT a kvs ea =>
    cases (show u = Value.ref a from rx)
    obtain ⟨_, _, xs, _, o, es, ep, h1, h2, _⟩ := (show ObjOk X.prog X.w H s.heap a (.dT kvs) from I.hok a _ ea)
    exact PySem.W.kia_one PySem.W.kitx_dict I.kIn ⟨o, h1, h2.1⟩ e (fun z => nomatch z) h
  | @ins a C dx fs ea cl ha hn htk hm =>
    cases (show u = Value.ref a from rx)
    obtain ⟨mA, O, _⟩ := ins_get I.hok ea
    obtain ⟨od, J, _⟩ := O.look
    exact PySem.W.kia_one (PySem.W.kitx_own (cl.get _) cl.hd ha hn htk hm) I.kIn J e (fun z => nomatch z) h
end
end L2
namespace L2
open PySem PySem.Spec PyProof.Rows
structure Room (k : Nat) (A : Around) : Prop where
  hd : A.handled = none
  dp : A.depth + 3 * k + 5 < recursionLimit
  un : A.units + 16 * k + 200 < cLine
theorem Room.mono {j k : Nat} {A : Around} (r : Room k A) (h : j ≤ k) : Room j A := ⟨r.hd, by have := r.dp; omega, by have := r.un; omega⟩
theorem Room.deeper {k : Nat} {A : Around} (r : Room (k + 1) A) (env : Env) : Room k (A.deeper env) :=
  ⟨r.hd, by have := r.dp; show A.depth + 1 + 3 * k + 5 < _; omega, by have := r.un; show A.units + 3 + 16 * k + 200 < _; omega⟩
theorem make_depth {A : Around} {C : Addr} {us : List Value} {kw : List (Str × Value)} : (A.under (.builtin "type.__call__" ⟨.ref C :: us, kw⟩)).depth = A.depth + 1 := by
  first | rfl | simp [Around.under, Code.weight, Code.isCreation, Code.isGuard, Code.isCaller, Code.frames, Code.isFrame, guardIds]
theorem make_units {A : Around} {C : Addr} {us : List Value} {kw : List (Str × Value)} : (A.under (.builtin "type.__call__" ⟨.ref C :: us, kw⟩)).units = A.units + 1 := by
  first | rfl | simp [Around.under, Code.cUnits, Code.frames, Code.isFrame]
theorem Room.make {k : Nat} {A : Around} (r : Room (k + 1) A) (C : Addr) (us : List Value) (kw : List (Str × Value)) : Room k (A.under (.builtin "type.__call__" ⟨.ref C :: us, kw⟩)) :=
  ⟨r.hd, by have := r.dp; rw [make_depth]; omega, by have := r.un; rw [make_units]; omega⟩
theorem Room.depth {k : Nat} {A : Around} (r : Room k A) : A.depth < recursionLimit := by have := r.dp; omega
theorem Room.units {k : Nat} {A : Around} (r : Room k A) : A.units + 64 < cLine := by have := r.un; omega
def tNil : TA := fun _ H Q => Q [] H
def tCons (ta : TE) (tr : TA) : TA := fun σ H Q => ta σ H fun x H1 => tr σ H1 fun xs H2 => Q (x :: xs) H2
section
variable {X : Cx} {e : Expr} {es : List Expr} {te : TE} {t : TA} {pos : Pos}
theorem pa_nil : PA X [] tNil := fun _ _ _ _ H Q I h => Calls.spliced_nil ⟨[], H, I, .nil, h⟩
theorem pa_cons (ha : PE X e te) (hr : PA X es t) (hs : starEach (e :: es) X.env = (false, eval e X.env) :: starEach es X.env := by rfl) : PA X (e :: es) (tCons te t) := by
  intro pos pins s σ H Q I h
  rw [hs]
  show wpAny _ _ (spliced ((false, eval e X.env) :: backTo pos (starEach es X.env))) _ _ s
  refine Calls.spliced_cons (thn (ha pins s σ H _ I h) fun u s1 ⟨x, H1, I1, r1, q1⟩ => ?_)
  exact thn (hr pos pins s1 σ H1 _ I1 q1) fun us s2 z_11 => by obtain ⟨xs, H2, I2, r2, q2⟩ := z_11; exact ⟨x :: xs, H2, I2, .cons r1 r2, q2⟩
def tTup (t : TA) : TE := fun σ H Q => t σ H fun xs H1 => xs.length ≤ sizeLine ∧ ∀ p, H1 p = none → Q (.ref p) (upd H1 p (.tup xs))
def tLst (t : TA) : TE := fun σ H Q => t σ H fun xs H1 => xs.length ≤ sizeLine ∧ ∀ p, H1 p = none → Q (.ref p) (upd H1 p (.lst xs))
theorem pe_tup {x1} (h : PA X es t) : PE X (.Tuple es x1 pos) (tTup t) := by
  intro pins s σ H Q I hq
  refine wpAny_Tuple_spliced (thn (h pos pins s σ H _ I hq) fun us s1 ⟨xs, H1, I1, r, z, q⟩ => ⟨by rw [← r.length]; exact z, ?_⟩)
  have hf : H1 s1.heap.objs.size = none := I1.hok.fresh (Nat.le_refl _)
  refine ⟨.ref s1.heap.objs.size, upd H1 s1.heap.objs.size (.tup xs), I1.laid (t' := s1.toks) (fun b u e => Heap.get?_push_of_some _ e) (Nat.le_refl _) ?_, rfl, q _ hf⟩
  exact ⟨z, us, r, ⟨_, Heap.get?_push_size _ rfl, rfl, _, rfl⟩, fun o q => by rw [Heap.get?_push_size _ rfl] at q; cases q; rfl⟩
theorem pe_lst (h : PA X es t) : PE X (.List es pos) (tLst t) := by
  intro pins s σ H Q I hq
  refine wpAny_List_spliced (thn (h pos pins s σ H _ I hq) fun us s1 ⟨xs, H1, I1, r, z, q⟩ => ⟨by rw [← r.length]; exact z, ?_⟩)
  have hf : H1 s1.heap.objs.size = none := I1.hok.fresh (Nat.le_refl _)
  refine ⟨.ref s1.heap.objs.size, upd H1 s1.heap.objs.size (.lst xs), I1.laid (t' := s1.toks) (fun b u e => Heap.get?_push_of_some _ e) (Nat.le_refl _) ?_, rfl, q _ hf⟩
  exact ⟨z, us, 0, r, Heap.get?_push_size _ rfl⟩
end
noncomputable abbrev Sp := List V → Hp → VK → XK → Prop
noncomputable abbrev CXT := List Env → Hp → Shared → XK → Value → Shared → Prop
structure Env0 (P : Program) (w : World) (K : PySem.W.Frag) (mg : Str → Option Value) (base : Heap) (A : Around) (outer : List Env) (s : Shared) (H : Hp) : Prop where
  frames : A.frames = some outer
  mod : Mod K mg base
  bs : ∀ b o, base.get? b = some o → s.heap.get? b = some o ∧ H b = none
  bsz : base.objs.size ≤ s.heap.objs.size
  funs : s.heap.FunFrames base outer
  frf : ∀ b ∈ frs outer, H b = none
  hok : HOk P w H s.heap
  bare : AllBare s.gens
def CE (outer : List Env) (P : Program) (w : World) (H : Hp) (s : Shared) (Q : VK) (u : Value) (s' : Shared) : Prop :=
  ∃ v H', s'.os = s.os ∧ AllBare s'.gens ∧ Un (frs outer) [] H H' s.heap s'.heap ∧ HOk P w H' s'.heap ∧ RelV v u ∧ Q v H'
def CR (CX : CXT) (outer : List Env) (P : Program) (w : World) (H : Hp) (s : Shared) (Q : VK) (E : XK) (r : Result) (s' : Shared) : Prop :=
  match r with
  | .ok (.ret u) => CE outer P w H s Q u s'
  | .ok _ => False
  | .error e => CX outer H s E e s'
structure FnOk (P : Program) (w : World) (K : PySem.W.Frag) (mg : Str → Option Value) (base : Heap) (CX : CXT) (k : Nat) (f : Addr) (fd : FuncData) (ps : List Str) (sp : Sp) : Prop where
  len : ∀ vs H Q E, sp vs H Q E → vs.length = ps.length
  run : ∀ (A : Around) (outer : List Env) (s : Shared) (H : Hp) (args : Args) (us : List Value) (vs : List V) (Q : VK) (E : XK), Room k A → Env0 P w K mg base A outer s H → BindsTo s fd args (ps.zip us) → Vals vs us → sp vs H Q E →
    codeAny (model P w) A (.call (.ref f) args) (CR CX outer P w H s Q E) s
theorem FnOk.mono {P : Program} {w : World} {K : PySem.W.Frag} {mg : Str → Option Value} {base : Heap} {CX : CXT} {j k : Nat} {f : Addr} {fd : FuncData} {ps : List Str} {sp : Sp} (F : FnOk P w K mg base CX j f fd ps sp) (h : j ≤ k) :
    FnOk P w K mg base CX k f fd ps sp := ⟨F.len, fun A outer s H args us vs Q E hr => F.run A outer s H args us vs Q E (hr.mono h)⟩
theorem FnOk.imp {P : Program} {w : World} {K : PySem.W.Frag} {mg : Str → Option Value} {base : Heap} {CX : CXT} {k : Nat} {f : Addr} {fd : FuncData} {ps : List Str} {sp sp' : Sp} (F : FnOk P w K mg base CX k f fd ps sp)
    (h : ∀ vs H Q E, sp' vs H Q E → sp vs H Q E) : FnOk P w K mg base CX k f fd ps sp' :=
  ⟨fun vs H Q E q => F.len vs H Q E (h _ _ _ _ q), fun A outer s H args us vs Q E hr he hb hv hs => F.run A outer s H args us vs Q E hr he hb hv (h _ _ _ _ hs)⟩
theorem Env0.make {P : Program} {w : World} {K : PySem.W.Frag} {mg : Str → Option Value} {base : Heap} {A : Around} {outer : List Env} {s : Shared} {H : Hp} (e : Env0 P w K mg base A outer s H) (C : Addr) (us : List Value) (kw : List (Str × Value)) :
    Env0 P w K mg base (A.under (.builtin "type.__call__" ⟨.ref C :: us, kw⟩)) outer s H := ⟨by first | exact e.frames | (simpa [Around.under, Code.envs, Code.isFrame, pushEnvs] using e.frames), e.mod, e.bs, e.bsz, e.funs, e.frf, e.hok, e.bare⟩
section
variable {X : Cx} {pins : List (Addr × Obj)} {σ : St} {H : Hp} {s s' : Shared}
theorem Inv.env0 (I : Inv X pins σ H s) : Env0 X.prog X.w X.K X.mg X.base X.A X.stack s H :=
  ⟨I.ok.frames, I.ok.mod, I.bs, Nat.le_trans I.ok.bsz I.sz, I.stack, I.stkFree, I.hok, I.bare⟩
theorem Inv.after {Q : VK} {u : Value} (I : Inv X pins σ H s) (h : CE X.stack X.prog X.w H s Q u s') : EP X pins σ Q u s' := by
  obtain ⟨v, H', os, bare, un, hok, r, q⟩ := h
  obtain ⟨hh, g, d, t, os'⟩ := s'
  obtain rfl : os' = s.os := os
  exact ⟨v, H', I.call (h' := hh) (g' := g) (d' := d) (t' := t) (ch := []) un hok bare (fun b z => absurd z (by simp)), r, q⟩
end
def Binds (K : PySem.W.Frag) (fd : FuncData) (ps : List Str) (ds : List Value) : Prop :=
  ∀ (s : Shared) (us : List Value), K.In s.heap → (us ++ ds).length = ps.length → BindsTo s fd ⟨us, []⟩ (ps.zip (us ++ ds))
theorem Binds.all {K : PySem.W.Frag} {fd : FuncData} {ps : List Str} (h : ∀ us : List Value, us.length = ps.length → bindArgs fd ⟨us, []⟩ = pure (ps.zip us)) : Binds K fd ps [] := fun s us _ hl => by
  rw [List.append_nil] at hl ⊢
  exact .of_eq (h us hl)
section
variable {X : Cx} {CX : CXT} {k : Nat} {f C : Addr} {fd : FuncData} {ps : List Str} {sp : Sp} {dvs : List V} {ds : List Value} {E : XK} {x m : Str} {p pos apos : Pos} {e o : Expr} {es : List Expr} {ta : TE} {t : TA}
structure Mk (K : PySem.W.Frag) (C f : Addr) : Prop where
  makes : PySem.W.makesIn K C = true
  init : PySem.W.findIn K (.ref C) "__init__" = some (some (.ref f))
  fn : PySem.W.isFn K (.ref f) = true
  kp : PySem.W.keepIn K (.ref C) = true
end
structure FnScope (N P : List Str) (sc : Scope) : Prop where
  kind : sc.kind = .function
  co : sc.isCoroutine = false
  gen : sc.isGenerator = false
  nd : N.Nodup
  pre : N.take P.length = P
  par : ∀ x ∈ P, sc.names.lookup x = some .local ∨ sc.names.lookup x = some .cell
  nofree : ∀ y ∈ sc.names, y.2 ≠ .free
theorem bindL_out {kindOf : Str → Option NameKind} {x : Str} : ∀ {binds : List (Str × Value)} {m : Str → Option Value}, (∀ v, (x, v) ∉ binds) → bindL kindOf binds m x = m x
  | [], _, _ => rfl
  | (n, v) :: r, m, h => by
    unfold bindL
    rw [bindL_out fun w hw => h w (List.mem_cons_of_mem _ hw)]
    split
    · have : x ≠ n := by rintro rfl; exact h v List.mem_cons_self
      simp [this]
    · rfl
theorem bindC_out {kindOf : Str → Option NameKind} {x : Str} : ∀ {binds : List (Str × Value)} {m : Str → Option Value}, (∀ v, (x, v) ∉ binds) → bindC kindOf binds m x = m x
  | [], _, _ => rfl
  | (n, v) :: r, m, h => by
    unfold bindC
    rw [bindC_out fun w hw => h w (List.mem_cons_of_mem _ hw)]
    split
    · rfl
    · have : x ≠ n := by rintro rfl; exact h v List.mem_cons_self
      simp [this]
theorem bindL_get {kindOf : Str → Option NameKind} {x : Str} {v : Value} : ∀ {P : List Str} {vs : List Value} {i : Nat} {m : Str → Option Value}, P.Nodup → P[i]? = some x → vs[i]? = some v → kindOf x = some .local →
    bindL kindOf (P.zip vs) m x = some v
  | [], _, _, _, _, h, _, _ => by simp at h
  | _ :: _, [], _, _, _, _, h, _ => by simp at h
  | p :: P, w :: vs, 0, m, nd, h1, h2, hk => by
    simp at h1 h2; subst h1; subst h2
    show bindL kindOf ((p, w) :: P.zip vs) m p = _
    unfold bindL
    rw [bindL_out fun v hv => (List.nodup_cons.mp nd).1 (List.of_mem_zip hv).1, if_pos hk]
    simp
  | p :: P, w :: vs, i + 1, m, nd, h1, h2, hk => by
    show bindL kindOf ((p, w) :: P.zip vs) m x = _
    unfold bindL
    exact bindL_get (i := i) (List.nodup_cons.mp nd).2 (by simpa using h1) (by simpa using h2) hk
theorem bindC_get {kindOf : Str → Option NameKind} {x : Str} {v : Value} : ∀ {P : List Str} {vs : List Value} {i : Nat} {m : Str → Option Value}, P.Nodup → P[i]? = some x → vs[i]? = some v → kindOf x ≠ some .local →
    bindC kindOf (P.zip vs) m x = some v
  | [], _, _, _, _, h, _, _ => by simp at h
  | _ :: _, [], _, _, _, _, h, _ => by simp at h
  | p :: P, w :: vs, 0, m, nd, h1, h2, hk => by
    simp at h1 h2; subst h1; subst h2
    show bindC kindOf ((p, w) :: P.zip vs) m p = _
    unfold bindC
    rw [bindC_out fun v hv => (List.nodup_cons.mp nd).1 (List.of_mem_zip hv).1, if_neg hk]
    simp
  | p :: P, w :: vs, i + 1, m, nd, h1, h2, hk => by
    show bindC kindOf ((p, w) :: P.zip vs) m x = _
    unfold bindC
    exact bindC_get (i := i) (List.nodup_cons.mp nd).2 (by simpa using h1) (by simpa using h2) hk
noncomputable def start (N : List Str) (vs : List V) : St := vs.map some ++ List.replicate (N.length - vs.length) none
noncomputable def cxOf (CX : CXT) (P : Program) (w : World) (K : PySem.W.Frag) (mg : Str → Option Value) (base : Heap) (N : List Str) (qual : Str) (scope : Scope) (f : Addr) (cd : Value) (A : Around) (outer : List Env) (s : Shared) (H : Hp) (E : XK) : Cx where
  prog := P
  w := w
  K := K
  mg := mg
  base := base
  A := A.deeper (envOfC qual scope s.heap.objs.size f cd)
  N := N
  s₀ := s
  H₀ := H
  env := envOfC qual scope s.heap.objs.size f cd
  outer := outer
  stack := envOfC qual scope s.heap.objs.size f cd :: outer
  ex := []
  calm := true
  fn := fun _ => true
  pn := []
  xe := fun e s' => wpAny (model P w) (A.deeper (envOfC qual scope s.heap.objs.size f cd)) (leaving (envOfC qual scope s.heap.objs.size f cd) e) (fun _ s'' => CX outer H s E e s'') (fun e' s'' => CX outer H s E e' s'') s'
theorem cell_has {sc : Scope} {n : Nat} {x : Str} (h : sc.names.lookup x = some .cell) : ∃ c, (cellsFrom n sc.names []).lookup x = some c := by
  have q := PySem.W.cellsFrom_some sc.names n [] (.inl h)
  exact Option.isSome_iff_exists.mp q
theorem inv_start {CX : CXT} {P : Program} {w : World} {K : PySem.W.Frag} {mg : Str → Option Value} {base : Heap} {N ps : List Str} {qual : Str} {scope : Scope} {f : Addr} {cd : Value} {A : Around} {outer : List Env} {s s1 : Shared} {H : Hp} {E : XK} {us : List Value} {vs : List V}
    (S : FnScope N ps scope) (hd : A.handled = none) (e0 : Env0 P w K mg base A outer s H) (hl : vs.length = ps.length) (r : Vals vs us)
    (x : InCallC s s.heap.objs.size (bindL (envOfC qual scope s.heap.objs.size f cd).kindOf (ps.zip us) fun _ => none) (cellsFrom (s.heap.objs.size + 1) scope.names []) (bindC (envOfC qual scope s.heap.objs.size f cd).kindOf (ps.zip us) fun _ => none) s1) :
    Inv (cxOf CX P w K mg base N qual scope f cd A outer s H E) [] (start N vs) H s1 := by
  have hpl : ps.length ≤ N.length := by have := congrArg List.length S.pre; rw [List.length_take] at this; omega
  obtain ⟨h1, tk, rfl, hk⟩ := x.done
  have noA : ∀ b : Addr, b ∉ (cxOf CX P w K mg base N qual scope f cd A outer s H E).ex := fun b z => absurd (show b ∈ ([] : List Addr) from z) (by simp)
  refine ⟨⟨e0.mod, S.kind, rfl, rfl, Nat.le_refl _, fun y z c h1 h2 => ?_, fun y hy => ?_, fun y c _ h => ?_, fun _ => hd, Around.frames_deeper e0.frames, .inr ⟨rfl, rfl⟩, fun b z => absurd z (noA b), e0.bs, e0.bsz, fun b _ _ => noA b, fun b z => absurd z (noA b), e0.funs, e0.frf⟩,
    rfl, e0.bare, Un.kept hk, ⟨_, x.toInCall.ns, fun i y v h1 h2 h3 => ?_⟩, fun y c h => ⟨_, x.cell y c h⟩, e0.hok.fresh (Nat.le_refl _), fun y c h => ?_, fun p hp => absurd (show p ∈ ([] : List (Addr × Obj)) from hp) (by simp), e0.hok.kept hk, ?_⟩
  · exact name_of_addr x.apart (PySem.mem_of_lookup h1) (PySem.mem_of_lookup h2)
  · have hy : scope.names.lookup y = some .cell ∨ scope.names.lookup y = some .free := hy
    rcases hy with hy | hy
    · exact cell_has hy
    · exact absurd rfl (S.nofree _ (PySem.mem_of_lookup hy))
  · exact Nat.le_of_lt (x.above y c (PySem.mem_of_lookup h))
  · have hi : i < vs.length := by
      unfold start at h2
      by_cases hi : i < vs.length
      · exact hi
      · rw [List.getElem?_append_right (by simpa using hi)] at h2
        rw [List.getElem?_replicate] at h2
        split at h2 <;> cases h2
    have ha : vs[i]? = some v := by
      unfold start at h2
      rw [List.getElem?_append_left (by simpa using hi), List.getElem?_map] at h2
      cases e : vs[i]? with
      | none => rw [e] at h2; cases h2
      | some a => rw [e] at h2; cases h2; rfl
    obtain ⟨u, hu, rv⟩ := r.get ha
    have hp : ps[i]? = some y := by
      rw [← S.pre, List.getElem?_take_of_lt (by omega)]; exact h1
    have ndP : ps.Nodup := by rw [← S.pre]; exact S.nd.sublist (List.take_sublist _ _)
    refine ⟨u, rv, ?_⟩
    rcases S.par y (List.mem_of_getElem? hp) with k | k
    · exact .inl ⟨k, bindL_get ndP hp hu k⟩
    · obtain ⟨c, e⟩ := cell_has (n := s.heap.objs.size + 1) k
      refine .inr ⟨.inl k, c, e, ?_⟩
      have q := x.cell y c e
      rw [bindC_get ndP hp hu (by show scope.names.lookup y ≠ _; rw [k]; decide)] at q
      exact q
  · exact e0.hok.fresh (Nat.le_of_lt (x.above y c (PySem.mem_of_lookup h)))
  · unfold start
    show _ = N.length
    rw [List.length_append, List.length_map, List.length_replicate]
    omega
theorem fn_of {CX : CXT} {P : Program} {w : World} {K : PySem.W.Frag} {mg : Str → Option Value} {base : Heap} {k : Nat} {f : Addr} {name qual : Str} {params : Arguments} {body : List Stmt} {scope : Scope} {dV kV doc pm cdv ct oc : Value} {an od : Option Addr}
    {osl : Array (Option Value)} {N ps : List Str} {sp : Sp} (lk : K.lookup f = some ⟨oc, od, .func (PySem.W.fnOf name qual params body scope dV kV doc pm an cdv ct), osl⟩) (hcd : PySem.W.codeIn K cdv qual = true) (S : FnScope N ps scope)
    (len : ∀ vs H Q E, sp vs H Q E → vs.length = ps.length)
    (hbody : ∀ (A : Around) (outer : List Env) (s : Shared) (H : Hp) (vs : List V) (Q : VK) (E : XK), Room k (A.deeper (envOfC qual scope s.heap.objs.size f cdv)) → sp vs H Q E →
      ∃ t, PSs (cxOf CX P w K mg base N qual scope f cdv A outer s H E) body t ∧ t { nx := fun _ H' => Q .non H', rt := Q } (start N vs) H) :
    FnOk P w K mg base CX (k + 1) f (PySem.W.fnOf name qual params body scope dV kV doc pm an cdv ct) ps sp := by
  refine ⟨len, fun A outer s H args us vs Q E hr e0 hb r hsp => ?_⟩
  have hl := len _ _ _ _ hsp
  have KX : K.In s.heap := e0.mod.kin.keeps fun b o e => (e0.bs b o e).1
  have lim : s.heap.NoLimit := e0.mod.nolimit.keeps fun b o e => (e0.bs b o e).1
  have hkind : ∀ y ∈ ps.zip us, scope.names.lookup y.1 = some .local ∨ (scope.names.lookup y.1 = some .cell ∧ ((cellsFrom (s.heap.objs.size + 1) scope.names []).lookup y.1).isSome = true) := fun z_13 hy => by
    obtain ⟨n, v⟩ := z_13
    rcases S.par n (List.of_mem_zip hy).1 with q | q
    · exact .inl q
    · exact .inr ⟨q, PySem.W.cellsFrom_some _ _ _ (.inl q)⟩
  refine codeAny_call_function hr.depth (KX _ _ lk) rfl S.co S.gen rfl (PySem.W.codeRec_of KX hcd) (hb _ _ _ _ ?_)
  refine wpAny_newFunctionEnv_cells S.kind hkind fun env he s1 x => ?_
  subst he
  refine ⟨lim.keeps x.toInCall.keep, codeAny_func ?_⟩
  obtain ⟨t, ht, hq⟩ := hbody A outer s H vs Q E (hr.deeper _) hsp
  have I : Inv (cxOf CX P w K mg base N qual scope f cdv A outer s H E) [] (start N vs) H s1 := inv_start S hr.hd e0 hl r x
  refine wpAny_mono (ht [] s1 (start N vs) H _ I hq) (fun fl s' hs => ?_) fun e s' hs => hs
  have fin : ∀ {σ' : St} {H' : Hp} {v : V} {u : Value}, Inv (cxOf CX P w K mg base N qual scope f cdv A outer s H E) [] σ' H' s' → RelV v u → Q v H' → CE outer P w H s Q u s' :=
    fun {σ' H' v u} J rv q => ⟨v, H', J.os, J.bare, J.base, J.hok, rv, q⟩
  cases fl with
  | ret u =>
    obtain ⟨v, σ', H', J, rv, q⟩ := hs
    exact fin J rv q
  | next =>
    obtain ⟨σ', H', J, q⟩ := hs
    exact fin (v := V.non) (u := Value.none) J rfl q
  | brk =>
    obtain ⟨_, _, _, q⟩ := hs
    exact False.elim q
  | cont =>
    obtain ⟨_, _, _, q⟩ := hs
    exact False.elim q
end L2
namespace L2
open PySem PySem.Spec PyProof.Rows
section
variable {X : Cx} {x : Str} {p pos : Pos} {e : Expr} {es : List Expr} {t : TA} {id T : String} {r : List V → Hp → VK → Prop}
def tCB (r : List V → Hp → VK → Prop) (t : TA) : TE := fun σ H Q => t σ H fun vs H1 => r vs H1 Q
theorem pe_callB (hc : CallR X (.builtin id) r) (hg : Gl X x) (hm : X.mg x = none) (hv : bootBuiltins x = some (.builtin id)) (ha : PA X (e :: es) t) (hn : x ≠ "__name__" := by decide) (hdb : (x == ("__debug__" : Str)) = false := by decide)
    (he : starEach (e :: es) X.env = (false, eval e X.env) :: starEach es X.env := by rfl) (hpl : (backTo pos (starEach es X.env)).any (·.1) = false := by rfl) : PE X (.Call (.Name x p) (e :: es) [] pos) (tCB r t) := by
  intro pins s σ H Q I h
  refine wpAny_Call_Name_kw (ld_blt I hg hm hv ?_ hn hdb)
  exact PyProof.Rows.callWith_builtin1 (thn (ha pos pins s σ H _ I h) fun us s1 z_14 => by obtain ⟨vs, H1, I1, r1, q1⟩ := z_14; exact hc pins s1 σ H1 vs us Q I1 r1 q1) he hpl
theorem pe_callTy (hc : CallR X (.type T) r) (hg : Gl X x) (hm : X.mg x = none) (hv : bootBuiltins x = some (.type T)) (ha : PA X (e :: es) t) (hn : x ≠ "__name__" := by decide) (hdb : (x == ("__debug__" : Str)) = false := by decide)
    (he : starEach (e :: es) X.env = (false, eval e X.env) :: starEach es X.env := by rfl) (hpl : (backTo pos (starEach es X.env)).any (·.1) = false := by rfl) : PE X (.Call (.Name x p) (e :: es) [] pos) (tCB r t) := by
  intro pins s σ H Q I h
  refine wpAny_Call_Name_kw (ld_blt I hg hm hv ?_ hn hdb)
  exact PyProof.Rows.callWith_type1 (thn (ha pos pins s σ H _ I h) fun us s1 z_15 => by obtain ⟨vs, H1, I1, r1, q1⟩ := z_15; exact hc pins s1 σ H1 vs us Q I1 r1 q1) he hpl
end
end L2
namespace HT
open PySem PyProof.Rows
section
open PySem.SeqAt
open PySem.AutoSeq1 (wpAny_loadPart')
open PySem.MeetsSeq PySem.MeetsSeq2 PySem.MeetsSeq3
end
section
variable {prog : Program} {w : World} {A : Around} {E : Value → Shared → Prop} {s : Shared}
theorem cat_tup {t b : Addr} {vs ws : List Value} {Q : Value → Shared → Prop} (ht : IsTup s.heap t vs.toArray) (hb : IsTup s.heap b ws.toArray) (hv : vs ≠ [])
    (h1 : ws = [] → Q (.ref t) s) (h2 : ws ≠ [] → Q (.ref s.heap.objs.size) { s with heap := s.heap.push { cls := .type "tuple", data := .seq (vs ++ ws).toArray } })
    (hsz : vs.length + ws.length ≤ sizeLine) : wpAny (model prog w) A (binaryOp .Add (.ref t) (.ref b)) Q E s := by
  obtain ⟨⟨cls, dd, data, sl⟩, ho, hc, n, hd⟩ := id ht
  obtain ⟨⟨cls2, dd2, data2, sl2⟩, ho2, hc2, n2, hd2⟩ := id hb
  simp only at hc hd hc2 hd2
  subst hc hd hc2 hd2
  have e : vs.toArray ++ ws.toArray = (vs ++ ws).toArray := by simp
  by_cases hw : ws = []
  · exact concat_meets ⟨_, ho, rfl⟩ ⟨_, ho2, rfl⟩ noFill_tuple_add seq_tuple_add PySem.F.slot_tuple_add PySem.F.entry_tuple_add (PySem.F.args_tuple_add_2 _ _)
      (tuple_addW1 t b vs.toArray ws.toArray n n2 dd dd2 sl sl2 (by simpa using hv) (by simp [hw])) ⟨ho, ho2, h1 hw⟩
  · refine concat_meets ⟨_, ho, rfl⟩ ⟨_, ho2, rfl⟩ noFill_tuple_add seq_tuple_add PySem.F.slot_tuple_add PySem.F.entry_tuple_add (PySem.F.args_tuple_add_2 _ _)
      (tuple_addW2 t b vs.toArray ws.toArray n n2 dd dd2 sl sl2 (by simpa using hv) (by simpa using hw) (by rw [List.size_toArray, List.size_toArray]; exact hsz)) ⟨ho, ho2, ?_⟩
    rw [e]
    exact h2 hw
noncomputable def sIx (n d : Nat) : Option Int → Nat
  | none => d
  | some v => if v < 0 then (v + (n : Int)).toNat else min v.toNat n
theorem sIx_none (n d : Nat) : sIx n d none = d := rfl
theorem sIx_nat (n d k : Nat) : sIx n d (some (k : Int)) = min k n := by
  show (if (k : Int) < 0 then ((k : Int) + (n : Int)).toNat else min (k : Int).toNat n) = min k n
  rw [if_neg (by omega), Int.toNat_natCast]
theorem sIx_le (n d : Nat) (hd : d ≤ n) (o : Option Int) : sIx n d o ≤ n := by
  cases o with
  | none => exact hd
  | some v =>
    show (if v < 0 then (v + (n : Int)).toNat else min v.toNat n) ≤ n
    by_cases hv : v < 0
    · rw [if_pos hv]; omega
    · rw [if_neg hv]; exact Nat.min_le_right _ _
theorem clip_eq (v : Int) (n d : Nat) : (if v < 0 then max (v + (n : Int)) 0 else min v (n : Int)) = ((sIx n d (some v) : Nat) : Int) := by
  show (if v < 0 then max (v + (n : Int)) 0 else min v (n : Int)) = (((if v < 0 then (v + (n : Int)).toNat else min v.toNat n) : Nat) : Int)
  by_cases hv : v < 0
  · simp only [if_pos hv]; omega
  · simp only [if_neg hv]; omega
theorem adjust_gen (lo hi : Option Int) (n : Nat) : Builtin.Slice.sliceAdjust lo hi 1 (n : Int) = (((sIx n 0 lo : Nat) : Int), ((sIx n n hi : Nat) : Int)) := by
  have h1 : ¬ ((1 : Int) < 0) := by omega
  unfold Builtin.Slice.sliceAdjust
  simp only [h1, if_false]
  refine Prod.ext ?_ ?_
  · cases lo with
    | none => rfl
    | some v => exact clip_eq v n 0
  · cases hi with
    | none => rfl
    | some v => exact clip_eq v n n
theorem places_gen (i j : Nat) : Builtin.Slice.slicePlaces (i : Int) (j : Int) 1 = j - i := by
  unfold Builtin.Slice.slicePlaces
  have h1 : (1 : Int) > 0 := by omega
  simp only [h1, if_true, Int.ediv_one]
  split <;> omega
theorem slicePart_ {v : Value} {o : Option Int} {Q : Option Int → Shared → Prop} (p : IsPart v o) (h : Q o s) : wpAny (model prog w) A (Builtin.Slice.slicePartIndex v) Q E s := by
  cases p with
  | none => exact slicePart_none h
  | int i t => exact slicePart_int h
theorem sliceApplied_gen {sl : Addr} {vl vu : Value} {lo hi : Option Int} {n : Nat} {Q : Int × Int × Nat → Shared → Prop} (hs : s.heap.IsSliceOf sl vl vu .none) (pl : IsPart vl lo) (pu : IsPart vu hi)
    (h : Q (((sIx n 0 lo : Nat) : Int), 1, sIx n n hi - sIx n 0 lo) s) : wpAny (model prog w) A (Builtin.Slice.sliceApplied (.ref sl) (pure (n : Int))) Q E s := by
  obtain ⟨os, hos, hcs, hds⟩ := id hs
  unfold Builtin.Slice.sliceApplied Builtin.Slice.sliceFields
  refine wpAny_bind (wpAny_bind (wpAny_field hos hds (x := vl) rfl (wpAny_bind (wpAny_field hos hds (x := vu) rfl (wpAny_bind (wpAny_field hos hds (x := .none) rfl (wpAny_pure ?_)))))))
  refine wpAny_bind (slicePart_none ?_)
  show wpAny _ _ (if ((1 : Int) == 0) = true then _ else _) _ _ s
  rw [if_neg (by decide)]
  refine wpAny_bind (slicePart_ pl (wpAny_bind (slicePart_ pu (wpAny_bind (wpAny_pure ?_)))))
  show wpAny _ _ (match Builtin.Slice.sliceAdjust lo hi 1 (n : Int) with | (lo, hi) => pure (lo, (1 : Int), Builtin.Slice.slicePlaces lo hi 1)) _ _ s
  rw [adjust_gen lo hi n]
  show wpAny _ _ (pure (((sIx n 0 lo : Nat) : Int), (1 : Int), Builtin.Slice.slicePlaces ((sIx n 0 lo : Nat) : Int) ((sIx n n hi : Nat) : Int) 1)) _ _ s
  rw [places_gen]
  exact wpAny_pure h
theorem pick_gen (xs : Array Value) (i k : Nat) : ((List.range k).filterMap fun (m : Nat) => xs[((i : Int) + (m : Int) * 1).toNat]?).toArray = ((xs.toList.drop i).take k).toArray := by
  have e : (fun (m : Nat) => xs[((i : Int) + (m : Int) * 1).toNat]?) = fun m => xs[i + m]? := by
    funext m
    have : ((i : Int) + (m : Int) * 1).toNat = i + m := by omega
    rw [this]
  rw [e]
  have := pick_run xs i k
  rw [List.filterMap_map] at this
  have e2 : ((fun x => xs[x]?) ∘ fun x => i + x) = fun m => xs[i + m]? := rfl
  rw [e2] at this
  rw [this]
theorem getItem_tuple_cut {t sl : Addr} {items : Array Value} {vl vu : Value} {lo hi : Option Int} {Q : Value → Shared → Prop} (ht : IsTup s.heap t items) (hs : s.heap.IsSliceOf sl vl vu .none) (pl : IsPart vl lo) (pu : IsPart vu hi)
    (hw : ¬ (sIx items.size 0 lo = 0 ∧ sIx items.size items.size hi = items.size))
    (h : Q (.ref s.heap.objs.size) { s with heap := s.heap.push { cls := .type "tuple", data := .seq ((items.toList.drop (sIx items.size 0 lo)).take (sIx items.size items.size hi - sIx items.size 0 lo)).toArray } })
    (hsz : items.size ≤ sizeLine) : wpAny (model prog w) A (getItem (.ref t) (.ref sl)) Q E s := by
  have htake : sizeOk (.seq ((items.toList.drop (sIx items.size 0 lo)).take (sIx items.size items.size hi - sIx items.size 0 lo)).toArray) := by
    show ((items.toList.drop (sIx items.size 0 lo)).take (sIx items.size items.size hi - sIx items.size 0 lo)).toArray.size ≤ sizeLine
    rw [List.size_toArray, List.length_take, List.length_drop, Array.length_toList]
    omega
  have hj : sIx items.size items.size hi ≤ items.size := sIx_le _ _ (Nat.le_refl _) hi
  obtain ⟨os, hos, hcs, hds⟩ := id hs
  have hTs : s.TypeIs (.ref sl) "slice" := ⟨os, hos, hcs⟩
  unfold getItem
  try with_reducible refine wpAny_holding ?_
  first | refine wpAny_bind (wpAny_pure ?_) | skip
  refine wpAny_bind (wpAny_sequenceKey ht.typeIs (by decide) ?_)
  refine wpAny_bind (wpAny_callSpecial?_slot (name := Str.ofString "__getitem__") ht.typeIs PyProof.Rows.slot_tuple_getitem
    (wpAny_call_entry PyProof.Rows.slot_tuple_getitem ht.typeIs entry_tuple_getitem ?_ (args_tuple_getitem _ _)))
  show wpAny _ _ (Builtin.Tuple.tupleItemsOf (.ref t) >>= _) _ _ s
  refine wpAny_bind (tupleItemsOf_ ht ?_)
  refine wpAny_bind (wpAny_typeOf hTs ?_)
  rw [if_pos (by decide)]
  refine wpAny_bind (sliceApplied_gen hs pl pu ?_)
  have hno : ¬ ((((sIx items.size 0 lo : Nat) : Int) == 0 && (1 : Int) == 1 && (sIx items.size items.size hi - sIx items.size 0 lo) == items.size) = true) := by
    intro q
    rw [Bool.and_eq_true, Bool.and_eq_true] at q
    have q1 : ((sIx items.size 0 lo : Nat) : Int) = 0 := eq_of_beq q.1.1
    have q2 : sIx items.size items.size hi - sIx items.size 0 lo = items.size := eq_of_beq q.2
    exact hw ⟨by omega, by omega⟩
  show wpAny _ _ (if (((sIx items.size 0 lo : Nat) : Int) == 0 && (1 : Int) == 1 && (sIx items.size items.size hi - sIx items.size 0 lo) == items.size) = true then _ else _) _ _ s
  rw [if_neg hno, pick_gen]
  first
    | exact wpAny_bind (m := Builtin.Tuple.tupleExact _) (wpAny_newObj_type (wpAny_pure ⟨_, rfl, wpAny_pure h⟩) htake)
    | exact wpAny_bind (m := Builtin.Tuple.tupleExact _) (wpAny_newObj_type (wpAny_bind (wpAny_pure (wpAny_pure ⟨_, rfl, wpAny_pure h⟩))) htake)
    | exact wpAny_bind (wpAny_bind (m := Builtin.Tuple.tupleExact _) (wpAny_newObj_type (wpAny_pure (wpAny_pure ⟨_, rfl, wpAny_pure h⟩)) htake))
    | exact wpAny_bind (wpAny_bind (m := Builtin.Tuple.tupleExact _) (wpAny_newObj_type (wpAny_pure ⟨_, rfl, wpAny_pure h⟩) htake))
end
end HT
namespace L2
open PySem PySem.Spec PyProof.Rows
noncomputable abbrev TO := St → Hp → (Option Int → Hp → Prop) → Prop
def PO (X : Cx) (e : Option Expr) (t : TO) : Prop :=
  ∀ (pins : List (Addr × Obj)) (s : Shared) (σ : St) (H : Hp) (Q : Option Int → Hp → Prop), Inv X pins σ H s → t σ H Q →
    wpAny (model X.prog X.w) X.A (evalPart e X.env) (fun u s' => ∃ o H', Inv X pins σ H' s' ∧ IsPart u o ∧ Q o H') X.xe s
noncomputable def tNoPart : TO := fun _ H Q => Q none H
noncomputable def tPart (t : TE) : TO := fun σ H Q => t σ H fun x H1 => ∃ i, x = .int i ∧ Q (some i) H1
section
variable {X : Cx} {e : Expr} {te : TE} {lo hi : Option Expr} {tl th : TO} {pos p2 : Pos}
theorem po_none : PO X none tNoPart := by
  intro pins s σ H Q I h
  rw [evalPart_none]
  exact wpAny_pure ⟨none, H, I, .none, h⟩
theorem po_some (h : PE X e te) : PO X (some e) (tPart te) := by
  intro pins s σ H Q I hw
  rw [evalPart_some]
  refine thn (h pins s σ H _ I hw) fun u s1 ⟨x, H1, I1, r1, q1⟩ => ?_
  obtain ⟨i, rfl, q⟩ := q1
  obtain ⟨t, rfl⟩ := r1
  exact ⟨some i, H1, I1, .int i t, q⟩
def SlR (X : Cx) (r : V → Option Int → Option Int → Hp → VK → Prop) : Prop :=
  ∀ (pins : List (Addr × Obj)) (s : Shared) (σ : St) (H : Hp) (x : V) (v vl vu : Value) (lo hi : Option Int) (sl : Addr) (Q : VK), Inv X pins σ H s → RelV x v → s.heap.IsSliceOf sl vl vu .none → IsPart vl lo → IsPart vu hi → r x lo hi H Q →
    ∃ T id, typeLookup (.type T) "__getitem__" = pure (some (.builtin id)) ∧ s.TypeIs v T ∧ wpAny (model X.prog X.w) X.A (getItem v (.ref sl)) (EP X pins σ Q) X.xe s
def tSl (r : V → Option Int → Option Int → Hp → VK → Prop) (te : TE) (tl th : TO) : TE := fun σ H Q => te σ H fun x H1 => tl σ H1 fun l H2 => th σ H2 fun u H3 => r x l u H3 Q
theorem pe_slice {r : V → Option Int → Option Int → Hp → VK → Prop} (hr : SlR X r) (he : PE X e te) (hl : PO X lo tl) (hu : PO X hi th) : PE X (.Subscript e (.Slice lo hi none p2) pos) (tSl r te tl th) := by
  intro pins s σ H Q I h
  refine Subscript_ (thn (he pins s σ H _ I h) fun v s1 ⟨x, H1, I1, r1, q1⟩ => ?_)
  refine wpAny_Slice (thn (hl pins s1 σ H1 _ I1 q1) fun vl s2 ⟨l, H2, I2, pl, q2⟩ => thn (hu pins s2 σ H2 _ I2 q2) fun vu s3 ⟨u, H3, I3, pu, q3⟩ => ?_)
  rw [evalPart_none]
  refine wpAny_pure ?_
  have I4 : Inv X pins σ H3 { s3 with heap := s3.heap.push { cls := .type "slice", data := .fields #[vl, vu, .none] } } := I3.kept (t' := s3.toks) fun b ob q => Heap.get?_push_of_some _ q
  obtain ⟨T, id, hT, ht, hg⟩ := hr pins { s3 with heap := s3.heap.push { cls := .type "slice", data := .fields #[vl, vu, .none] } } σ H3 x v vl vu l u s3.heap.objs.size Q I4 r1 (Heap.IsSliceOf.new ..) pl pu q3
  show wpAny (model X.prog X.w) X.A (subscriptTail e (.Slice lo hi none p2) v (.ref s3.heap.objs.size)) (EP X pins σ Q) X.xe { s3 with heap := s3.heap.push { cls := .type "slice", data := .fields #[vl, vu, .none] } }
  exact tail_any (ops := [.ref s3.heap.objs.size, v]) ht hT hg (by with_unfolding_all rfl)
noncomputable def cutV (xs : List V) (lo hi : Option Int) : List V := (xs.drop (HT.sIx xs.length 0 lo)).take (HT.sIx xs.length xs.length hi - HT.sIx xs.length 0 lo)
theorem cutV_length (xs : List V) (lo hi : Option Int) : (cutV xs lo hi).length ≤ xs.length := by
  unfold cutV
  rw [List.length_take, List.length_drop]
  omega
def rSlT (K : PySem.W.Frag) : V → Option Int → Option Int → Hp → VK → Prop := fun x lo hi H Q => ∃ a xs, x = .ref a ∧ SqT K H a xs ∧
  ¬ (HT.sIx xs.length 0 lo = 0 ∧ HT.sIx xs.length xs.length hi = xs.length) ∧ ∀ p, H p = none → Q (.ref p) (upd H p (.tup (cutV xs lo hi)))
theorem sl_tup : SlR X (rSlT X.K) := by
  intro pins s σ H x v vl vu lo hi sl Q I rx hs pl pu h
  obtain ⟨a, xs, rfl, hx, hw, q⟩ := h
  cases rx
  obtain ⟨its, r, ht, hz⟩ := I.tuple hx
  have hlen : its.toArray.size = xs.length := by rw [List.size_toArray]; exact r.length.symm
  refine ⟨"tuple", _, PyProof.Rows.slot_tuple_getitem.lookup, ht.typeIs, ?_⟩
  refine HT.getItem_tuple_cut ht hs pl pu (by rw [hlen]; exact hw) ?_ (by rw [hlen]; exact hz)
  rw [hlen]
  refine ⟨.ref s.heap.objs.size, _, I.laid (t' := s.toks) (o := .tup (cutV xs lo hi)) (fun b ob q => Heap.get?_push_of_some _ q) (Nat.le_refl _) ?_, rfl, q _ (I.hok.fresh (Nat.le_refl _))⟩
  exact ⟨Nat.le_trans (cutV_length xs lo hi) hz, _, (r.drop (HT.sIx xs.length 0 lo)).take (HT.sIx xs.length xs.length hi - HT.sIx xs.length 0 lo), IsTup.new _ _, fun o q => by rw [Heap.get?_push_size _ rfl] at q; cases q; rfl⟩
def rCatT (K : PySem.W.Frag) : R2 := fun x y H Q => ∃ a b xs ys, x = .ref a ∧ y = .ref b ∧ SqT K H a xs ∧ SqT K H b ys ∧ xs ≠ [] ∧ xs.length + ys.length ≤ sizeLine ∧
  (ys = [] → Q (.ref a) H) ∧ (ys ≠ [] → ∀ p, H p = none → Q (.ref p) (upd H p (.tup (xs ++ ys))))
theorem Vals.nil_iff {xs : List V} {us : List Value} (r : Vals xs us) : us = [] ↔ xs = [] := by
  cases r with
  | nil => simp
  | cons _ _ => simp
theorem op_catT : OpR X (binaryOp .Add) (rCatT X.K) := by
  intro pins s σ H x y v u Q I rx ry h
  obtain ⟨a, b, xs, ys, rfl, rfl, ha, hb, hx, hz, q1, q2⟩ := h
  cases rx
  cases ry
  obtain ⟨its, r1, p1, _⟩ := I.tuple ha
  obtain ⟨its2, r2, p2, _⟩ := I.tuple hb
  refine HT.cat_tup p1 p2 (fun z => hx (r1.nil_iff.mp z)) (fun z => ⟨.ref a, H, I, rfl, q1 (r2.nil_iff.mp z)⟩) (fun z => ?_) (by rw [← r1.length, ← r2.length]; exact hz)
  refine ⟨.ref s.heap.objs.size, _, I.laid (t' := s.toks) (o := .tup (xs ++ ys)) (fun b ob q => Heap.get?_push_of_some _ q) (Nat.le_refl _) ?_, rfl, q2 (fun w => z (r2.nil_iff.mpr w)) _ (I.hok.fresh (Nat.le_refl _))⟩
  exact ⟨by rw [List.length_append]; exact hz, _, r1.append r2, IsTup.new _ _, fun o q => by rw [Heap.get?_push_size _ rfl] at q; cases q; rfl⟩
end
end L2
namespace L2
open PySem PySem.Spec PyProof.Rows
noncomputable def ixN (n : Nat) (i : Int) : Option Nat := if 0 ≤ i then (if i < n then some i.toNat else none) else if -(n : Int) ≤ i then some (i + n).toNat else none
noncomputable def atI {α : Type} (xs : List α) (i : Int) : Option α := (ixN xs.length i).bind fun j => xs[j]?
theorem ixN_seq {n : Nat} {i : Int} {j : Nat} (h : ixN n i = some j) : seqIndex? i n = some j ∧ j < n ∧ -(n : Int) ≤ i ∧ i < n := by
  unfold ixN at h
  by_cases h0 : 0 ≤ i
  · rw [if_pos h0] at h
    by_cases h1 : i < n
    · rw [if_pos h1] at h
      have e : i.toNat = j := Option.some.inj h
      exact ⟨by rw [seqIndex_of h0 h1, e], by omega, by omega, h1⟩
    · rw [if_neg h1] at h; cases h
  · rw [if_neg h0] at h
    by_cases h1 : -(n : Int) ≤ i
    · rw [if_pos h1] at h
      have e : (i + n).toNat = j := Option.some.inj h
      exact ⟨by rw [seqIndex_neg (by omega) h1, e], by omega, h1, by omega⟩
    · rw [if_neg h1] at h; cases h
theorem atI_get {α : Type} {xs : List α} {i : Int} {v : α} (h : atI xs i = some v) : ∃ j, seqIndex? i xs.length = some j ∧ xs[j]? = some v ∧ j < xs.length ∧ -(xs.length : Int) ≤ i ∧ i < xs.length := by
  unfold atI at h
  cases e : ixN xs.length i with
  | none => rw [e] at h; cases h
  | some j =>
    rw [e] at h
    obtain ⟨h1, h2, h3, h4⟩ := ixN_seq e
    exact ⟨j, h1, h, h2, h3, h4⟩
theorem atI_nat {α : Type} {xs : List α} {j : Nat} {v : α} (h : xs[j]? = some v) : atI xs (j : Int) = some v := by
  have hj : j < xs.length := (List.getElem?_eq_some_iff.mp h).1
  have e : ixN xs.length (j : Int) = some j := by
    unfold ixN
    rw [if_pos (by omega), if_pos (by omega)]; simp
  unfold atI; rw [e]; exact h
theorem atI_last {α : Type} (xs : List α) (v : α) : atI (xs ++ [v]) (-1) = some v := by
  have hl : (xs ++ [v]).length = xs.length + 1 := by simp
  have e : ixN (xs ++ [v]).length (-1) = some xs.length := by
    unfold ixN
    rw [hl, if_neg (by decide), if_pos (by omega)]
    congr 1
    omega
  unfold atI
  rw [e]
  show (xs ++ [v])[xs.length]? = some v
  simp
def PlainIx (b : Expr) : Prop := ∀ o i, subscripted b false o i = operate [o, i] (getItem o i)
def IxR (X : Cx) (r : R2) : Prop :=
  ∀ (value slice : Expr) (pins : List (Addr × Obj)) (s : Shared) (σ : St) (H : Hp) (x y : V) (v u : Value) (Q : VK), Inv X pins σ H s → RelV x v → RelV y u → r x y H Q →
    subscripted slice false v u = operate [v, u] (getItem v u) → wpAny (model X.prog X.w) X.A (subscriptTail value slice v u) (EP X pins σ Q) X.xe s
def MtR (X : Cx) (id : String) (r : V → List V → Hp → VK → Prop) : Prop :=
  ∀ (pins : List (Addr × Obj)) (s : Shared) (σ : St) (H : Hp) (x : V) (xs : List V) (v : Value) (us : List Value) (Q : VK), Inv X pins σ H s → RelV x v → Vals xs us → r x xs H Q →
    wpAny (model X.prog X.w) X.A (call (.builtin id) (v :: us)) (EP X pins σ Q) X.xe s
section
variable {X : Cx} {a b : Expr} {ta tb : TE} {pos : Pos}
theorem pe_ix {r : R2} (hr : IxR X r) (ha : PE X a ta) (hb : PE X b tb) (hs : PlainIx b) : PE X (.Subscript a b pos) (tOp r ta tb) := by
  intro pins s σ H Q I h
  exact Subscript_ (binT ha hb I h fun v u s2 x y H2 I2 rx ry q => hr a b pins s2 σ H2 x y v u Q I2 rx ry q (hs _ _))
def rIxL (K : PySem.W.Frag) : R2 := fun x y H Q => ∃ p xs i v, x = .ref p ∧ y = .int i ∧ SqL K H p xs ∧ atI xs i = some v ∧ Q v H
def rIxT (K : PySem.W.Frag) : R2 := fun x y H Q => ∃ p xs i v, x = .ref p ∧ y = .int i ∧ SqT K H p xs ∧ atI xs i = some v ∧ Q v H
def rIxS : R2 := fun x y H Q => ∃ z i c, x = .str z ∧ y = .int i ∧ z.length ≤ sizeLine ∧ atI z.cps.toList i = some c ∧ Q (.str ⟨#[c]⟩) H
theorem ix_list : IxR X (rIxL X.K) := by
  intro value slice pins s σ H x y v u Q I rx ry h hs
  obtain ⟨p, xs, i, z, rfl, rfl, hq, he, q⟩ := h
  cases rx
  obtain ⟨t, rfl⟩ := ry
  obtain ⟨its, r, pl, hz⟩ := I.list hq
  obtain ⟨j, h1, h2, h3, h4, h5⟩ := atI_get he
  obtain ⟨w, ew, rw'⟩ := r.get h2
  have hl := r.length
  have hn := line63
  have fin : EP X pins σ Q w s := ⟨z, H, I, rw', q⟩
  by_cases h0 : 0 ≤ i
  · have hj : i.toNat = j := by
      rw [seqIndex_of h0 h5] at h1
      exact Option.some.inj h1
    exact item_listR pl.isList h0 (by omega) (by rw [hj]; simpa using ew) fin hs
  · have hj : (i + (its.toArray.size : Int)).toNat = j := by
      rw [seqIndex_neg (by omega) h4] at h1
      rw [List.size_toArray, ← hl]
      exact Option.some.inj h1
    exact subscriptTail_builtinR (x := w) pl.isList.typeIs slot_list_getitem.lookup
      (wpAny_getItem_list_neg (Q := fun r s' => r = w ∧ EP X pins σ Q r s') pl.isList (by omega) (by rw [List.size_toArray] <;> omega) (by omega) (by rw [hj]; simpa using ew) ⟨rfl, fin⟩) hs
theorem ix_tup : IxR X (rIxT X.K) := by
  intro value slice pins s σ H x y v u Q I rx ry h hs
  obtain ⟨p, xs, i, z, rfl, rfl, hq, he, q⟩ := h
  cases rx
  obtain ⟨t, rfl⟩ := ry
  obtain ⟨its, r, pl, hz⟩ := I.tuple hq
  obtain ⟨j, h1, h2, h3, h4, h5⟩ := atI_get he
  obtain ⟨w, ew, rw'⟩ := r.get h2
  have hl := r.length
  have hn := line63
  have fin : EP X pins σ Q w s := ⟨z, H, I, rw', q⟩
  exact subscriptTail_builtinR (x := w) pl.typeIs slot_tuple_getitem.lookup
    (getItem_tuple (j := j) (Q := fun r s' => r = w ∧ EP X pins σ Q r s') pl (by omega) (by omega) (by rw [List.size_toArray, ← hl]; exact h1) (by simpa using ew) ⟨rfl, fin⟩) hs
theorem ix_str : IxR X rIxS := by
  intro value slice pins s σ H x y v u Q I rx ry h hs
  obtain ⟨z, i, c, rfl, rfl, hz, he, q⟩ := h
  obtain ⟨t, rfl⟩ := rx
  obtain ⟨t', rfl⟩ := ry
  obtain ⟨j, h1, h2, h3, h4, h5⟩ := atI_get he
  have hl : z.cps.toList.length = z.length := by simp [Str.length]
  rw [hl] at h1 h4 h5
  have hn := line63
  exact tail_any (typeIs_str s z t) slot_str_getitem.lookup (getItem_str (c := c) (by
    have e1 : decide (i < -(2 ^ 63 : Int)) = false := decide_eq_false (by omega)
    have e2 : decide (i ≥ 2 ^ 63) = false := decide_eq_false (by omega)
    rw [e1, e2, Bool.or_false]) (by rw [h1]; simpa using h2) ⟨.str ⟨#[c]⟩, H, I.tok _, ⟨_, rfl⟩, q⟩) hs
theorem mapSeq_set (its : List Value) (n j : Nat) (u : Value) : Obj.mapSeq (·.setIfInBounds j u) { cls := .type "list", data := .seq its.toArray n } = { cls := .type "list", data := .seq (its.set j u).toArray n } := by
  simp [Obj.mapSeq]
theorem Inv.lst {pins : List (Addr × Obj)} {σ : St} {H : Hp} {s : Shared} {p : Addr} {xs : List V} (I : Inv X pins σ H s) (h : H p = some (.lst xs)) :
    ∃ (its : List Value) (n : Nat), Vals xs its ∧ s.heap.get? p = some { cls := .type "list", data := .seq its.toArray n } ∧ xs.length ≤ sizeLine := by
  obtain ⟨z, its, n, r, e⟩ := I.hok p _ h
  exact ⟨its, n, r, e, z⟩
theorem Inv.lstUpd {pins : List (Addr × Obj)} {σ : St} {H : Hp} {s : Shared} {p : Addr} {xs ys : List V} {its its' : List Value} {n n' : Nat} {f : Obj → Obj} (I : Inv X pins σ H s) (h : H p = some (.lst xs))
    (ho : s.heap.get? p = some { cls := .type "list", data := .seq its.toArray n }) (hf : f { cls := .type "list", data := .seq its.toArray n } = { cls := .type "list", data := .seq its'.toArray n' }) (r : Vals ys its') (hz : ys.length ≤ sizeLine) (t : Nat) :
    Inv X pins σ (upd H p (.lst ys)) { s with heap := s.heap.update p f, toks := t } := by
  have e : (s.heap.update p f).get? p = some { cls := .type "list", data := .seq its'.toArray n' } := by
    rw [Heap.get?_update_self f ho (by rw [hf] <;> rfl), hf]
  refine I.write (x := p) (e := p) (by rw [h]; trivial) (.inl rfl) (fun b u hb q => (Heap.get?_update_other _ _ (Ne.symm hb)).trans q) ⟨_, e⟩ ?_
  exact ⟨hz, its', n', r, e⟩
def rSetL : V → V → V → Hp → (Hp → Prop) → Prop := fun o i v H Q => ∃ p xs k j, o = .ref p ∧ i = .int k ∧ H p = some (.lst xs) ∧ ixN xs.length k = some j ∧ Q (upd H p (.lst (xs.set j v)))
theorem set_list : PSet X rSetL := by
  intro pins s σ H o i v ov iv u Q I ro ri rv h
  obtain ⟨p, xs, k, j, rfl, rfl, hp, hj, q⟩ := h
  cases ro
  obtain ⟨t, rfl⟩ := ri
  obtain ⟨its, n, r, ho, hz⟩ := I.lst hp
  obtain ⟨h1, h2, h3, h4⟩ := ixN_seq hj
  have hl := r.length
  have hn := line63
  have I' : Inv X pins σ (upd H p (.lst (xs.set j v))) { s with heap := s.heap.update p (Obj.mapSeq (·.setIfInBounds j u)) } :=
    I.lstUpd hp ho (mapSeq_set its n j u) (r.set rv j) (by rw [List.length_set]; exact hz) s.toks
  by_cases h0 : 0 ≤ k
  · have hk : k.toNat = j := by
      rw [seqIndex_of h0 h4] at h1
      exact Option.some.inj h1
    exact PySem.W.ki_setAt ho h0 (by omega) (by rw [List.size_toArray, ← hl]; exact h4) (by rw [hk]; exact ⟨_, I', q⟩)
  · have hk : (k + (its.toArray.size : Int)).toNat = j := by
      rw [seqIndex_neg (by omega) h3] at h1
      rw [List.size_toArray, ← hl]
      exact Option.some.inj h1
    exact PySem.W.ki_setBack ho (by omega) (by rw [List.size_toArray, ← hl]; exact h3) (by omega) (by rw [hk]; exact ⟨_, I', q⟩)
theorem slice_bounds (lo hi : Option Int) (n : Nat) : (sliceBounds lo hi none n).1 = ((HT.sIx n 0 lo : Nat) : Int) ∧ (sliceBounds lo hi none n).2.1 = ((HT.sIx n n hi : Nat) : Int) ∧ (sliceBounds lo hi none n).2.2 = 1 := by
  refine ⟨?_, ?_, rfl⟩
  · cases lo with
    | none => simp [sliceBounds, HT.sIx]
    | some i =>
      simp only [sliceBounds, HT.sIx, Option.getD_none, show (1 : Int) > 0 by decide, if_true]
      by_cases h : i < 0
      · simp only [h, if_true] <;> omega
      · simp only [h, if_false] <;> omega
  · cases hi with
    | none => simp [sliceBounds, HT.sIx]
    | some i =>
      simp only [sliceBounds, HT.sIx, Option.getD_none, show (1 : Int) > 0 by decide, if_true]
      by_cases h : i < 0
      · simp only [h, if_true] <;> omega
      · simp only [h, if_false] <;> omega
theorem slicePick_cut (its : List Value) (lo hi : Option Int) : slicePick its.toArray lo hi none = ((its.drop (HT.sIx its.length 0 lo)).take (HT.sIx its.length its.length hi - HT.sIx its.length 0 lo)).toArray := by
  obtain ⟨h1, h2, h3⟩ := slice_bounds lo hi its.toArray.size
  unfold slicePick
  rw [h1, h2, h3]
  simp only [sliceRange_one, pick_run, List.size_toArray] <;> rfl
def rSlL (K : PySem.W.Frag) : V → Option Int → Option Int → Hp → VK → Prop := fun x lo hi H Q => ∃ a xs, x = .ref a ∧ SqL K H a xs ∧ ∀ p, H p = none → Q (.ref p) (upd H p (.lst (cutV xs lo hi)))
theorem sl_list : SlR X (rSlL X.K) := by
  intro pins s σ H x v vl vu lo hi sl Q I rx hs pl pu h
  obtain ⟨a, xs, rfl, hx, q⟩ := h
  cases rx
  obtain ⟨its, r, ht, hz⟩ := I.list hx
  have hlen := r.length
  refine ⟨"list", _, slot_list_getitem.lookup, ht.isList.typeIs, ?_⟩
  refine wpAny_getItem_list_slice ht.isList hs pl pu .none (by simp) ?_ (by rw [List.size_toArray] <;> omega)
  rw [slicePick_cut, ← hlen]
  refine ⟨.ref s.heap.objs.size, _, I.laid (t' := s.toks) (o := .lst (cutV xs lo hi)) (fun b ob q => Heap.get?_push_of_some _ q) (Nat.le_refl _) ?_, rfl, q _ (I.hok.fresh (Nat.le_refl _))⟩
  exact ⟨Nat.le_trans (cutV_length xs lo hi) hz, _, 0, (r.drop (HT.sIx xs.length 0 lo)).take (HT.sIx xs.length xs.length hi - HT.sIx xs.length 0 lo), Heap.get?_push_size _ rfl⟩
noncomputable def flatV : V → Bool
  | .non => true
  | .bl _ => true
  | .int _ => true
  | .str _ => true
  | _ => false
noncomputable def eqV : V → V → Bool
  | .non, .non => true
  | .bl a, .bl b => a == b
  | .bl a, .int b => (if a then 1 else 0) == b
  | .int a, .bl b => a == (if b then 1 else 0)
  | .int a, .int b => a == b
  | .str a, .str b => a == b
  | _, _ => false
theorem eqAt_V {A : Around} {s : Shared} {y x : V} {u v : Value} (ry : RelV y u) (rx : RelV x v) (fy : flatV y = true) (fx : flatV x = true) : SeqAt.EqAt A s u v (eqV y x) := by
  cases y with
  | non =>
    cases ry
    cases x with
    | non => cases rx; exact SeqAt.EqAt.same _
    | bl b => cases rx; exact SeqAt.EqAt.none_bool b
    | int b => obtain ⟨t, rfl⟩ := rx; exact SeqAt.EqAt.none_int b t
    | str b => obtain ⟨t, rfl⟩ := rx; exact SeqAt.EqAt.none_str b t
    | _ => exact absurd (show false = true from fx) Bool.false_ne_true
  | bl a =>
    cases ry
    cases x with
    | non => cases rx; exact SeqAt.EqAt.bool_none a
    | bl b => cases rx; exact SeqAt.EqAt.bool_bool a b
    | int b => obtain ⟨t, rfl⟩ := rx; exact SeqAt.EqAt.bool_int a b t
    | str b => obtain ⟨t, rfl⟩ := rx; exact SeqAt.EqAt.bool_str a b t
    | _ => exact absurd (show false = true from fx) Bool.false_ne_true
  | int a =>
    obtain ⟨t', rfl⟩ := ry
    cases x with
    | non => cases rx; exact SeqAt.EqAt.int_none a t'
    | bl b => cases rx; exact SeqAt.EqAt.int_bool a t' b
    | int b => obtain ⟨t, rfl⟩ := rx; exact SeqAt.EqAt.int_int a t' b t
    | str b => obtain ⟨t, rfl⟩ := rx; exact SeqAt.EqAt.int_str a t' b t
    | _ => exact absurd (show false = true from fx) Bool.false_ne_true
  | str a =>
    obtain ⟨t', rfl⟩ := ry
    cases x with
    | non => cases rx; exact SeqAt.EqAt.str_none a t'
    | bl b => cases rx; exact SeqAt.EqAt.str_bool a t' b
    | int b => obtain ⟨t, rfl⟩ := rx; exact SeqAt.EqAt.str_int a t' b t
    | str b => obtain ⟨t, rfl⟩ := rx; exact SeqAt.EqAt.str_str a t' b t
    | _ => exact absurd (show false = true from fx) Bool.false_ne_true
  | _ => exact absurd (show false = true from fy) Bool.false_ne_true
noncomputable def eqU (x : V) (u : Value) : Bool := match u with
  | .none => eqV .non x
  | .bool b => eqV (.bl b) x
  | .int i _ => eqV (.int i) x
  | .str z _ => eqV (.str z) x
  | _ => false
theorem eqU_of {x y : V} {u : Value} (r : RelV y u) (f : flatV y = true) : eqU x u = eqV y x := by
  cases y with
  | non => cases r; rfl
  | bl b => cases r; rfl
  | int i => obtain ⟨t, rfl⟩ := r; rfl
  | str z => obtain ⟨t, rfl⟩ := r; rfl
  | _ => exact absurd (show false = true from f) Bool.false_ne_true
theorem any_eqU {x : V} : ∀ {xs : List V} {us : List Value}, Vals xs us → xs.all flatV = true → us.any (eqU x) = xs.any fun y => eqV y x
  | _, _, .nil, _ => rfl
  | y :: xs, u :: us, .cons r t, f => by
    rw [List.all_cons, Bool.and_eq_true] at f
    rw [List.any_cons, List.any_cons, eqU_of r f.1, any_eqU t f.2]
theorem mem_eqAt {A : Around} {s : Shared} {x : V} {v : Value} (rx : RelV x v) (fx : flatV x = true) : ∀ {xs : List V} {us : List Value}, Vals xs us → xs.all flatV = true → ∀ u ∈ us, SeqAt.EqAt A s u v (eqU x u)
  | _, _, .nil, _ => fun u hu => by cases hu
  | y :: xs, u :: us, .cons r t, f => fun u' hu => by
    rw [List.all_cons, Bool.and_eq_true] at f
    rcases List.mem_cons.mp hu with rfl | hu
    · rw [eqU_of r f.1]; exact eqAt_V r rx f.1 fx
    · exact mem_eqAt rx fx t f.2 u' hu
noncomputable def inV (x : V) (xs : List V) : Bool := xs.any fun y => eqV y x
def rIn (K : PySem.W.Frag) (neg : Bool) : R2 := fun x y H Q => ∃ p xs, y = .ref p ∧ (SqL K H p xs ∨ SqT K H p xs) ∧ flatV x = true ∧ xs.all flatV = true ∧ Q (.bl (if neg then !inV x xs else inV x xs)) H
theorem op_notIn_seq : OpR X (compareOp .NotIn) (rIn X.K true) := by
  intro pins s σ H x y v u Q I rx ry h
  obtain ⟨p, xs, rfl, hq, fx, fs, q⟩ := h
  cases ry
  rcases hq with hq | hq
  · obtain ⟨its, r, pl, hz⟩ := I.list hq
    refine SeqAt.notIn_listAt (eqU x) pl.isList (fun w hw => mem_eqAt rx fx r fs w (by simpa using hw)) ⟨.bl _, H, I, rfl, ?_⟩
    rw [show its.toArray.any (eqU x) = its.any (eqU x) by simp, any_eqU r fs]
    exact q
  · obtain ⟨its, r, pl, hz⟩ := I.tuple hq
    refine SeqAt.notIn_tupleAt (eqU x) pl (fun w hw => mem_eqAt rx fx r fs w (by simpa using hw)) ⟨.bl _, H, I, rfl, ?_⟩
    rw [show its.toArray.any (eqU x) = its.any (eqU x) by simp, any_eqU r fs]
    exact q
theorem call_len_seq : CallR X (.builtin "len") (fun xs H Q => ∃ p ys, xs = [.ref p] ∧ (SqL X.K H p ys ∨ SqT X.K H p ys) ∧ Q (.int ys.length) H) := by
  intro pins s σ H xs us Q I r h
  obtain ⟨p, ys, rfl, hq, q⟩ := h
  obtain ⟨u, rfl, rx⟩ := vals1 r
  cases rx
  have hn := line63
  rcases hq with hq | hq
  · obtain ⟨its, r', pl, hz⟩ := I.list hq
    have hlen := r'.length
    exact Calls.call_len_list pl.isList (by simp only [List.size_toArray] <;> omega) ⟨.int ys.length, H, I.tok _, ⟨s.toks + 1, by rw [List.size_toArray, hlen]⟩, q⟩
  · obtain ⟨its, r', pl, hz⟩ := I.tuple hq
    have hlen := r'.length
    exact len_tuple pl (by simp only [List.size_toArray] <;> omega) ⟨.int ys.length, H, I.tok _, ⟨s.toks + 1, by rw [List.size_toArray, hlen]⟩, q⟩
theorem call_len_str : CallR X (.builtin "len") (fun xs H Q => ∃ z, xs = [.str z] ∧ z.length ≤ sizeLine ∧ Q (.int z.length) H) := by
  intro pins s σ H xs us Q I r h
  obtain ⟨z, rfl, hz, q⟩ := h
  obtain ⟨u, rfl, t, rfl⟩ := vals1 r
  have hn := line63
  exact len_str (by omega) ⟨.int z.length, H, I.tok _, ⟨_, rfl⟩, q⟩
theorem call_list_of : CallR X (.type "list") (fun xs H Q => ∃ p ys, xs = [.ref p] ∧ (SqL X.K H p ys ∨ SqT X.K H p ys) ∧ ∀ l, H l = none → Q (.ref l) (upd H l (.lst ys))) := by
  intro pins s σ H xs us Q I r h
  obtain ⟨p, ys, rfl, hq, q⟩ := h
  obtain ⟨u, rfl, rx⟩ := vals1 r
  cases rx
  have fin : ∀ (its : List Value), Vals ys its → ys.length ≤ sizeLine → ∀ (h' : Heap) (c' : Nat), (∀ b o', s.heap.get? b = some o' → h'.get? b = some o') →
      h'.get? s.heap.objs.size = some { cls := .type "list", dict := none, data := .seq its.toArray c', slots := #[] } → EP X pins σ Q (.ref s.heap.objs.size) { s with heap := h' } := fun its r' hz h' c' kp e =>
    ⟨.ref s.heap.objs.size, _, I.laid (t' := s.toks) kp (Nat.le_refl _) (show ObjOk X.prog X.w _ h' _ (.lst ys) from ⟨hz, its, c', r', e⟩), rfl, q _ (I.hok.fresh (Nat.le_refl _))⟩
  rcases hq with hq | hq
  · obtain ⟨its, r', pl, hz⟩ := I.list hq
    have hlen := r'.length
    obtain ⟨o, ho, hc, n, hd⟩ := pl.isList
    exact call_list_seq p (.inl rfl) ho hc hd (fun h' c' kp e => fin its r' hz h' c' kp e) (by simp only [List.size_toArray] <;> omega)
  · obtain ⟨its, r', pl, hz⟩ := I.tuple hq
    have hlen := r'.length
    obtain ⟨o, ho, hc, n, hd⟩ := pl
    exact call_list_seq p (.inr rfl) ho hc hd (fun h' c' kp e => fin its r' hz h' c' kp e) (by simp only [List.size_toArray] <;> omega)
theorem call_tuple_of : CallR X (.type "tuple") (fun xs H Q => ∃ p ys, xs = [.ref p] ∧ ((SqL X.K H p ys ∧ ∀ l, H l = none → Q (.ref l) (upd H l (.tup ys))) ∨ (SqT X.K H p ys ∧ Q (.ref p) H))) := by
  intro pins s σ H xs us Q I r h
  obtain ⟨p, ys, rfl, h⟩ := h
  obtain ⟨u, rfl, rx⟩ := vals1 r
  cases rx
  rcases h with ⟨hq, q⟩ | ⟨hq, q⟩
  · obtain ⟨its, r', pl, hz⟩ := I.list hq
    have hlen := r'.length
    refine call_tuple_list pl.isList (fun h' kp => ?_) (by simp only [List.size_toArray] <;> omega)
    have I1 : Inv X pins σ H { s with heap := h' } := I.kept (t' := s.toks) kp
    have I2 : Inv X pins σ (upd H h'.objs.size (.tup ys)) { s with heap := h'.push { cls := .type "tuple", data := .seq its.toArray } } :=
      I1.laid (t' := s.toks) (fun b o e => Heap.get?_push_of_some _ e) (Nat.le_refl _) (show ObjOk X.prog X.w _ _ _ (.tup ys) from ⟨hz, its, r', IsTup.new _ _, fun o q => by rw [Heap.get?_push_size _ rfl] at q; cases q; rfl⟩)
    exact ⟨.ref h'.objs.size, _, I2, rfl, q _ (I1.hok.fresh (Nat.le_refl _))⟩
  · obtain ⟨its, r', pl, hz⟩ := I.tuple hq
    exact call_tuple_same pl ⟨.ref p, H, I, rfl, q⟩
def tyV (K : PySem.W.Frag) (T : String) (x : V) (H : Hp) : Prop := match x with
  | .str _ => T = "str"
  | .int _ => T = "int"
  | .ref p => (T = "list" ∧ ∃ xs, SqL K H p xs) ∨ (T = "tuple" ∧ ∃ o, K.lookup p = some o ∧ o.cls = .type "tuple" ∧ o.dict = none) ∨
      (T = "dict" ∧ ((∃ kvs, H p = some (.dK kvs)) ∨ ∃ kvs, H p = some (.dT kvs))) ∨ (T = "set" ∧ ∃ S n, H p = some (.set S n))
  | _ => False
theorem tyV_is {pins : List (Addr × Obj)} {σ : St} {H : Hp} {s : Shared} {T : String} {x : V} {v : Value} (I : Inv X pins σ H s) (r : RelV x v) (ty : tyV X.K T x H) :
    s.TypeIs v T ∧ ∀ a, v = .ref a → ∃ ob, s.heap.get? a = some ob ∧ ob.dict = none := by
  cases x with
  | str z =>
    obtain ⟨t, rfl⟩ := r
    cases (show T = "str" from ty)
    exact ⟨typeIs_str s z t, fun _ e => nomatch e⟩
  | int i =>
    obtain ⟨t, rfl⟩ := r
    cases (show T = "int" from ty)
    exact ⟨typeIs_int s i t, fun _ e => nomatch e⟩
  | ref p =>
    cases r
    rcases ty with ⟨rfl, xs, hq⟩ | ⟨rfl, o, hk, hc, hd⟩ | ⟨rfl, hk⟩ | ⟨rfl, S, n, hk⟩
    · obtain ⟨its, _, pl, _⟩ := I.list hq
      refine ⟨pl.isList.typeIs, fun a e => ?_⟩
      cases e
      obtain ⟨o, n, e, c, hd, _⟩ := pl
      exact ⟨o, e, hd⟩
    · refine ⟨⟨o, I.kIn p o hk, hc⟩, fun a e => ?_⟩
      cases e
      exact ⟨o, I.kIn _ o hk, hd⟩
    · have z : ∃ o, s.heap.get? p = some o ∧ o.ExactDict := by
        rcases hk with ⟨kvs, hk⟩ | ⟨kvs, hk⟩
        · obtain ⟨_, _, _, _, o, _, _, e, ex, _⟩ := I.hok p _ hk
          exact ⟨o, e, ex⟩
        · obtain ⟨_, _, _, _, o, _, _, e, ex, _⟩ := I.hok p _ hk
          exact ⟨o, e, ex⟩
      obtain ⟨o, e, ex⟩ := z
      refine ⟨⟨o, e, ex.1⟩, fun a e2 => ?_⟩
      cases e2
      exact ⟨o, e, ex.2.1⟩
    · obtain ⟨o, _, _, _, e, ex, _⟩ := I.hok p _ hk
      refine ⟨⟨o, e, ex.1⟩, fun a e2 => ?_⟩
      cases e2
      exact ⟨o, e, ex.2.1⟩
  | _ => exact False.elim ty
def tBM0 (K : PySem.W.Frag) (T : String) (r : V → List V → Hp → VK → Prop) (to : TE) : TE := fun σ H Q => to σ H fun x H1 => tyV K T x H1 ∧ r x [] H1 Q
def tBM (K : PySem.W.Frag) (T : String) (r : V → List V → Hp → VK → Prop) (to : TE) (t : TA) : TE := fun σ H Q => to σ H fun x H1 => tyV K T x H1 ∧ t σ H1 fun xs H2 => r x xs H2 Q
variable {o e : Expr} {es : List Expr} {to : TE} {t : TA} {name : Str} {apos cpos : Pos} {T id : String} {r : V → List V → Hp → VK → Prop}
theorem pe_bm0 (pa : PlainAttrs T) (slot : Slot T name id) (hty : typeOf (.builtin id) = pure (.type "method_descriptor")) (hm : MtR X id r) (ho : PE X o to)
    (hbase : attributeBase o name X.env (eval o X.env) = eval o X.env := by rfl) (hline : (apos.endLine == cpos.line) = true := by rfl) : PE X (.Call (.Attribute o name apos) [] [] cpos) (tBM0 X.K T r to) := by
  intro pins s σ H Q I h
  refine wpAny_Call_method0_late hbase hline (thn (ho pins s σ H _ I h) fun v s1 ⟨x, H1, I1, r1, ty, q1⟩ => ?_)
  obtain ⟨h1, h2⟩ := tyV_is I1 r1 ty
  exact ⟨T, id, pa, slot, hty, h1, h2, Calls.callWith_builtin rfl (PySem.evalArgs_none (hm pins s1 σ H1 x [] v [] Q I1 r1 .nil q1))⟩
theorem pe_bm (pa : PlainAttrs T) (slot : Slot T name id) (hty : typeOf (.builtin id) = pure (.type "method_descriptor")) (hm : MtR X id r) (ho : PE X o to) (ha : PA X (e :: es) t)
    (hbase : attributeBase o name X.env (eval o X.env) = eval o X.env := by rfl)
    (hfew : ((backTo cpos (starEach (e :: es) X.env)).all (fun x => !x.1) && (backToKw cpos (keywordEach [] X.env)).all (fun x => x.1.isSome)
      && decide ((e :: es).length + ([] : List Keyword).length + (if ([] : List Keyword).isEmpty then 0 else 1) < 30)) = true := by rfl)
    (hline : (apos.endLine == cpos.line) = true := by rfl) (hs : starEach (e :: es) X.env = (false, eval e X.env) :: starEach es X.env := by rfl) (hplain : (backTo cpos (starEach es X.env)).any (·.1) = false := by rfl) :
    PE X (.Call (.Attribute o name apos) (e :: es) [] cpos) (tBM X.K T r to t) := by
  intro pins s σ H Q I h
  refine wpAny_Call_method_late hbase hfew hline rfl (thn (ho pins s σ H _ I h) fun v s1 ⟨x, H1, I1, r1, ty, q1⟩ => ?_)
  obtain ⟨h1, h2⟩ := tyV_is I1 r1 ty
  refine ⟨T, id, pa, slot, hty, h1, h2, ?_⟩
  have hA := ha cpos pins s1 σ H1 _ I1 q1
  rw [hs] at hA ⊢
  refine Calls.callWith_builtin (by show (false || (backTo cpos (starEach es X.env)).any (·.1)) = false; rw [hplain] <;> rfl) (Calls.evalArgs_plain ?_)
  exact thn hA fun us s2 z_16 => by obtain ⟨vs, H2, I2, r2, q2⟩ := z_16; exact hm pins s2 σ H2 x vs v us Q I2 r1 r2 q2
/- xs.append(e), list.index on a module's tuple .. are MtR facts of 06m -/
end
end L2
namespace L2
open PySem PySem.Spec PyProof.Rows
def MtM (X : Cx) (id : String) (r : V → List V → Hp → VK → Prop) : Prop :=
  ∀ (pins : List (Addr × Obj)) (s : Shared) (σ : St) (H : Hp) (x : V) (xs : List V) (v : Value) (us : List Value) (Q : VK), Inv X pins σ H s → RelV x v → Vals xs us → r x xs H Q →
    wpAny (model X.prog X.w) X.A (call (.builtin id) (v :: us)) (EP X pins σ Q) X.xe s
theorem Vals.one : ∀ {x : V} {us : List Value}, Vals [x] us → ∃ u, us = [u] ∧ RelV x u
  | _, _, .cons r .nil => ⟨_, rfl, r⟩
theorem Vals.zero : ∀ {us : List Value}, Vals [] us → us = []
  | _, .nil => rfl
theorem Vals.dropLast {xs : List V} {us : List Value} (h : Vals xs us) : Vals xs.dropLast us.dropLast := by
  induction h with
  | nil => exact .nil
  | cons r t ih =>
    cases t with
    | nil => exact .nil
    | cons q t' => exact .cons r ih
theorem erase_last {α : Type} (l : List α) : l.eraseIdx (l.length - 1) = l.dropLast := by
  induction l with
  | nil => rfl
  | cons a r ih =>
    cases r with
    | nil => rfl
    | cons b r =>
      have e : (a :: b :: r).length - 1 = ((b :: r).length - 1) + 1 := by
        have h1 : (a :: b :: r).length = r.length + 2 := rfl
        have h2 : (b :: r).length = r.length + 1 := rfl
        omega
      rw [e, List.eraseIdx_cons_succ, ih]
      all_goals rfl
section
variable {X : Cx} {pins : List (Addr × Obj)} {σ : St} {H : Hp} {s : Shared} {l b : Addr} {xs ys zs : List V}
theorem Inv.lset {its its' : List Value} {n : Nat} {f : Array Value → Array Value} {t' : Nat} (I : Inv X pins σ H s) (hH : H l = some (.lst xs))
    (e : s.heap.get? l = some { cls := .type "list", data := .seq its.toArray n }) (hf : f its.toArray = its'.toArray) (hv : Vals ys its') (hz : ys.length ≤ sizeLine) :
    Inv X pins σ (upd H l (.lst ys)) { s with heap := s.heap.update l (Obj.mapSeq f), toks := t' } := by
  have q := PySem.IsL.update e f
  rw [hf] at q
  refine I.write (x := l) (e := l) (by rw [hH]; exact trivial) (.inl rfl) (fun b' u hb hu => (Heap.get?_update_other s.heap (Obj.mapSeq f) (Ne.symm hb)).trans hu) ⟨_, q⟩ ?_
  exact ⟨hz, its', _, hv, q⟩
theorem Inv.lnew {its : List Value} {t' : Nat} (I : Inv X pins σ H s) (hv : Vals ys its) (hz : ys.length ≤ sizeLine) :
    Inv X pins σ (upd H s.heap.objs.size (.lst ys)) { s with heap := s.heap.push { cls := .type "list", data := .seq its.toArray }, toks := t' } :=
  I.laid (fun _ _ q => Heap.get?_push_of_some _ q) (Nat.le_refl _) ⟨hz, its, 0, hv, Heap.get?_push_size _ rfl⟩
theorem Inv.fresh (I : Inv X pins σ H s) : H s.heap.objs.size = none := I.hok.fresh (Nat.le_refl _)
theorem Inv.lstM (I : Inv X pins σ H s) (hH : H l = some (.lst xs)) : xs.length ≤ sizeLine ∧ ∃ (its : List Value) (n : Nat), Vals xs its ∧ xs.length = its.length ∧ s.heap.get? l = some { cls := .type "list", data := .seq its.toArray n } := by
  obtain ⟨z, its, n, r, e⟩ := I.hok l _ hH
  exact ⟨z, its, n, r, r.length, e⟩
end
section
variable {X : Cx}
def rAppend : V → List V → Hp → VK → Prop := fun x vs H Q => ∃ l xs y, x = .ref l ∧ vs = [y] ∧ H l = some (.lst xs) ∧ xs.length < sizeLine ∧ Q .non (upd H l (.lst (xs ++ [y])))
theorem mt_append : MtM X "list.append" rAppend := by
  intro pins s σ H x vs v us Q I rx rv h
  obtain ⟨l, xs, y, rfl, rfl, hH, hz, q⟩ := h
  cases rx
  obtain ⟨u, rfl, ru⟩ := rv.one
  obtain ⟨z, its, n, r, hl, e⟩ := I.lstM hH
  refine call_meets F.slot_list_append ⟨_, e, rfl⟩ F.entry_list_append (F.args_list_append_2 _ _) (PySem.list_append l its.toArray n u (by rw [List.size_toArray]; omega)) ⟨e, ?_⟩
  refine ⟨.non, _, I.lset (its' := its ++ [u]) hH e (by simp) (r.append (.cons ru .nil)) ?_, rfl, q⟩
  rw [List.length_append, List.length_singleton]
  omega
def rPop : V → List V → Hp → VK → Prop := fun x vs H Q => ∃ l xs y, x = .ref l ∧ vs = [] ∧ H l = some (.lst xs) ∧ xs[xs.length - 1]? = some y ∧ Q y (upd H l (.lst xs.dropLast))
theorem mt_pop : MtM X "list.pop" rPop := by
  intro pins s σ H x vs v us Q I rx rv h
  obtain ⟨l, xs, y, rfl, rfl, hH, hy, q⟩ := h
  cases rx
  have hus := rv.zero
  subst hus
  obtain ⟨z, its, n, r, hl, e⟩ := I.lstM hH
  obtain ⟨u, hu, ru⟩ := r.get hy
  have hy' : its.toArray[its.toArray.size - 1]? = some u := by
    show its.toArray[its.length - 1]? = some u
    rw [← Array.getElem?_toList, ← hl]
    exact hu
  refine call_meets F.slot_list_pop ⟨_, e, rfl⟩ F.entry_list_pop (F.args_list_pop_1 _) (MeetsSeq.list_pop_last l its.toArray n u hy' (by rw [List.size_toArray]; omega)) ⟨e, ?_⟩
  refine ⟨y, _, I.lset (its' := its.dropLast) hH e ?_ r.dropLast ?_, ru, q⟩
  · show its.toArray.eraseIdxIfInBounds (its.toArray.size - 1) = its.dropLast.toArray
    rw [List.size_toArray, List.eraseIdxIfInBounds_toArray, erase_last]
  · rw [List.length_dropLast]
    omega
def rCat : R2 := fun x y H Q => ∃ l b xs zs, x = .ref l ∧ y = .ref b ∧ H l = some (.lst xs) ∧ H b = some (.lst zs) ∧ xs.length + zs.length ≤ sizeLine ∧ ∀ p, H p = none → Q (.ref p) (upd H p (.lst (xs ++ zs)))
theorem op_cat : OpR X (binaryOp .Add) rCat := by
  intro pins s σ H x y v u Q I rx ry h
  obtain ⟨l, b, xs, zs, rfl, rfl, hH, hB, hz, q⟩ := h
  cases rx
  cases ry
  obtain ⟨z, its, n, r, hl, e⟩ := I.lstM hH
  obtain ⟨z2, its2, n2, r2, hl2, e2⟩ := I.lstM hB
  refine PySem.P.add_list e e2 ?_ (by rw [List.size_toArray, List.size_toArray]; omega)
  have ea : its.toArray ++ its2.toArray = (its ++ its2).toArray := by simp
  rw [ea]
  exact ⟨.ref _, _, I.lnew (t' := s.toks) (r.append r2) (by rw [List.length_append]; omega), rfl, q _ I.fresh⟩
end
end L2
namespace Att
open PySem PySem.W PySem.Calls PyProof.Rows
theorem ints_of_wellAll {P : Params} {h : Heap} : ∀ (ns : List Int) (vs : List Value), WellAll P h vs (ns.map WData.int) → IntsAre vs ns := by
  intro ns
  induction ns with
  | nil =>
    intro vs w
    rw [List.map_nil] at w
    cases w
    exact .nil
  | cons n ns ih =>
    intro vs w
    rw [List.map_cons] at w
    cases w with
    | cons a b =>
      cases a
      exact .cons _ _ (ih _ b)
theorem script_of {l : OpenLaw} {n : Nat} (hn : l.most = some n) {P : Params} {h : Heap} {args : List WData} {vals : List Value}
    (hpre : l.row.toRowW.claim.pre args = true) (hwl : WellAll P h vals args) :
    ∃ a vs ns, vals = [Value.ref a] ∧ args = [WData.list (ns.map WData.int)] ∧ h.get? a = some { cls := .type "list", data := .seq vs.toArray } ∧ IntsAre vs ns ∧ ns.length ≤ n := by
  have hsh : WShape.hasAll [] args [.list .int] = true := (pre_splitW hpre).1
  have hc : l.pre.holds [] { args := args } = true := (pre_splitW hpre).2
  obtain ⟨d, r, rfl, h1, h2⟩ := hasAllW_cons hsh
  obtain rfl := hasAllW_nil h2
  obtain ⟨xs, rfl, h3⟩ := hasW_list h1
  obtain ⟨ns, rfl⟩ := items_int h3
  have hlen : ns.length ≤ n := by
    unfold OpenLaw.pre at hc
    have h4 : (WTm.not (.lt (.lit (.int (n : Int))) (.len (.arg 0)))).holds [] { args := [.list (ns.map .int)] } = true := by
      have h4 := (holds_andW hc).1
      rw [hn] at h4
      exact h4
    have h5 := condW_of h4 (w_not (w_lt w_lit (w_len_list (w_arg rfl))))
    rw [List.length_map] at h5
    refine Nat.le_of_not_lt fun q => ?_
    have q' : (n : Int) < ((ns.length : Nat) : Int) := by omega
    first
      | (rw [decide_eq_true q'] at h5; exact absurd h5 (by decide))
      | (simp at h5; omega)
  cases hwl with
  | cons w1 w2 =>
    cases w2
    cases w1 with
    | list ho hall => exact ⟨_, _, ns, rfl, rfl, ho, ints_of_wellAll ns _ hall, hlen⟩
theorem post_true (l : OpenLaw) (args : List WData) : l.row.toRowW.claim.post args (.bool true) args = true :=
  postW_of (r := l.row.toRowW) (X := (true == true))
    (show WShape.has [] (.bool true) .bool = true by first | rfl | decide | simp [WShape.has, WShape.arms, WShape.armsAll])
    (show (WTm.eq .res (.lit (.bool true))).value [] { args := args, res := some (.bool true), after := args } = some (.bool (true == true)) from w_eq_bool (w_res rfl) w_lit) rfl
theorem attach_call {l : OpenLaw} {n : Nat} {q : Program} {loose : List Str} {XP : (Str → Option Value) → Heap → Prop} {YP : World → Heap → Prop} {d : DefRec}
    (hn : l.most = some n) (hdf : d.params.defaults = [])
    (call : ∀ (w : World) (s₀ s₁ : Shared) (mg mb : Str → Option Value) (fa : Addr) (o : Obj) (pm cd doc : Value) (a : Addr) (vs : List Value) (ns : List Int),
      Ground q loose [] XP w s₀ mg mb s₁.heap → YP w s₁.heap →
      s₁.heap.get? fa = some o → o.data = .func (docDef d.name d.params d.body d.scope pm cd doc) → s₁.heap.CodeRec cd d.name → mg d.name = some (.ref fa) →
      s₁.heap.get? a = some { cls := .type "list", data := .seq vs.toArray } → IntsAre vs ns → ns.length ≤ n → s₁.gens = #[] →
      codeAny (model l.prog w) callerA (.call (.ref fa) ⟨[.ref a], []⟩) (fun r s' => r = .ok (.ret (.bool true)) ∧ OldK s₁.heap s'.heap ∧ s'.os = s₁.os ∧ AllBare s'.gens) s₁) :
    WalkO q loose XP YP l.row.toRowW d [] (fun f vs => PySem.call f vs) := by
  intro w s₀ s₁ mg mb G Y fa o pm cd doc dV kV ho hd hcd hD hmg hg args vals as hpre hlay hrd hwl hlo
  obtain rfl : dV = .none := Dflts.none hD hdf
  obtain rfl : kV = .none := Dflts.noKw hD
  obtain ⟨a, vs, ns, rfl, rfl, hobj, hints, hlen⟩ := script_of hn hpre hwl
  refine enter_call (codeAny_mono (call w s₀ s₁ mg mb fa o pm cd doc a vs ns G Y ho (fd_plain hd) hcd hmg hobj hints hlen hg) fun r s' hq => ?_)
  obtain ⟨rfl, h2, h3, h4⟩ := hq
  exact ⟨.inl ⟨.bool true, .bool true, [], rfl, fun _ => rfl, .bool true, post_true l _, fun _ => ⟨List.Pairwise.nil, fun _ hm => (nomatch hm)⟩⟩, h2, h3, h4⟩
end Att
namespace L2
open PySem PySem.Spec PyProof.Rows
theorem vals_ints : ∀ {vs : List Value} {ns : List Int}, IntsAre vs ns → Vals (ns.map V.int) vs
  | _, _, .nil => .nil
  | _, _, .cons n t h => .cons ⟨t, rfl⟩ (vals_ints h)
def Only (H : Hp) : Prop := ∀ b, H b = none ∨ ∃ o xs, H b = some (.frz o (.lst xs))
theorem law_call {P : Program} {w : World} {K : PySem.W.Frag} {mg mb : Str → Option Value} {CX : CXT} {k : Nat} {fa a : Addr} {fd : FuncData} {x : Str} {sp : Sp} {s₁ : Shared} {vs : List Value} {ns : List Int}
    (KX : K.In s₁.heap) (hns : s₁.heap.Ns mainGlobals mg) (hb : s₁.heap.Ns builtinsNs mb) (hbb : ∀ x : Str, x ≠ "__name__" → mb x = bootBuiltins x) (hlim : s₁.heap.NoLimit) (hg : s₁.gens = #[])
    (ha : s₁.heap.get? a = some { cls := .type "list", data := .seq vs.toArray }) (hi : IntsAre vs ns) (hl : ns.length ≤ sizeLine) (hr : Room k callerA)
    (F : ∀ base : Heap, K.In base → base.Ns mainGlobals mg → FnOk P w K mg base CX k fa fd [x] sp) (hbind : ∀ (s : Shared) (u : Value), BindsTo s fd ⟨[u], []⟩ [(x, u)])
    (hsp : ∀ H : Hp, Only H → SqL K H a (ns.map V.int) → sp [.ref a] H (fun v _ => v = .bl true) fun _ _ _ => False)
    (hCX : ∀ H e s', CX [] H s₁ (fun _ _ _ => False) e s' → False) :
    codeAny (model P w) callerA (.call (.ref fa) ⟨[.ref a], []⟩) (fun r s' => r = .ok (.ret (.bool true)) ∧ OldK s₁.heap s'.heap ∧ s'.os = s₁.os ∧ AllBare s'.gens) s₁ := by
  have rv := vals_ints hi
  have lenV := hi.length
  have core : ∀ H : Hp, Only H → SqL K H a (ns.map V.int) → HOk P w H s₁.heap → (∀ b, H b ≠ none → b = a) → (H a ≠ none → K.lookup a = none) →
      codeAny (model P w) callerA (.call (.ref fa) ⟨[.ref a], []⟩) (fun r s' => r = .ok (.ret (.bool true)) ∧ OldK s₁.heap s'.heap ∧ s'.os = s₁.os ∧ AllBare s'.gens) s₁ := by
    intro H hO hS hok hA hK
    have base_of : ∀ {b : Addr} {o : Obj}, s₁.heap.get? b = some o → H b = none → (hidT s₁.heap H).get? b = some o := fun e n => hidT_get e n
    have noA : ∀ {b : Addr} {o : Obj} {es : Array DictEntry} {ep : Nat}, s₁.heap.get? b = some o → o.data = .dict es ep → H b = none := fun {b o es ep} e d => by
      cases q : H b with
      | none => rfl
      | some u =>
        have e' : b = a := hA b (by rw [q]; simp)
        subst e'
        rw [ha] at e; cases e
        have d' : Data.seq vs.toArray _ = Data.dict es ep := d
        cases d'
    have nsK : ∀ {b : Addr} {m : Str → Option Value}, s₁.heap.Ns b m → (hidT s₁.heap H).Ns b m := fun {b m} z_19 => by obtain ⟨o, es, ep, e, d, r⟩ := z_19; exact ⟨o, es, ep, base_of e (noA e d), d, r⟩
    have hKb : K.In (hidT s₁.heap H) := fun b o e => base_of (KX b o e) (by
      cases q : H b with
      | none => rfl
      | some u =>
        have e' : b = a := hA b (by rw [q]; simp)
        subst e'
        rw [hK (by rw [q]; simp)] at e; cases e)
    have hM : Mod K mg (hidT s₁.heap H) := ⟨hKb, nsK hns, ⟨mb, nsK hb, hbb⟩, let ⟨mc, h1, h2⟩ := hlim; ⟨mc, nsK h1, h2⟩⟩
    have e0 : Env0 P w K mg (hidT s₁.heap H) callerA [] s₁ H := ⟨rfl, hM, fun b o e => of_hidT e, Nat.le_of_eq (hidT_size _ _), trivial, fun b hb => absurd (show b ∈ ([] : List Addr) from hb) (by simp), hok, .of_eq hg⟩
    refine codeAny_mono ((F _ hKb (nsK hns)).run callerA [] s₁ H ⟨[.ref a], []⟩ [.ref a] [.ref a] _ _ hr e0 (hbind s₁ (.ref a)) (.cons rfl .nil) (hsp H hO hS)) fun r s' h => ?_
    cases r with
    | error e => exact (hCX H e s' h).elim
    | ok fl =>
      cases fl with
      | next => exact False.elim h
      | brk => exact False.elim h
      | cont => exact False.elim h
      | ret u =>
        obtain ⟨v, H', os, bare, un, hok', r', q⟩ := h
        have q' : v = .bl true := q
        subst q'
        obtain rfl : u = Value.bool true := r'
        refine ⟨rfl, OldK.of_keep fun b o e => ?_, os, bare⟩
        cases q : H b with
        | none => exact un.keep b o e q (by intro z; exact absurd (show b ∈ ([] : List Addr) from z) (by simp)) (by simp)
        | some u =>
          rcases hO b with z | ⟨ob, xs, z⟩
          · rw [q] at z; cases z
          · have z2 := un.frzs b ob _ z
            obtain ⟨e1, _⟩ := hok b _ z
            obtain ⟨e2, _⟩ := hok' b _ z2
            rw [e] at e1; cases e1
            exact e2
  cases hk : K.lookup a with
  | some o =>
    have e := KX a o hk
    rw [ha] at e
    cases e
    refine core (fun _ => none) (fun _ => .inl rfl) (.inr ⟨_, vs.toArray, _, hk, rfl, rfl, rfl, by rw [List.size_toArray, lenV]; exact hl, by simpa using rv⟩) (fun b u z => by have z' : (none : Option HO) = some u := z; cases z') (fun b z => absurd rfl z) fun z => absurd rfl z
  | none =>
    refine core (fun b => if b = a then some (.frz { cls := .type "list", data := .seq vs.toArray } (.lst (ns.map V.int))) else none) (fun b => ?_) (.inl (.inr ⟨{ cls := .type "list", data := .seq vs.toArray }, if_pos rfl⟩)) (fun b u z => ?_) (fun b z => ?_) fun _ => hk
    · by_cases hb : b = a
      · exact .inr ⟨_, _, if_pos hb⟩
      · exact .inl (if_neg hb)
    · by_cases hb : b = a
      · have z' := (if_pos hb).symm.trans z
        cases z'
        subst hb
        exact ⟨ha, by rw [List.length_map]; exact hl, vs, _, rv, ha⟩
      · have z' := (if_neg hb).symm.trans z
        cases z'
    · by_cases hb : b = a
      · exact hb
      · exact absurd (if_neg hb) z
end L2
namespace L2
open PySem PySem.Spec PyProof.Rows
theorem walk_of {l : PySem.W.OpenLaw} {n k : Nat} {q : Program} {loose : List Str} {XP : (Str → Option Value) → Heap → Prop} {YP : World → Heap → Prop} {d : DefRec} {K : Params → PySem.W.Frag} {CX : World → CXT} {sp : World → Sp} {x : Str}
    (hn : l.most = some n) (hn2 : n ≤ sizeLine) (hdf : d.params.defaults = []) (hr : Room k callerA)
    (hY : ∀ (w : World) (h : Heap), YP w h → (K w.params).In h)
    (F : ∀ (w : World) (mg : Str → Option Value) (fa : Addr) (h : Heap), (K w.params).In h → h.Ns mainGlobals mg → mg d.name = some (.ref fa) →
      ∃ fd : FuncData, (∀ (s : Shared) (u : Value), BindsTo s fd ⟨[u], []⟩ [(x, u)]) ∧
        ∀ base : Heap, (K w.params).In base → base.Ns mainGlobals mg → FnOk l.prog w (K w.params) mg base (CX w) k fa fd [x] (sp w))
    (hsp : ∀ (w : World) (H : Hp) (a : Addr) (ns : List Int), ns.length ≤ n → Only H → SqL (K w.params) H a (ns.map V.int) → sp w [.ref a] H (fun v _ => v = .bl true) fun _ _ _ => False)
    (hCX : ∀ (w : World) (H : Hp) (s : Shared) (e : Value) (s' : Shared), CX w [] H s (fun _ _ _ => False) e s' → False) :
    PySem.W.WalkO q loose XP YP l.row.toRowW d [] (fun f vs => PySem.call f vs) := by
  refine Att.attach_call hn hdf fun w s₀ s₁ mg mb fa o pm cd doc a vs ns G Y ho hd hcd hmg hobj hints hlen hg => ?_
  have KX := hY w _ Y
  obtain ⟨fd, hb, hF⟩ := F w mg fa _ KX G.T.g hmg
  exact law_call KX G.T.g G.T.b G.T.builtins G.T.nolimit hg hobj hints (Nat.le_trans hlen hn2) hr hF hb (fun H hO hS => hsp w H a ns hlen hO hS) fun H e s' => hCX w H s₁ e s'
end L2
/- THE LAST THEOREM (shape; LID, My.* are yours):
   My.Adr: a structure of the addresses that your layer names (classes, functions); My.Txt K t: a structure (Prop) of the equations over K;
   My.txt_mk : {K} {implicit addresses ..} (e1 : nsIn K mainGlobals "law" = some (some (.ref f))) (e2 : K.lookup f = some ⟨oc, od, .func (fnOf "law" "law" params body scope dV kV doc pm an cdv ct), sl⟩) (e3 : codeIn K cdv "law" = true) .. : ∃ t, My.Txt K t
set_option maxRecDepth 100000 in
set_option maxHeartbeats 0 in
theorem PySem.Challenge.cw_LID_holds : PySem.Challenge.rw_LID.Holds := by
  w_on; o_law; k_head; (case hw => w_witness2)
  k_fill
  refine L2.walk_of (l := PySem.Challenge.rw_LID) (n := 63) (k := 40) (x := "script") (CX := fun w => ..) (sp := fun _ => My.sp_law) rfl (by decide) rfl ⟨rfl, by decide, by decide⟩ (fun w h Y => PySem.W.kIn_of Y) ?F ?S ?C
  case F =>
    intro w mg fa h KX G hmg
    have T : ∃ t, My.Txt (L2.KOf KX) t := by
      dsimp only [L2.KOf]                          -- K must stand as «<heap const> w.params» for k_is
      refine' My.txt_mk ?e1 ?e2 ?e3 ..
      (case e1 => PySem.W.k_is)                    -- in the order: a name -> its address -> its object -> its parts
      (case e2 => PySem.W.k_is)
      ..
    obtain ⟨t, T⟩ := T
    have e0 := hmg.symm.trans (PySem.W.mg_of KX G T.law)
    cases e0                                       -- fa is the law's own address
    exact ⟨_, fun s u => .of_eq rfl, fun base kb nb => My.law_fn T kb nb⟩     -- if «.of_eq rfl» comes too early: refine' ⟨_, ?b, fun base kb nb => My.law_fn T kb nb⟩; exact fun s u => .of_eq rfl
  case S => exact fun w H a ns hl hO hS => ..
  case C => exact ..
(the tactic k_is has no namespace: write k_is) -/
namespace L2
open PySem PySem.Spec PyProof.Rows
noncomputable def inClass (s : Stmt) (j : Nat) : Stmt := match s with
  | .ClassDef _ _ _ body _ _ _ _ _ _ _ => body.getD j (.Pass ⟨0, 0, 0, 0⟩)
  | _ => .Pass ⟨0, 0, 0, 0⟩
noncomputable def defArgs (s : Stmt) : Arguments := match s with
  | .FunctionDef _ a _ _ _ _ _ _ _ _ => a
  | _ => { posonlyargs := [], args := [], vararg := none, kwonlyargs := [], kw_defaults := [], kwarg := none, defaults := [] }
noncomputable def defBody (s : Stmt) : List Stmt := match s with
  | .FunctionDef _ _ b _ _ _ _ _ _ _ => b
  | _ => []
noncomputable def defScope (s : Stmt) : Scope := match s with
  | .FunctionDef _ _ _ _ _ _ sc _ _ _ => sc
  | _ => { kind := .function, names := [], isGenerator := false, isCoroutine := false }
abbrev E0 : XK := fun _ _ _ => False
structure Fun (K : PySem.W.Frag) (x qual : Str) (st : Stmt) (f : Addr) (fd : FuncData) : Prop where
  ex : ∃ (oc : Value) (od : Option Addr) (kV doc pm : Value) (an : Option Addr) (cdv ct : Value) (osl : Array (Option Value)),
    fd = PySem.W.fnOf x qual (defArgs st) (defBody st) (defScope st) .none kV doc pm an cdv ct ∧ K.lookup f = some ⟨oc, od, .func fd, osl⟩ ∧ PySem.W.codeIn K cdv qual = true
  kp : PySem.W.keepIn K (.ref f) = true
section
variable {P : Program} {w : World} {K : PySem.W.Frag} {mg : Str → Option Value} {base : Heap}
theorem Fun.binds {x qual : Str} {st : Stmt} {f : Addr} {fd : FuncData} {ps : List Str} (F : Fun K x qual st f fd)
    (h : ∀ (kV doc pm : Value) (an : Option Addr) (cdv ct : Value) (us : List Value), us.length = ps.length → bindArgs (PySem.W.fnOf x qual (defArgs st) (defBody st) (defScope st) .none kV doc pm an cdv ct) ⟨us, []⟩ = pure (ps.zip us)) : Binds K fd ps [] := by
  obtain ⟨oc, od, kV, doc, pm, an, cdv, ct, osl, rfl, lk, hcd⟩ := F.ex
  exact .all (h kV doc pm an cdv ct)
theorem fun_mk {x qual : Str} {st : Stmt} {f : Addr} {oc : Value} {od an : Option Addr} {osl : Array (Option Value)} {kV doc pm cdv ct : Value} (l : K.lookup f = some ⟨oc, od, .func (PySem.W.fnOf x qual (defArgs st) (defBody st) (defScope st) .none kV doc pm an cdv ct), osl⟩)
    (c : PySem.W.codeIn K cdv qual = true) (k : PySem.W.keepIn K (.ref f) = true) : Fun K x qual st f (PySem.W.fnOf x qual (defArgs st) (defBody st) (defScope st) .none kV doc pm an cdv ct) := ⟨⟨oc, od, kV, doc, pm, an, cdv, ct, osl, rfl, l, c⟩, k⟩
end
theorem hu_of {A : Around} {k : Nat} (hr : Room k A) : A.units + 1 < cLine := Nat.lt_of_le_of_lt (Nat.add_le_add_left (by decide : 1 ≤ 64) _) hr.units
theorem iteF {A B : Prop} (h : B) : if false = true then A else B := by
  rw [if_neg Bool.false_ne_true]
  exact h
theorem iteT {A B : Prop} (h : A) : if true = true then A else B := by
  rw [if_pos rfl]
  exact h
theorem iteNS {c A B : Prop} [Decidable c] (hc : c) (h : B) : if (!decide c) = true then A else B := by
  rw [decide_eq_true hc]
  exact iteF h
end L2
namespace L2
open PySem PySem.Spec PyProof.Rows
section
variable {κ : Type} [DecidableEq κ]
noncomputable def valV (kvs : List (κ × V)) (k : κ) : Option V := (kvs.find? fun kv => decide (kv.1 = k)).map (·.2)
noncomputable def putK (kvs : List (κ × V)) (k : κ) (v : V) : List (κ × V) :=
  if (kvs.any fun kv => decide (kv.1 = k)) = true then kvs.map (fun kv => if kv.1 = k then (kv.1, v) else kv) else kvs ++ [(k, v)]
theorem valV_pos {p : κ × V} {r : List (κ × V)} {k : κ} (e : p.1 = k) : valV (p :: r) k = some p.2 := by simp [valV, List.find?_cons, e]
theorem valV_neg {p : κ × V} {r : List (κ × V)} {k : κ} (e : ¬ p.1 = k) : valV (p :: r) k = valV r k := by simp [valV, List.find?_cons, e]
theorem valV_any (k : κ) : ∀ kvs : List (κ × V), (kvs.any fun kv => decide (kv.1 = k)) = (valV kvs k).isSome
  | [] => rfl
  | p :: r => by
    rw [List.any_cons]
    by_cases e : p.1 = k
    · simp only [valV_pos e, decide_eq_true e, Bool.true_or, Option.isSome_some]
    · rw [valV_neg e, decide_eq_false e, Bool.false_or]; exact valV_any k r
theorem length_putK (kvs : List (κ × V)) (k : κ) (v : V) : (putK kvs k v).length ≤ kvs.length + 1 := by
  unfold putK
  split
  · rw [List.length_map]; omega
  · rw [List.length_append, List.length_cons, List.length_nil]; omega
theorem putK_new {kvs : List (κ × V)} {k : κ} (v : V) (h : valV kvs k = none) : putK kvs k v = kvs ++ [(k, v)] := by
  unfold putK
  rw [valV_any, h]
  exact if_neg (by decide)
theorem KV.val {kvs : List (κ × V)} {vs : List (κ × Value)} (r : KV kvs vs) (k : κ) : RelO (valV kvs k) (valueAt vs k) := by
  unfold KV at r
  induction r with
  | nil => exact True.intro
  | @cons p q ps qs h t ih =>
    obtain ⟨h1, h2⟩ := h
    by_cases e : p.1 = k
    · have e' : q.1 = k := h1.symm.trans e
      have b : valueAt (q :: qs) k = some q.2 := by simp [valueAt, List.find?_cons, e']
      rw [valV_pos e, b]; exact h2
    · have e' : ¬ q.1 = k := fun z => e (h1.trans z)
      have b : valueAt (q :: qs) k = valueAt qs k := by simp [valueAt, List.find?_cons, e']
      rw [valV_neg e, b]; exact ih
theorem KV.any {kvs : List (κ × V)} {vs : List (κ × Value)} (r : KV kvs vs) (k : κ) : (kvs.any fun kv => decide (kv.1 = k)) = vs.any fun kv => decide (kv.1 = k) := by
  unfold KV at r
  induction r with
  | nil => rfl
  | cons h t ih => rw [List.any_cons, List.any_cons, ih, h.1]
theorem KV.repl {kvs : List (κ × V)} {vs : List (κ × Value)} (r : KV kvs vs) (k : κ) {y : V} {u : Value} (ry : RelV y u) :
    KV (kvs.map fun kv => if kv.1 = k then (kv.1, y) else kv) (vs.map fun kv => if kv.1 = k then (kv.1, u) else kv) := by
  unfold KV at r ⊢
  induction r with
  | nil => exact .nil
  | @cons p q ps qs h t ih =>
    rw [List.map_cons, List.map_cons]
    refine .cons ?_ ih
    obtain ⟨h1, h2⟩ := h
    by_cases e : p.1 = k
    · rw [if_pos e, if_pos (h1.symm.trans e)]; exact ⟨h1, ry⟩
    · rw [if_neg e, if_neg (fun z => e (h1.trans z))]; exact ⟨h1, h2⟩
theorem KV.put {kvs : List (κ × V)} {vs : List (κ × Value)} (r : KV kvs vs) (k : κ) {y : V} {u : Value} (ry : RelV y u) : KV (putK kvs k y) (stored vs k u) := by
  unfold putK stored
  rw [r.any k]
  by_cases e : (vs.any fun kv => decide (kv.1 = k)) = true
  · rw [if_pos e, if_pos e]; exact r.repl k ry
  · rw [if_neg e, if_neg e]; exact Paired.snoc r ⟨rfl, ry⟩
end
theorem kV_is {P : Program} {w : World} {k : Key} {u : Value} (r : RelV (kV k) u) : (mixKind P w).is k u = true := by
  cases k with
  | inl i => obtain ⟨t, e⟩ := (show ∃ t, u = Value.int i t from r); subst e; exact mixKind_int P w i t
  | inr x => obtain ⟨t, e⟩ := (show ∃ t, u = Value.str x t from r); subst e; exact mixKind_str P w x t
theorem items_are {P : Program} {w : World} : ∀ {ks : List Key} {us : List Value}, Vals (ks.map kV) us → ItemsAre (mixKind P w) ks us
  | [], _, r => by rw [List.map_nil] at r; cases r; exact .nil
  | k :: ks, _, r => by
    rw [List.map_cons] at r
    cases r with
    | cons h t => exact .cons (kV_is h) (items_are t)
abbrev KT (H : Hp) : List (List Key × V) → List (List Key × Addr × Value) → Prop := Paired fun p q => p.1 = q.1 ∧ H q.2.1 = some (.tup (p.1.map kV)) ∧ RelV p.2 q.2.2
theorem KT.val {H : Hp} {kvs : List (List Key × V)} {xs : List (List Key × Addr × Value)} (r : KT H kvs xs) (k : List Key) : RelO (valV kvs k) ((atKey xs k).map (·.2)) := by
  induction r with
  | nil => exact True.intro
  | @cons p q ps qs h t ih =>
    obtain ⟨h1, _, h2⟩ := h
    by_cases e : p.1 = k
    · have e' : q.1 = k := h1.symm.trans e
      have b : atKey (q :: qs) k = some q.2 := by simp [atKey, List.find?_cons, e']
      rw [valV_pos e, b]; exact h2
    · have e' : ¬ q.1 = k := fun z => e (h1.trans z)
      have b : atKey (q :: qs) k = atKey qs k := by simp [atKey, List.find?_cons, e']
      rw [valV_neg e, b]; exact ih
section
variable {P : Program} {w : World} {H : Hp} {h : Heap} {a : Addr}
theorem rd_of {u : HO} (ok : HOk P w H h) (e : Rd H a u) : ObjOk P w H h a u := e.ok ok
theorem dk_rd {kvs : List (Key × V)} (ok : HOk P w H h) (e : Rd H a (.dK kvs)) : kvs.length ≤ sizeLine ∧ (a == sysModules) = false ∧ ∃ vs, KV kvs vs ∧ h.DictOf (mixKind P w) a vs :=
  show ObjOk P w H h a (.dK kvs) from rd_of ok e
theorem dk_of {kvs : List (Key × V)} (ok : HOk P w H h) (e : H a = some (.dK kvs)) : kvs.length ≤ sizeLine ∧ (a == sysModules) = false ∧ ∃ vs, KV kvs vs ∧ h.DictOf (mixKind P w) a vs := dk_rd ok (.inl e)
theorem key_of {ks : List Key} (ok : HOk P w H h) (e : H a = some (.tup (ks.map kV))) : (tupleKind (mixKind P w)).is h ks a := by
  obtain ⟨_, its, r, ⟨o, h1, h2, n, h3⟩, _⟩ := (show ObjOk P w H h a (.tup (ks.map kV)) from ok a _ e)
  exact ⟨o, its.toArray, n, h1, h2, h3, by simpa using items_are r⟩
theorem dt_rd {kvs : List (List Key × V)} (ok : HOk P w H h) (e : Rd H a (.dT kvs)) : kvs.length ≤ sizeLine ∧ (a == sysModules) = false ∧
    ∃ xs, KT H kvs xs ∧ h.DictOfH (tupleKind (mixKind P w)) a xs := by
  obtain ⟨z, y, xs, r, o, es, ep, h1, h2, h3, h4, h5⟩ := (show ObjOk P w H h a (.dT kvs) from rd_of ok e)
  refine ⟨z, y, xs, r, o, es, ep, h1, h2, h3, h4, fun x hx => ?_, h5⟩
  have all : ∀ {l : List (List Key × V)} {m : List (List Key × Addr × Value)}, KT H l m → ∀ x ∈ m, (tupleKind (mixKind P w)).is h x.1 x.2.1 := by
    intro l m q
    induction q with
    | nil => intro x hx; exact nomatch hx
    | @cons p q ps qs hq t ih =>
      intro x hx
      rcases List.mem_cons.mp hx with e | hx
      · subst e
        exact key_of ok (by rw [← hq.1]; exact hq.2.1)
      · exact ih x hx
  exact all r x hx
end
def DGet (H : Hp) (a : Addr) (y : V) (r : Option V) : Prop :=
  (∃ kvs k, Rd H a (.dK kvs) ∧ y = kV k ∧ r = valV kvs k) ∨ ∃ kvs k b, Rd H a (.dT kvs) ∧ y = .ref b ∧ H b = some (.tup (k.map kV)) ∧ r = valV kvs k
theorem DGet.k {H : Hp} {a : Addr} {kvs : List (Key × V)} {k : Key} (e : H a = some (.dK kvs)) : DGet H a (kV k) (valV kvs k) := .inl ⟨kvs, k, .inl e, rfl, rfl⟩
section
variable {X : Cx} {pins : List (Addr × Obj)} {σ : St} {H : Hp} {s : Shared} {a : Addr} {y v : V} {u r : Value} {o : Option V} {A : Around} {E : Value → Shared → Prop}
theorem Inv.big (I : Inv X pins σ H s) : sysModules < s.heap.objs.size := by
  have h : mainGlobals < s.heap.objs.size := (I.mod.glob.keeps I.bk).lt
  exact Nat.lt_trans (by decide) h
theorem d_getItem {Q : Value → Shared → Prop} (hu : A.units + 1 < cLine) (I : Inv X pins σ H s) (g : DGet H a y (some v)) (ry : RelV y u) (h : ∀ w' s', Inv X pins σ H s' → RelV v w' → Q w' s') :
    wpAny (model X.prog X.w) A (getItem (.ref a) u) Q E s := by
  rcases g with ⟨kvs, k, e, ey, l⟩ | ⟨kvs, k, b, e, ey, eb, l⟩
  · subst ey
    obtain ⟨z, hd, vs, rel, dd⟩ := dk_rd I.hok e
    obtain ⟨w', hw, rw'⟩ := RelO.some_of (v := v) (o := valueAt vs k) (by rw [l]; exact rel.val k)
    exact wpAny_getItem_of (kV_is ry) dd.mapOf hw (h w' _ (I.tok _) rw')
  · subst ey
    cases (show u = Value.ref b from ry)
    obtain ⟨z, hd, xs, rel, dd⟩ := dt_rd I.hok e
    obtain ⟨w', hw, rw'⟩ := RelO.some_of (v := v) (o := (atKey xs k).map (·.2)) (by rw [l]; exact rel.val k)
    obtain ⟨p, hp, hp2⟩ := Option.map_eq_some_iff.mp hw
    refine wpAny_getItem_heap (tupleKind_room_in1 hu) (key_of I.hok eb) dd hp ?_
    rw [hp2]
    exact h w' _ (I.tok _) rw'
theorem d_write {h' : Heap} {t' : Nat} {ob : HO} (I : Inv X pins σ H s) (mu : Mut (H a)) (hs : Heap.SameBut a s.heap h') (he : ∃ q, h'.get? a = some q) (new : ObjOk X.prog X.w (upd H a ob) h' a ob) :
    Inv X pins σ (upd H a ob) { s with heap := h', toks := t' } :=
  I.write (x := a) (e := a) mu (.inl rfl) (fun b q hb z => (hs.2 b hb).trans z) he new
theorem dk_new {P : Program} {w : World} {H' : Hp} {h' : Heap} {kvs : List (Key × V)} {vs : List (Key × Value)} (z : kvs.length ≤ sizeLine) (hd : (a == sysModules) = false) (rel : KV kvs vs) (dd : h'.DictOf (mixKind P w) a vs) :
    ObjOk P w H' h' a (.dK kvs) := ⟨z, hd, vs, rel, dd⟩
end
def NoSl (i : Expr) : Prop := ∀ ov iv, subscripted i false ov iv = operate [ov, iv] (getItem ov iv)
theorem subD_of {prog : Program} {w : World} {A : Around} {E : Value → Shared → Prop} {s : Shared} {env : Env} {value slice : Expr} {pos : Pos} {T id : String} {Q : Value → Shared → Prop}
    (hl : typeLookup (.type T) "__getitem__" = pure (some (.builtin id))) (hs : NoSl slice)
    (h : wpAny (model prog w) A (eval value env) (fun o s₁ => wpAny (model prog w) A (eval slice env) (fun i s₂ => s₂.TypeIs o T ∧ wpAny (model prog w) A (getItem o i) Q E s₂) E s₁) E s) :
    wpAny (model prog w) A (eval (.Subscript value slice pos) env) Q E s := by
  refine Subscript_ (wpAny_mono h (fun o s₁ h₁ => wpAny_mono h₁ (fun i s₂ h₂ => ?_) fun _ _ x => x) fun _ _ x => x)
  obtain ⟨hT, h₂⟩ := h₂
  unfold subscriptTail
  refine wpAny_bind ?_
  rw [getitemInPython_of_ne hT.not_modules]
  refine wpAny_bind (wpAny_specialOf hT hl ?_)
  have fin : wpAny (model prog w) A (subscripted slice false o i) (fun r s₃ => wpAny (model prog w) A (letTemporaryGo value o r >>= fun _ => pure r) Q E s₃) E s₂ := by
    rw [hs o i]
    exact wpAny_operating (wpAny_mono h₂ (fun r s₃ h₃ => wpAny_bind (wpAny_letTemporaryGo (wpAny_pure h₃))) fun _ _ x => x)
  first
    | exact wpAny_pure (wpAny_bind fin)
    | exact wpAny_bind (wpAny_pure (wpAny_bind fin))
    | exact wpAny_bind fin
theorem dict_typeIs {X : Cx} {pins : List (Addr × Obj)} {σ : St} {H : Hp} {s : Shared} {a : Addr} {y : V} {o : Option V} (I : Inv X pins σ H s) (g : DGet H a y o) : s.TypeIs (.ref a) "dict" := by
  rcases g with ⟨kvs, k, e, _, _⟩ | ⟨kvs, k, b, e, _, _, _⟩
  · obtain ⟨_, _, vs, _, dd⟩ := dk_rd I.hok e
    exact dd.typeIs
  · obtain ⟨_, _, xs, _, dd⟩ := dt_rd I.hok e
    exact dd.typeIs
def tDGet (td ty : TE) : TE := fun σ H Q => td σ H fun x H1 => ty σ H1 fun y H2 => ∃ a v, x = .ref a ∧ DGet H2 a y (some v) ∧ Q v H2
section
variable {X : Cx} {o i e value : Expr} {pos pos' tpos : Pos} {td ty tv : TE}
theorem pe_dget (hu : X.A.units + 1 < cLine) (ho : PE X o td) (hi : PE X i ty) (hs : NoSl i) : PE X (.Subscript o i pos) (tDGet td ty) := by
  intro pins s σ H Q I h
  refine subD_of PySem.F.slot_dict_getitem.lookup hs (thn (ho pins s σ H _ I h) fun u s1 ⟨x, H1, I1, rx, q1⟩ => thn (hi pins s1 σ H1 _ I1 q1) fun iv s2 ⟨y, H2, I2, ry, a, v, ex, g, q2⟩ => ?_)
  subst ex
  obtain rfl : u = Value.ref a := rx
  exact ⟨dict_typeIs I2 g, d_getItem hu I2 g ry fun w' s3 I3 rw' => ⟨v, H2, I3, rw', q2⟩⟩
end
theorem dk_empty {P : Program} {w : World} {H : Hp} (h : Heap) (hb : sysModules < h.objs.size) : ObjOk P w H (h.push { cls := .type "dict", data := .dict #[] }) h.objs.size (.dK []) :=
  ⟨Nat.zero_le _, beq_eq_false_iff_ne.mpr (Ne.symm (Nat.ne_of_lt hb)), [], .nil, Heap.DictOf.new h⟩
def tPairs : List (TE × TE) → St → Hp → (List (V × V) → Hp → Prop) → Prop
  | [], _, H, Q => Q [] H
  | (tk, tv) :: r, σ, H, Q => tk σ H fun x H1 => tv σ H1 fun y H2 => tPairs r σ H2 fun ps H3 => Q ((x, y) :: ps) H3
abbrev VV : List (V × V) → List (Value × Value) → Prop := Paired fun p q => RelV p.1 q.1 ∧ RelV p.2 q.2
def PPs (X : Cx) (pos : Pos) (keys : List (Option Expr)) (values : List Expr) (trs : List (TE × TE)) : Prop :=
  ∀ (pins : List (Addr × Obj)) (s : Shared) (σ : St) (H : Hp) (Q : List (V × V) → Hp → Prop), Inv X pins σ H s → tPairs trs σ H Q →
    wpAny (model X.prog X.w) X.A (evalPairs (pairTrees keys values X.env pos)) (fun vs s' => ∃ ps H', Inv X pins σ H' s' ∧ VV ps vs ∧ Q ps H') X.xe s
theorem pps_nil {X : Cx} {pos : Pos} : PPs X pos [] [] [] := fun pins s σ H Q I h => pairTrees_nil_walk ⟨[], H, I, .nil, h⟩
theorem pps_cons {X : Cx} {pos : Pos} {k v : Expr} {ks : List (Option Expr)} {vs : List Expr} {tk tv : TE} {trs : List (TE × TE)} (hk : PE X k tk) (hv : PE X v tv) (hr : PPs X pos ks vs trs) :
    PPs X pos (some k :: ks) (v :: vs) ((tk, tv) :: trs) := fun pins s σ H Q I h =>
  pairTrees_cons_walk (thn (hk pins s σ H _ I h) fun u s1 ⟨x, H1, I1, rx, q1⟩ => thn (hv pins s1 σ H1 _ I1 q1) fun w2 s2 ⟨y, H2, I2, ry, q2⟩ =>
    thn (hr pins s2 σ H2 _ I2 q2) fun ws s3 z_1 => by obtain ⟨ps, H3, I3, rel, q3⟩ := z_1; exact ⟨(x, y) :: ps, H3, I3, .cons ⟨rx, ry⟩ rel, q3⟩)
noncomputable def mergeK (kvs more : List (Key × V)) : List (Key × V) := more.foldl (fun acc kv => putK acc kv.1 kv.2) kvs
theorem KV.merge : ∀ {more : List (Key × V)} {rs : List (Key × Value)} {kvs : List (Key × V)} {vs : List (Key × Value)}, KV more rs → KV kvs vs → KV (mergeK kvs more) (merged vs rs) := by
  intro more rs kvs vs r
  unfold KV at r
  induction r generalizing kvs vs with
  | nil => intro q; exact q
  | @cons p q ps qs h t ih =>
    intro r0
    have e : KV (putK kvs p.1 p.2) (stored vs q.1 q.2) := by
      have := r0.put p.1 h.2
      rw [← h.1]; exact this
    exact ih e
theorem length_mergeK : ∀ (more kvs : List (Key × V)), (mergeK kvs more).length ≤ kvs.length + more.length
  | [], kvs => by show kvs.length ≤ kvs.length + 0; omega
  | p :: r, kvs => by
    have h1 := length_mergeK r (putK kvs p.1 p.2)
    have h2 := length_putK kvs p.1 p.2
    show (mergeK (putK kvs p.1 p.2) r).length ≤ _
    rw [List.length_cons]; omega
theorem carries_of {P : Program} {w : World} : ∀ {kvs : List (Key × V)} {ws : List (Value × Value)}, VV (kvs.map fun kv => (kV kv.1, kv.2)) ws → ∃ rs, Carries (mixKind P w) ws rs ∧ KV kvs rs
  | [], _, r => by rw [List.map_nil] at r; cases r; exact ⟨[], True.intro, .nil⟩
  | p :: kvs, _, r => by
    rw [List.map_cons] at r
    cases r with
    | @cons a b as bs h t =>
      obtain ⟨rs, c, q⟩ := carries_of (P := P) (w := w) t
      obtain ⟨b1, b2⟩ := b
      exact ⟨(p.1, b2) :: rs, ⟨kV_is h.1, rfl, c⟩, .cons ⟨rfl, h.2⟩ q⟩
def tDisp (trs : List (TE × TE)) : TE := fun σ H Q => ∀ p, H p = none → tPairs trs σ (upd H p (.dK [])) fun ps H2 => H2 p = some (.dK []) ∧ ∃ kvs : List (Key × V), ps = kvs.map (fun kv => (kV kv.1, kv.2)) ∧ kvs.length ≤ 15 ∧ Q (.ref p) (upd H2 p (.dK (mergeK [] kvs)))
theorem pe_disp {X : Cx} {pos : Pos} {keys : List (Option Expr)} {values : List Expr} {trs : List (TE × TE)} (h : PPs X pos keys values trs) (hall : keys.all (·.isSome) = true) (hl : keys.length = values.length) (h0 : keys ≠ [])
    (h15 : keys.length ≤ 15) : PE X (.Dict keys values pos) (tDisp trs) := by
  intro pins s σ H Q I q
  have hn := I.hok.fresh (Nat.le_refl s.heap.objs.size)
  have I1 := I.laid (a := s.heap.objs.size) (o := .dK []) (h' := s.heap.push { cls := .type "dict", data := .dict #[] }) (t' := s.toks) (fun _ _ q => Heap.get?_push_of_some _ q) (Nat.le_refl _) (dk_empty s.heap I.big)
  refine wpAny_Dict_walk (knd := mixKind X.prog X.w) hall hl h0 h15 (thn (h pins _ σ _ _ I1 (q _ hn)) fun ws s2 ⟨ps, H2, I2, rel, e, kvs, ep, lk, q2⟩ => ?_)
  subst ep
  obtain ⟨rs, c, rk⟩ := carries_of (P := X.prog) (w := X.w) rel
  obtain ⟨z, hd, vs0, r0, dd⟩ := dk_of I2.hok e
  cases r0
  refine ⟨rs, c, dd, fun h' dd' hs => ⟨.ref s.heap.objs.size, _, ?_, rfl, q2⟩⟩
  have hz : (mergeK [] kvs).length ≤ sizeLine := by
    have h1 := length_mergeK kvs []
    rw [List.length_nil] at h1
    rw [sizeLine_eq]; omega
  have he : ∃ q, h'.get? s.heap.objs.size = some q := let ⟨q, _, _, hq, _⟩ := dd'; ⟨q, hq⟩
  exact d_write I2 (by rw [e]; exact True.intro) hs he (dk_new hz hd (rk.merge .nil) dd')
end L2
namespace L2
open PySem PySem.Spec PyProof.Rows
end L2
namespace EE
open PySem PySem.Spec PyProof.Rows L2
structure Has (K : PySem.W.Frag) (mg : Str → Option Value) (x : Str) (st : Stmt) (ps : List Str) : Prop where
  ex : ∃ f fd, Fun K x x st f fd ∧ Binds K fd ps [] ∧ mg x = some (.ref f)
section
variable {P : Program} {w : World} {K : PySem.W.Frag} {mg : Str → Option Value} {base : Heap}
theorem has_mk {h : Heap} {x : Str} {st : Stmt} {ps : List Str} {f : Addr} {oc : Value} {od an : Option Addr} {osl : Array (Option Value)} {kV doc pm cdv ct : Value} (X : K.In h) (G : h.Ns mainGlobals mg)
    (a : PySem.W.nsIn K mainGlobals x = some (some (.ref f))) (l : K.lookup f = some ⟨oc, od, .func (PySem.W.fnOf x x (defArgs st) (defBody st) (defScope st) .none kV doc pm an cdv ct), osl⟩)
    (c : PySem.W.codeIn K cdv x = true) (k : PySem.W.keepIn K (.ref f) = true)
    (hb : ∀ (kV doc pm : Value) (an : Option Addr) (cdv ct : Value) (us : List Value), us.length = ps.length → bindArgs (PySem.W.fnOf x x (defArgs st) (defBody st) (defScope st) .none kV doc pm an cdv ct) ⟨us, []⟩ = pure (ps.zip us)) : Has K mg x st ps := by
  have F := fun_mk (st := st) l c k
  exact ⟨f, _, F, F.binds hb, PySem.W.mg_of X G a⟩
end
section
variable {X : Cx} {k : Nat} {ps : List Str} {sp : Sp} {x : Str} {p pos : Pos} {e : Expr} {es : List Expr} {t : TA}
theorem pe_globI {i : Int} (h : ∃ t, X.mg x = some (.int i t)) (hg : Gl X x) (hd : (x == ("__debug__" : Str)) = false := by decide) : PE X (.Name x pos) (tC (.int i)) := by
  obtain ⟨t, e⟩ := h
  exact pe_glob (v := .int i) hg e ⟨t, rfl⟩ hd
theorem kit_same (K : PySem.W.Frag) (n : String) : PySem.W.kitOne K (.type n) (.type n) = some true := by
  unfold PySem.W.kitOne
  rw [if_pos (by simp)]
def rPopS : V → List V → Hp → VK → Prop := fun x vs H Q => ∃ l ys y, x = .ref l ∧ vs = [] ∧ H l = some (.lst (ys ++ [y])) ∧ Q y (upd H l (.lst ys))
theorem mt_popS : MtM X "list.pop" rPopS := by
  intro pins s σ H x vs v us Q I rx rv h
  obtain ⟨l, ys, y, rfl, rfl, hH, q⟩ := h
  refine mt_pop pins s σ H _ _ v us Q I rx rv ⟨l, ys ++ [y], y, rfl, rfl, hH, by simp, ?_⟩
  rw [List.dropLast_concat]
  exact q
end
theorem iteN {c A B : Prop} [Decidable c] (hc : ¬ c) (h : A) : if (!decide c) = true then A else B := by
  rw [decide_eq_false hc]
  exact iteT h
theorem iteD {c A B : Prop} [Decidable c] (hc : c) (h : A) : if decide c = true then A else B := by
  rw [decide_eq_true hc]
  exact iteT h
theorem iteDN {c A B : Prop} [Decidable c] (hc : ¬ c) (h : B) : if decide c = true then A else B := by
  rw [decide_eq_false hc]
  exact iteF h
theorem iteD2 {c A B : Prop} [Decidable c] (h1 : c → A) (h2 : ¬ c → B) : if decide c = true then A else B := by
  by_cases h : c
  · exact iteD h (h1 h)
  · exact iteDN h (h2 h)
theorem snoc_cases {α : Type} (xs : List α) : xs = [] ∨ ∃ ys y, xs = ys ++ [y] := by
  cases xs with
  | nil => exact .inl rfl
  | cons a r => exact .inr ⟨(a :: r).dropLast, (a :: r).getLast (by simp), (List.dropLast_concat_getLast (by simp)).symm⟩
end EE
namespace EE
open PySem PySem.Spec PyProof.Rows L2
noncomputable def Its (x : Str) : It := ⟨fun i _ => i < x.cps.size, fun i H v H' => H' = H ∧ ∃ c, x.cps[i]? = some c ∧ v = .str ⟨#[c]⟩, fun i _ => x.cps.size ≤ i⟩
theorem turn_sign {P : Program} {w : World} {K : PySem.W.Frag} {tg : Expr} {nm : String} (it : Addr) (x : Str) (t : Tok)
    (hn : ["enumerate", "zip", "dict_itemiterator", "dict_reverseitemiterator", "odict_iterator", "itertools.zip_longest", "itertools.pairwise"].contains nm = false)
    (W : ∀ A : Around, A.handled = none → Walks P w A it [it] [it] x.cps.size (SignAt x) (fun i h => h.IsStrIter it nm x t i))
    (stop : ∀ (A : Around) (s : Shared) (i : Nat) (Q : Option Value → Shared → Prop) (E : Value → Shared → Prop), A.handled = none → s.heap.IsStrIter it nm x t i → x.cps[i]? = none →
      (∀ h', Heap.ExtBut it s.heap h' → Q none { s with heap := h' }) → wpAny (model P w) A (pyNext (.ref it)) Q E s)
    (self : ∀ (A : Around) (i : Nat) (s : Shared) (Q : Value → Shared → Prop) (E : Value → Shared → Prop), s.heap.IsStrIter it nm x t i → Q (.ref it) s → wpAny (model P w) A (pyIter (.ref it)) Q E s) :
    Turn P w K tg (Its x) [it] it (fun i h => h.IsStrIter it nm x t i) where
  mem := by simp
  obj := fun i h st b hb => by
    have e : b = it := by simpa using hb
    subst e
    obtain ⟨o, e, c, d⟩ := st
    exact ⟨o, e, fun v z => by rw [d] at z; cases z⟩
  keep := fun i h h' st k => let ⟨o, ho, r⟩ := st; ⟨o, k it (by simp) o ho, r⟩
  item := by
    intro X hP hw hK hc i pins s σ H E I hf st hg
    subst hP hw hK
    obtain ⟨f0, f1, f2, f3, f4, f5⟩ := hf it (by simp)
    refine (W X.A (I.ok.hd hc)).item i s _ _ hg st fun v h' tk hv st' kk => ?_
    obtain ⟨c, u, hcc, rfl⟩ := hv
    have I1 : Inv X pins σ H { s with heap := h', toks := tk } := I.turned (fun b o hb e => kk b o (by simpa using hb) e) f0 f1 f3 f4 f5
    obtain ⟨o, e, cl, d⟩ := id st'
    exact ⟨_, rfl, go_of (s := { s with heap := h', toks := tk }) e cl d hn ⟨.str ⟨#[c]⟩, H, I1, ⟨u, rfl⟩, ⟨rfl, c, hcc, rfl⟩, st', fun b hb => (hf b hb).1⟩⟩
  done := by
    intro X hP hw hK hc i pins s σ H E I hf st hg
    subst hP hw hK
    obtain ⟨f0, f1, f2, f3, f4, f5⟩ := hf it (by simp)
    exact stop X.A s i _ E (I.ok.hd hc) st (Array.getElem?_eq_none hg) fun h' eb => ⟨rfl, I.turned (t' := s.toks) (fun b o hb e => eb b o hb e) f0 f1 f3 f4 f5⟩
  self := self
theorem turn_ascii {P : Program} {w : World} {K : PySem.W.Frag} {tg : Expr} (it : Addr) (x : Str) (t : Tok) : Turn P w K tg (Its x) [it] it (fun i h => h.IsStrIter it "str_ascii_iterator" x t i) :=
  turn_sign it x t (by decide) (fun A hA => Walks.strAscii hA it x t) (fun A s i Q E hh st e h => wpAny_pyNext_ascii_end hh st e h) fun A i s Q E st h => wpAny_pyIter_striter_ascii st h
theorem turn_wide {P : Program} {w : World} {K : PySem.W.Frag} {tg : Expr} (it : Addr) (x : Str) (t : Tok) : Turn P w K tg (Its x) [it] it (fun i h => h.IsStrIter it "str_iterator" x t i) :=
  turn_sign it x t (by decide) (fun A hA => Walks.strWide hA it x t) (fun A s i Q E hh st e h => wpAny_pyNext_wide_end hh st e h) fun A i s Q E st h => wpAny_pyIter_striter_wide st h
def iStr (tl : TE) : TI := fun σ H R => tl σ H fun v H1 => ∃ x, v = .str x ∧ R (Its x) H1
theorem pi_str {X : Cx} {tg l : Expr} {tl : TE} (hl : PE X l tl) : PI X tg l (iStr tl) := by
  intro pins s σ H R I h
  refine thn (hl pins s σ H _ I h) fun v s1 ⟨y, H1, I1, r1, q1⟩ => ?_
  obtain ⟨x, rfl, q⟩ := q1
  obtain ⟨t, rfl⟩ := r1
  have fin : ∀ (o : Obj) (tn : Nat → Heap → Prop), Turn X.prog X.w X.K tg (Its x) [s1.heap.objs.size] s1.heap.objs.size tn → tn 0 (s1.heap.push o) → PIE X pins σ tg R (.ref s1.heap.objs.size) { s1 with heap := s1.heap.push o } := fun o tn T st => by
    refine ⟨s1.heap.objs.size, [s1.heap.objs.size], _, _, H1, rfl, I1.kept (t' := s1.toks) fun b o e => Heap.get?_push_of_some _ e, T, st, fun b hb => ?_, q⟩
    have e : b = s1.heap.objs.size := by simpa using hb
    subst e
    exact I1.fpOk (Nat.le_refl _) (I1.hok.fresh (Nat.le_refl _))
  cases ha : x.cps.all (· < 128)
  · exact wpAny_pyIter_wide ha (fin _ _ (turn_wide _ x t) ⟨_, Heap.get?_push_size _ rfl, rfl, rfl⟩)
  · exact wpAny_pyIter_ascii ha (fin _ _ (turn_ascii _ x t) ⟨_, Heap.get?_push_size _ rfl, rfl, rfl⟩)
section
variable {X : Cx}
theorem strsAre_of {xs : List Str} : ∀ {us : List Value}, Vals (xs.map V.str) us → StrsAre us xs := by
  induction xs with
  | nil => intro us r; rw [List.map_nil] at r; cases r; exact .nil
  | cons n ns ih =>
    intro us r
    rw [List.map_cons] at r
    cases r with
    | cons r1 r2 =>
      obtain ⟨t, e⟩ := r1
      subst e
      exact .cons n t (ih r2)
def rJoin (K : PySem.W.Frag) : V → List V → Hp → VK → Prop := fun x vs H Q => ∃ sep l ys, x = .str sep ∧ vs = [.ref l] ∧ SqL K H l (ys.map V.str) ∧ (ys.map (·.length)).sum + ys.length * sep.length ≤ 16777216 ∧ Q (.str (Txt.join sep ys)) H
theorem mt_str_join : MtR X "str.join" (rJoin X.K) := by
  intro pins s σ H x vs v us Q I rx rv h
  obtain ⟨sep, l, ys, rfl, rfl, hl, hz, q⟩ := h
  obtain ⟨t, rfl⟩ := rx
  obtain ⟨u, rfl, ru⟩ := rv.one
  cases ru
  obtain ⟨its, r, pl, hn⟩ := I.list hl
  exact join_list pl.isList (by simpa using strsAre_of r) hz fun t' k => ⟨.str _, H, I.tok _, ⟨_, rfl⟩, q⟩
end
end EE
namespace EE
open PySem PySem.Spec PyProof.Rows L2 SeqAt
inductive Dt where
  | non | bl (b : Bool) | int (i : Int) | str (x : Str) | tup (xs : List Dt) | lst (xs : List Dt)
mutual
noncomputable def eqD : Dt → Dt → Bool
  | .non, .non => true
  | .bl a, .bl b => a == b
  | .bl a, .int b => (if a then 1 else 0) == b
  | .int a, .bl b => a == (if b then 1 else 0)
  | .int a, .int b => a == b
  | .str a, .str b => a == b
  | .tup xs, .tup ys => eqDs xs ys
  | .lst xs, .lst ys => eqDs xs ys
  | _, _ => false
noncomputable def eqDs : List Dt → List Dt → Bool
  | [], [] => true
  | x :: xs, y :: ys => eqD x y && eqDs xs ys
  | _, _ => false
end
mutual
noncomputable def deepD : Dt → Nat
  | .tup xs => deepDs xs + 1
  | .lst xs => deepDs xs + 1
  | _ => 0
noncomputable def deepDs : List Dt → Nat
  | [] => 0
  | x :: xs => max (deepD x) (deepDs xs)
end
mutual
theorem eqD_refl : ∀ d : Dt, eqD d d = true
  | .non => rfl
  | .bl b => by simp [eqD]
  | .int i => by simp [eqD]
  | .str x => by simp [eqD]
  | .tup xs => by simp only [eqD]; exact eqDs_refl xs
  | .lst xs => by simp only [eqD]; exact eqDs_refl xs
theorem eqDs_refl : ∀ ds : List Dt, eqDs ds ds = true
  | [] => rfl
  | d :: ds => by simp only [eqDs, eqD_refl d, eqDs_refl ds, Bool.and_self]
end
mutual
inductive DR (K : PySem.W.Frag) (H : Hp) : Dt → V → Prop where
  | non : DR K H .non .non
  | bl (b : Bool) : DR K H (.bl b) (.bl b)
  | int (i : Int) : DR K H (.int i) (.int i)
  | str (x : Str) : DR K H (.str x) (.str x)
  | tup {a : Addr} {xs : List V} {ds : List Dt} : SqT K H a xs → DRs K H ds xs → DR K H (.tup ds) (.ref a)
  | lst {a : Addr} {xs : List V} {ds : List Dt} : SqL K H a xs → DRs K H ds xs → DR K H (.lst ds) (.ref a)
inductive DRs (K : PySem.W.Frag) (H : Hp) : List Dt → List V → Prop where
  | nil : DRs K H [] []
  | cons {d : Dt} {v : V} {ds : List Dt} {vs : List V} : DR K H d v → DRs K H ds vs → DRs K H (d :: ds) (v :: vs)
end
section
variable {X : Cx} {pins : List (Addr × Obj)} {σ : L2.St} {H : Hp} {s : Shared}
theorem list_not_tuple {a : Addr} {xs ys : List V} (I : Inv X pins σ H s) (h : SqL X.K H a xs) (h' : SqT X.K H a ys) : False := by
  obtain ⟨its, _, p, _⟩ := I.list h
  obtain ⟨its', _, q, _⟩ := I.tuple h'
  exact ne_of_list_tuple p.isList (show s.heap.IsTuple a its'.toArray from q) rfl
mutual
theorem DR.inj (I : Inv X pins σ H s) : ∀ {d e : Dt} {v : V}, DR X.K H d v → DR X.K H e v → d = e
  | _, _, _, .non, h => by cases h; rfl
  | _, _, _, .bl _, h => by cases h; rfl
  | _, _, _, .int _, h => by cases h; rfl
  | _, _, _, .str _, h => by cases h; rfl
  | _, _, _, .tup p q, h => by
    cases h with
    | tup p' q' =>
      have e := I.tuple_inj p p'
      subst e
      rw [DRs.inj I q q']
    | lst p' q' => exact (list_not_tuple I p' p).elim
  | _, _, _, .lst p q, h => by
    cases h with
    | lst p' q' =>
      have e := I.list_inj p p'
      subst e
      rw [DRs.inj I q q']
    | tup p' q' => exact (list_not_tuple I p p').elim
theorem DRs.inj (I : Inv X pins σ H s) : ∀ {ds es : List Dt} {vs : List V}, DRs X.K H ds vs → DRs X.K H es vs → ds = es
  | _, _, _, .nil, h => by cases h; rfl
  | _, _, _, .cons p q, h => by
    cases h with
    | cons p' q' => rw [DR.inj I p p', DRs.inj I q q']
end
theorem DRs.len : ∀ {ds : List Dt} {vs : List V}, DRs X.K H ds vs → ds.length = vs.length
  | _, _, .nil => rfl
  | _, _, .cons _ q => by simp [DRs.len q]
theorem DRs.at : ∀ {ds : List Dt} {vs : List V} {i : Nat} {v : V}, DRs X.K H ds vs → vs[i]? = some v → ∃ d, ds[i]? = some d ∧ DR X.K H d v
  | _, _, _, _, .nil, e => by simp at e
  | _, _, 0, _, .cons r _, e => by simp at e; subst e; exact ⟨_, rfl, r⟩
  | _, _, i + 1, v, .cons _ q, e => by
    obtain ⟨d, h1, h2⟩ := DRs.at (i := i) (v := v) q (by simpa using e)
    exact ⟨d, by simpa using h1, h2⟩
noncomputable def eqAtI (ds es : List Dt) (i : Nat) : Bool := match ds[i]?, es[i]? with
  | some d, some e => eqD d e
  | _, _ => true
theorem all_shift (ds es : List Dt) (d e : Dt) (n : Nat) : (List.range (n + 1)).all (eqAtI (d :: ds) (e :: es)) = (eqD d e && (List.range n).all (eqAtI ds es)) := by
  rw [List.range_succ_eq_map, List.all_cons, List.all_map]
  rfl
theorem eqDs_all : ∀ ds es : List Dt, eqDs ds es = ((List.range (min ds.length es.length)).all (eqAtI ds es) && ds.length == es.length)
  | [], [] => rfl
  | [], _ :: _ => by simp [eqDs]
  | _ :: _, [] => by simp [eqDs]
  | d :: ds, e :: es => by
    have ih := eqDs_all ds es
    simp only [eqDs, List.length_cons]
    rw [Nat.succ_min_succ, all_shift, ih, Bool.and_assoc]
    congr 2
    rw [Bool.eq_iff_iff]
    simp
theorem deepDs_at : ∀ {ds : List Dt} {i : Nat} {d : Dt}, ds[i]? = some d → deepD d ≤ deepDs ds
  | [], _, _, e => by simp at e
  | x :: xs, 0, _, e => by simp at e; subst e; simp only [deepDs]; omega
  | x :: xs, i + 1, d, e => by
    have := deepDs_at (ds := xs) (i := i) (d := d) (by simpa using e)
    simp only [deepDs]
    omega
theorem vals_at {xs : List V} {us : List Value} {j : Nat} (r : Vals xs us) (h : j < us.toArray.size) : ∃ x, xs[j]? = some x ∧ RelV x us.toArray[j] := by
  have hl := r.length
  have hj : j < xs.length := by simpa [hl] using h
  have e : xs[j]? = some xs[j] := List.getElem?_eq_getElem hj
  obtain ⟨u, hu, ru⟩ := r.get e
  refine ⟨_, e, ?_⟩
  have : us.toArray[j] = u := by
    have z : us[j]? = some us[j] := List.getElem?_eq_getElem (by simpa using h)
    rw [z] at hu
    simpa using Option.some.inj hu
  rw [this]
  exact ru
theorem units_in1 {A : Around} : A.in1.units = A.units + 1 := rfl
theorem eq_both (I : Inv X pins σ H s) : ∀ (n : Nat) (A : Around) (d e : Dt) (v v' : V) (u u' : Value), deepD d ≤ n → A.units + n < cLine → DR X.K H d v → DR X.K H e v' → RelV v u → RelV v' u' →
    RcAt A s u u' (eqD d e) ∧ EqAt A s u u' (eqD d e) := by
  intro n
  induction n with
  | zero =>
    intro A d e v v' u u' hn hu hd he r r'
    have hu' : A.units < cLine := by omega
    cases hd with
    | non =>
      cases r
      cases he with
      | non => cases r'; exact ⟨RcAt.none_none, EqAt.same _⟩
      | bl b => cases r'; exact ⟨RcAt.none_bool b, EqAt.none_bool b⟩
      | int b => obtain ⟨t, rfl⟩ := r'; exact ⟨RcAt.none_int b t, EqAt.none_int b t⟩
      | str b => obtain ⟨t, rfl⟩ := r'; exact ⟨RcAt.none_str b t, EqAt.none_str b t⟩
      | tup p q =>
        cases r'
        obtain ⟨its, _, ht, _⟩ := I.tuple p
        exact ⟨RcAt.none_tuple ht hu', EqAt.none_tuple ht hu'⟩
      | lst p q =>
        cases r'
        obtain ⟨its, _, ht, _⟩ := I.list p
        exact ⟨RcAt.none_list ht.isList hu', EqAt.none_list ht.isList hu'⟩
    | bl a =>
      cases r
      cases he with
      | non => cases r'; exact ⟨RcAt.bool_none a, EqAt.bool_none a⟩
      | bl b => cases r'; exact ⟨RcAt.bool_bool a b, EqAt.bool_bool a b⟩
      | int b => obtain ⟨t, rfl⟩ := r'; exact ⟨RcAt.bool_int a b t, EqAt.bool_int a b t⟩
      | str b => obtain ⟨t, rfl⟩ := r'; exact ⟨RcAt.bool_str a b t, EqAt.bool_str a b t⟩
      | tup p q =>
        cases r'
        obtain ⟨its, _, ht, _⟩ := I.tuple p
        exact ⟨RcAt.bool_tuple a ht hu', EqAt.bool_tuple a ht hu'⟩
      | lst p q =>
        cases r'
        obtain ⟨its, _, ht, _⟩ := I.list p
        exact ⟨RcAt.bool_list a ht.isList hu', EqAt.bool_list a ht.isList hu'⟩
    | int a =>
      obtain ⟨t0, rfl⟩ := r
      cases he with
      | non => cases r'; exact ⟨RcAt.int_none a t0, EqAt.int_none a t0⟩
      | bl b => cases r'; exact ⟨RcAt.int_bool a t0 b, EqAt.int_bool a t0 b⟩
      | int b => obtain ⟨t, rfl⟩ := r'; exact ⟨RcAt.int_int a t0 b t, EqAt.int_int a t0 b t⟩
      | str b => obtain ⟨t, rfl⟩ := r'; exact ⟨RcAt.int_str a t0 b t, EqAt.int_str a t0 b t⟩
      | tup p q =>
        cases r'
        obtain ⟨its, _, ht, _⟩ := I.tuple p
        exact ⟨RcAt.int_tuple a t0 ht hu', EqAt.int_tuple a t0 ht hu'⟩
      | lst p q =>
        cases r'
        obtain ⟨its, _, ht, _⟩ := I.list p
        exact ⟨RcAt.int_list a t0 ht.isList hu', EqAt.int_list a t0 ht.isList hu'⟩
    | str a =>
      obtain ⟨t0, rfl⟩ := r
      cases he with
      | non => cases r'; exact ⟨RcAt.str_none a t0, EqAt.str_none a t0⟩
      | bl b => cases r'; exact ⟨RcAt.str_bool a t0 b, EqAt.str_bool a t0 b⟩
      | int b => obtain ⟨t, rfl⟩ := r'; exact ⟨RcAt.str_int a t0 b t, EqAt.str_int a t0 b t⟩
      | str b => obtain ⟨t, rfl⟩ := r'; exact ⟨RcAt.str_str a t0 b t, EqAt.str_str a t0 b t⟩
      | tup p q =>
        cases r'
        obtain ⟨its, _, ht, _⟩ := I.tuple p
        exact ⟨RcAt.str_tuple a t0 ht hu', EqAt.str_tuple a t0 ht hu'⟩
      | lst p q =>
        cases r'
        obtain ⟨its, _, ht, _⟩ := I.list p
        exact ⟨RcAt.str_list a t0 ht.isList hu', EqAt.str_list a t0 ht.isList hu'⟩
    | tup p q => simp [deepD] at hn
    | lst p q => simp [deepD] at hn
  | succ n ih =>
    intro A d e v v' u u' hn hu hd he r r'
    by_cases h0 : deepD d ≤ n
    · exact ih A d e v v' u u' h0 (by omega) hd he r r'
    have hu' : A.units < cLine := by omega
    have items : ∀ {xs ys : List V} {ds es : List Dt} {its its2 : List Value}, deepDs ds ≤ n → DRs X.K H ds xs → DRs X.K H es ys → Vals xs its → Vals ys its2 →
        ∀ j (h1 : j < its.toArray.size) (h2 : j < its2.toArray.size), EqAt A.in1 s its.toArray[j] its2.toArray[j] (eqAtI ds es j) := fun {xs ys ds es its its2} hdd q q' rv rv' j h1 h2 => by
      obtain ⟨x, hx, rx⟩ := vals_at rv h1
      obtain ⟨y, hy, ry⟩ := vals_at rv' h2
      obtain ⟨dx, edx, rdx⟩ := q.at hx
      obtain ⟨dy, edy, rdy⟩ := q'.at hy
      have hdeep := deepDs_at edx
      have := (ih A.in1 dx dy x y _ _ (by omega) (by rw [units_in1]; omega) rdx rdy rx ry).2
      unfold eqAtI
      rw [edx, edy]
      exact this
    cases hd with
    | non => exact absurd (Nat.zero_le _) h0
    | bl _ => exact absurd (Nat.zero_le _) h0
    | int _ => exact absurd (Nat.zero_le _) h0
    | str _ => exact absurd (Nat.zero_le _) h0
    | @tup a xs ds p q =>
      cases r
      obtain ⟨its, rv, ht, _⟩ := I.tuple p
      cases he with
      | non => cases r'; exact ⟨RcAt.tuple_none ht hu', EqAt.tuple_none ht hu'⟩
      | bl b => cases r'; exact ⟨RcAt.tuple_bool b ht hu', EqAt.tuple_bool b ht hu'⟩
      | int b => obtain ⟨t, rfl⟩ := r'; exact ⟨RcAt.tuple_int b t ht hu', EqAt.tuple_int b t ht hu'⟩
      | str b => obtain ⟨t, rfl⟩ := r'; exact ⟨RcAt.tuple_str b t ht hu', EqAt.tuple_str b t ht hu'⟩
      | @tup b ys es p' q' =>
        cases r'
        obtain ⟨its2, rv2, ht2, _⟩ := I.tuple p'
        have hdd : deepDs ds ≤ n := by simp only [deepD] at hn; omega
        have e : ((List.range (min its.toArray.size its2.toArray.size)).all (eqAtI ds es) && its.toArray.size == its2.toArray.size) = eqD (.tup ds) (.tup es) := by
          simp only [eqD]
          rw [eqDs_all, q.len, q'.len, rv.length, rv2.length]
          simp
        have rc : RcAt A s (.ref a) (.ref b) (eqD (.tup ds) (.tup es)) := by
          rw [← e]
          exact RcAt.tuples ht ht2 hu' (items hdd q q' rv rv2)
        refine ⟨rc, ?_⟩
        by_cases hab : a = b
        · subst hab
          have ed : Dt.tup ds = Dt.tup es := DR.inj I (.tup p q) (.tup p' q')
          rw [← ed, eqD_refl]
          exact EqAt.same _
        · exact EqAt.of_refs hab rc
      | @lst b ys es p' q' =>
        cases r'
        obtain ⟨its2, _, ht2, _⟩ := I.list p'
        exact ⟨RcAt.tuple_list ht ht2.isList hu', EqAt.tuple_list ht ht2.isList hu'⟩
    | @lst a xs ds p q =>
      cases r
      obtain ⟨its, rv, ht, _⟩ := I.list p
      cases he with
      | non => cases r'; exact ⟨RcAt.list_none ht.isList hu', EqAt.list_none ht.isList hu'⟩
      | bl b => cases r'; exact ⟨RcAt.list_bool b ht.isList hu', EqAt.list_bool b ht.isList hu'⟩
      | int b => obtain ⟨t, rfl⟩ := r'; exact ⟨RcAt.list_int b t ht.isList hu', EqAt.list_int b t ht.isList hu'⟩
      | str b => obtain ⟨t, rfl⟩ := r'; exact ⟨RcAt.list_str b t ht.isList hu', EqAt.list_str b t ht.isList hu'⟩
      | @tup b ys es p' q' =>
        cases r'
        obtain ⟨its2, _, ht2, _⟩ := I.tuple p'
        exact ⟨RcAt.list_tuple ht.isList ht2 hu', EqAt.list_tuple ht.isList ht2 hu'⟩
      | @lst b ys es p' q' =>
        cases r'
        obtain ⟨its2, rv2, ht2, _⟩ := I.list p'
        have hdd : deepDs ds ≤ n := by simp only [deepD] at hn; omega
        have rc : RcAt A s (.ref a) (.ref b) (eqD (.lst ds) (.lst es)) := by
          simp only [eqD]
          rw [eqDs_all, q.len, q'.len, rv.length, rv2.length]
          by_cases hsz : its.length = its2.length
          · have e : ((List.range (min its.length its2.length)).all (eqAtI ds es) && its.length == its2.length) = (List.range its.toArray.size).all (eqAtI ds es) := by
              simp [hsz]
            rw [e]
            exact RcAt.lists ht.isList ht2.isList (by simpa using hsz) hu' (items hdd q q' rv rv2)
          · have e : ((List.range (min its.length its2.length)).all (eqAtI ds es) && its.length == its2.length) = false := by
              rw [beq_eq_false_iff_ne.mpr hsz, Bool.and_false]
            rw [e]
            exact RcAt.lists_lengths ht.isList ht2.isList (by simpa using hsz) hu'
        refine ⟨rc, ?_⟩
        by_cases hab : a = b
        · subst hab
          have ed : Dt.lst ds = Dt.lst es := DR.inj I (.lst p q) (.lst p' q')
          rw [← ed, eqD_refl]
          exact EqAt.same _
        · exact EqAt.of_refs hab rc
theorem op_eq_deep {n : Nat} (hu : X.A.units + n < cLine) : OpR X (compareOp .Eq) (fun x y H Q => ∃ d e, DR X.K H d x ∧ DR X.K H e y ∧ deepD d ≤ n ∧ Q (.bl (eqD d e)) H) := by
  intro pins s σ H x y v u Q I rx ry h
  obtain ⟨d, e, hd, he, hn, q⟩ := h
  exact (eq_both I n X.A d e x y v u hn hu hd he rx ry).1 X.prog X.w X.xe _ ⟨.bl (eqD d e), H, I, rfl, q⟩
end
end EE
namespace EE
open PySem PySem.Spec PyProof.Rows L2
end EE
namespace EE
open PySem PySem.Spec PyProof.Rows L2
noncomputable def textOf (cs : List Nat) : Str := ⟨cs.toArray⟩
theorem textOf_len (cs : List Nat) : (textOf cs).length = cs.length := by simp [textOf, Str.length]
theorem textOf_cat (a b : List Nat) : textOf a ++ textOf b = textOf (a ++ b) := by
  show Str.append (textOf a) (textOf b) = textOf (a ++ b)
  simp [textOf, Str.append]
theorem s_none : ("" : Str) = textOf [] := by decide +kernel
end EE
namespace EE
open PySem PySem.Spec PyProof.Rows L2
noncomputable def cutT (cs : List Nat) (lo hi : Option Int) : List Nat := (cs.drop (HT.sIx cs.length 0 lo)).take (HT.sIx cs.length cs.length hi - HT.sIx cs.length 0 lo)
theorem idx_cut (lo hi : Option Int) (n : Nat) : Builtin.Str.strSliceIndices lo hi 1 n = sliceRange ((HT.sIx n 0 lo : Nat) : Int) ((HT.sIx n n hi : Nat) : Int) 1 := by
  have a : ∀ (i : Int) (d : Nat), max 0 (min (if i < 0 then i + (n : Int) else i) (n : Int)) = ((HT.sIx n d (some i) : Nat) : Int) := by
    intro i d
    simp only [HT.sIx]
    by_cases h : i < 0
    · simp only [h, if_true]; omega
    · simp only [h, if_false]; omega
  unfold Builtin.Str.strSliceIndices
  cases lo with
  | none =>
    cases hi with
    | none => rfl
    | some j =>
      show sliceRange (0 : Int) (max 0 (min (if j < 0 then j + (n : Int) else j) (n : Int))) 1 = _
      rw [a j n]
      rfl
  | some i =>
    cases hi with
    | none =>
      show sliceRange (max 0 (min (if i < 0 then i + (n : Int) else i) (n : Int))) (n : Int) 1 = _
      rw [a i 0]
      rfl
    | some j =>
      show sliceRange (max 0 (min (if i < 0 then i + (n : Int) else i) (n : Int))) (max 0 (min (if j < 0 then j + (n : Int) else j) (n : Int))) 1 = _
      rw [a i 0, a j n]
theorem slice_cut (x : Str) (lo hi : Option Int) : Txt.slice x lo hi = textOf (cutT x.cps.toList lo hi) := by
  have hl : x.cps.toList.length = x.length := by simp [Str.length]
  have l1 : HT.sIx x.length 0 lo ≤ x.length := HT.sIx_le _ _ (Nat.zero_le _) lo
  have l2 : HT.sIx x.length x.length hi ≤ x.length := HT.sIx_le _ _ (Nat.le_refl _) hi
  unfold Txt.slice cutT
  rw [idx_cut, sliceRange_one, hl, pick_run]
  by_cases h : ((1 : Int) == 1 && ((List.range (HT.sIx x.length x.length hi - HT.sIx x.length 0 lo)).map (HT.sIx x.length 0 lo + ·)).length == x.length) = true
  · rw [if_pos h]
    simp only [List.length_map, List.length_range, Bool.and_eq_true, beq_iff_eq] at h
    have h2 := h.2
    have e1 : HT.sIx x.length 0 lo = 0 := by omega
    have e2 : HT.sIx x.length x.length hi = x.length := by omega
    rw [e1, e2, List.drop_zero, Nat.sub_zero, ← hl, List.take_length]
    simp [textOf]
  · rw [if_neg h]
    rfl
def rSlS : V → Option Int → Option Int → Hp → VK → Prop := fun x lo hi H Q => ∃ z, x = .str z ∧ z.length ≤ sizeLine ∧ Q (.str (textOf (cutT z.cps.toList lo hi))) H
theorem sl_str {X : Cx} : SlR X rSlS := by
  intro pins s σ H x v vl vu lo hi sl Q I rx hs pl pu h
  obtain ⟨z, rfl, hz, q⟩ := h
  obtain ⟨t, rfl⟩ := rx
  refine ⟨"str", _, slot_str_getitem.lookup, typeIs_str s z t, ?_⟩
  have fin : ∀ t' k, EP X pins σ Q (.str (Txt.slice z lo hi) t') { s with toks := k } := fun t' k => ⟨.str _, H, I.tok _, ⟨_, rfl⟩, by rw [slice_cut]; exact q⟩
  have len : (Txt.slice z lo hi).length ≤ sizeLine := Nat.le_trans (Txt.slice_le z lo hi) hz
  obtain ⟨o, ho, hc, hd⟩ := hs
  cases pl with
  | none =>
    cases pu with
    | none => exact wpAny_getItem_str_slice (l := none) (u := none) (st := none) ⟨o, ho, hc, hd⟩ rfl (post_val_or_str ⟨len, fin⟩)
    | int j tj => exact wpAny_getItem_str_slice (l := none) (u := some (j, tj)) (st := none) ⟨o, ho, hc, hd⟩ rfl (post_val_or_str ⟨len, fin⟩)
  | int i ti =>
    cases pu with
    | none => exact wpAny_getItem_str_slice (l := some (i, ti)) (u := none) (st := none) ⟨o, ho, hc, hd⟩ rfl (post_val_or_str ⟨len, fin⟩)
    | int j tj => exact wpAny_getItem_str_slice (l := some (i, ti)) (u := some (j, tj)) (st := none) ⟨o, ho, hc, hd⟩ rfl (post_val_or_str ⟨len, fin⟩)
end EE
namespace EE
open PySem PySem.Spec PyProof.Rows L2
theorem forIn_go {α β : Type} (f : α → β → Sem (ForInStep β)) (g : β → α → β) : ∀ (l : List α) (b : β), (∀ x ∈ l, ∀ b, f x b = pure (.yield (g b x))) → forIn l b f = pure (l.foldl g b)
  | [], b, _ => rfl
  | x :: l, b, h => by
    rw [List.forIn_cons, h x List.mem_cons_self b]
    exact forIn_go f g l (g b x) fun y hy => h y (List.mem_cons_of_mem _ hy)
noncomputable def clGo (env : Env) (acc : List (Str × Addr)) (y : Str × NameKind) : List (Str × Addr) := if y.2 == .free then (y.1, (env.cells.lookup y.1).getD 0) :: acc else acc
noncomputable def clOf (scope : Scope) (env : Env) : List (Str × Addr) := scope.names.foldl (clGo env) []
theorem clos_ok {scope : Scope} {env : Env} (h : ∀ y ∈ scope.names, y.2 = .free → ∃ c, env.cells.lookup y.1 = some c) : closureFor scope env = pure (clOf scope env) := by
  simp only [closureFor]
  rw [forIn_go _ (clGo env) scope.names [] (fun y hy b => ?_)]
  · rfl
  · obtain ⟨n, k⟩ := y
    by_cases hk : k = .free
    · subst hk
      obtain ⟨c, e⟩ := h _ hy rfl
      have e' : env.cells.lookup n = some c := e
      simp only [clGo, beq_self_eq_true, if_true, cellOf, e', Option.getD_some]
      rfl
    · have : (k == NameKind.free) = false := by simpa using hk
      simp only [clGo, this, Bool.false_eq_true, if_false]
theorem cl_sub {env : Env} : ∀ (names : List (Str × NameKind)) (acc : List (Str × Addr)), (∀ y ∈ names, y.2 = .free → ∃ c, env.cells.lookup y.1 = some c) → (∀ y c, acc.lookup y = some c → env.cells.lookup y = some c) →
    ∀ y c, (names.foldl (clGo env) acc).lookup y = some c → env.cells.lookup y = some c
  | [], acc, _, h, y, c, e => h y c e
  | (n, k) :: r, acc, hf, h, y, c, e => by
    rw [List.foldl_cons] at e
    refine cl_sub r _ (fun z hz => hf z (List.mem_cons_of_mem _ hz)) (fun y c e => ?_) y c e
    unfold clGo at e
    by_cases hk : k = .free
    · subst hk
      obtain ⟨c0, e0⟩ := hf _ List.mem_cons_self rfl
      have e0' : env.cells.lookup n = some c0 := e0
      simp only [beq_self_eq_true, if_true, e0', Option.getD_some, List.lookup_cons] at e
      by_cases hy : y = n
      · subst hy
        simp at e
        rw [← e]; exact e0'
      · have hb : (y == n) = false := by simpa using hy
        simp only [hb] at e
        exact h y c e
    · have hb : (k == NameKind.free) = false := by simpa using hk
      simp only [hb, Bool.false_eq_true, if_false] at e
      exact h y c e
theorem cl_has {env : Env} : ∀ (names : List (Str × NameKind)) (acc : List (Str × Addr)) (y : Str), (y, NameKind.free) ∈ names ∨ (∃ c, acc.lookup y = some c) → ∃ c, (names.foldl (clGo env) acc).lookup y = some c
  | [], acc, y, h => by
    rcases h with h | h
    · simp at h
    · exact h
  | (n, k) :: r, acc, y, h => by
    rw [List.foldl_cons]
    refine cl_has r _ y ?_
    rcases h with h | ⟨c, h⟩
    · rcases List.mem_cons.mp h with h | h
      · cases h
        exact .inr ⟨(env.cells.lookup n).getD 0, by simp [clGo]⟩
      · exact .inl h
    · refine .inr ?_
      unfold clGo
      by_cases hk : k = .free
      · subst hk
        simp only [beq_self_eq_true, if_true, List.lookup_cons]
        by_cases hy : y = n
        · subst hy; simp
        · have hb : (y == n) = false := by simpa using hy
          simp only [hb]
          exact ⟨c, h⟩
      · have hb : (k == NameKind.free) = false := by simpa using hk
        simp only [hb, Bool.false_eq_true, if_false]
        exact ⟨c, h⟩
theorem relabel_mem {scope : Scope} {env : Env} {y : Str} {k : NameKind} (h : (relabel scope env).names.lookup y = some k) : ∃ k', (y, k') ∈ scope.names ∧ (k = k' ∨ (k' = .free ∧ k = .cell)) := by
  have go : ∀ (l : List (Str × NameKind)), (l.map fun (n, k) => if (k == .free && env.scope.kind == .function && env.kindOf n == some .cell) then (n, NameKind.cell) else (n, k)).lookup y = some k → ∃ k', (y, k') ∈ l ∧ (k = k' ∨ (k' = .free ∧ k = .cell)) := by
    intro l
    induction l with
    | nil => intro h; simp at h
    | cons a r ih =>
      obtain ⟨n, k0⟩ := a
      intro h
      rw [List.map_cons] at h
      by_cases hc : (k0 == NameKind.free && env.scope.kind == .function && env.kindOf n == some .cell) = true
      · simp only [hc, if_true, List.lookup_cons] at h
        by_cases hy : y = n
        · subst hy
          simp only [beq_self_eq_true] at h
          refine ⟨k0, List.mem_cons_self, .inr ⟨?_, by simpa using h.symm⟩⟩
          simp only [Bool.and_eq_true] at hc
          simpa using hc.1.1
        · have hb : (y == n) = false := by simpa using hy
          simp only [hb] at h
          obtain ⟨k', m, q⟩ := ih h
          exact ⟨k', List.mem_cons_of_mem _ m, q⟩
      · dsimp only at h
        rw [if_neg hc] at h
        by_cases hy : y = n
        · subst hy
          simp at h
          exact ⟨k0, List.mem_cons_self, .inl h.symm⟩
        · have hb : (y == n) = false := by simpa using hy
          simp only [List.lookup_cons, hb] at h
          obtain ⟨k', m, q⟩ := ih h
          exact ⟨k', List.mem_cons_of_mem _ m, q⟩
  exact go scope.names h
theorem relabel_free {scope : Scope} {env : Env} {y : Str} (hk : env.scope.kind = .function) (hc : env.kindOf y = some .cell) (h : scope.names.lookup y = some .free) : (relabel scope env).names.lookup y = some .cell := by
  have go : ∀ (l : List (Str × NameKind)), l.lookup y = some .free → (l.map fun (n, k) => if (k == .free && env.scope.kind == .function && env.kindOf n == some .cell) then (n, NameKind.cell) else (n, k)).lookup y = some .cell := by
    intro l
    induction l with
    | nil => intro h; simp at h
    | cons a r ih =>
      obtain ⟨n, k0⟩ := a
      intro h
      rw [List.map_cons]
      by_cases hy : y = n
      · subst hy
        simp only [List.lookup_cons, beq_self_eq_true, Option.some.injEq] at h
        subst h
        simp [hk, hc]
      · have hb : (y == n) = false := by simpa using hy
        simp only [List.lookup_cons, hb] at h
        by_cases hcc : (k0 == NameKind.free && env.scope.kind == .function && env.kindOf n == some .cell) = true
        · simp only [hcc, if_true, List.lookup_cons, hb]
          exact ih h
        · dsimp only
          rw [if_neg hcc]
          simp only [List.lookup_cons, hb]
          exact ih h
  exact go scope.names h
structure CompScope (osc : Scope) (x : Str) (M : List Str) (scope : Scope) : Prop where
  kind : scope.kind = .function
  nocell : ∀ y ∈ scope.names, y.2 ≠ .cell
  names : ∀ y ∈ scope.names, y.2 = .local → scope.names.lookup y.1 = some .local
  own : scope.names.lookup x = some .local
  free : ∀ y ∈ scope.names, y.2 = .free → osc.names.lookup y.1 = some .cell
  nd : (x :: M).Nodup
  mine : ∀ y ∈ M, scope.names.lookup y = some .free
noncomputable def cxComp (X : Cx) (scope : Scope) (C : Addr) (N : List Str) (fp : List Addr) (pins : List (Addr × Obj)) (s : Shared) (H : Hp) : Cx where
  prog := X.prog
  w := X.w
  K := X.K
  mg := X.mg
  base := X.base
  A := X.A
  N := N
  s₀ := s
  H₀ := H
  env := compEnvC scope (clOf scope X.env) C X.env
  outer := X.stack
  stack := X.stack
  ex := fp
  fn := fun _ => false
  calm := true
  pn := X.pn ++ pins
  xe := fun _ _ => False
noncomputable def pick (σ : L2.St) (js : List Nat) : L2.St := js.map fun j => (σ[j]?).getD none
section
variable {X : Cx} {pins : List (Addr × Obj)} {σ : L2.St} {H : Hp} {s : Shared} {scope : Scope} {x : Str} {M : List Str} {js : List Nat} {C : Addr} {fp : List Addr}
theorem CompScope.cells (S : CompScope X.env.scope x M scope) (I : Inv X pins σ H s) : ∀ y ∈ scope.names, y.2 = .free → ∃ c, X.env.cells.lookup y.1 = some c := fun y hy hk => I.ok.has y.1 (.inl (S.free y hy hk))
theorem CompScope.sub (S : CompScope X.env.scope x M scope) (I : Inv X pins σ H s) {y : Str} {c : Addr} (e : (clOf scope X.env).lookup y = some c) : X.env.cells.lookup y = some c :=
  cl_sub scope.names [] (S.cells I) (fun _ _ h => by simp at h) y c e
theorem inv_comp {s1 : Shared} {m : Str → Option Value} (S : CompScope X.env.scope x M scope) (hc : X.calm = true) (I : Inv X pins σ H s) (hjs : ∀ (k : Nat) (y : Str), M[k]? = some y → ∃ j : Nat, js[k]? = some j ∧ X.N[j]? = some y) (hlen : js.length = M.length)
    (hf : ∀ b ∈ fp, FpOk X pins H b) (hfl : ∀ b ∈ fp, b < s.heap.objs.size) (hC : s.heap.objs.size ≤ C) (hn : s1.heap.Ns C m) (hk : ∀ b o, s.heap.get? b = some o → s1.heap.get? b = some o) (hos : s1.os = s.os) (hg : AllBare s1.gens) :
    Inv (cxComp X scope C (x :: M) fp pins s H) [] (none :: pick σ js) H s1 := by
  have nst : ∀ b ∈ fp, b ∉ frs X.stack := fun b hb z => by
    obtain ⟨f0, f1, f2, _⟩ := hf b hb
    rcases List.mem_cons.mp (I.stkSub b z) with e | e
    · exact f1 e
    · exact f2 e
  have cellK : ∀ (c : Addr) (v : Option Value), s.heap.IsCell c v → s1.heap.IsCell c v := fun c v z_1 => by obtain ⟨o, e, d⟩ := z_1; exact ⟨o, hk c o e, d⟩
  refine ⟨⟨I.ok.mod, S.kind, I.ok.glob, I.ok.blt, hC, fun y z c h1 h2 => I.ok.inj y z c (S.sub I h1) (S.sub I h2), fun y hy => ?_, fun y c h _ => (by cases (show false = true from h)), fun _ => I.ok.hd hc, I.ok.frames, .inl rfl, fun b hb => ?_, I.bs,
    Nat.le_trans I.ok.bsz I.sz, fun b o e hb => ?_, nst, I.stack, I.stkFree⟩, hos, hg, Un.kept hk, ⟨m, hn, fun i y v h1 h2 h3 => ?_⟩, fun y c e => ?_, I.hok.fresh hC, fun y c e => I.freeC y c (S.sub I e), fun p hp => ?_, I.hok.kept hk, ?_⟩
  · have hy' : (relabel scope X.env).names.lookup y = some .cell ∨ (relabel scope X.env).names.lookup y = some .free := hy
    have fr : (y, NameKind.free) ∈ scope.names := by
      rcases hy' with h | h
      · obtain ⟨k', mm, e | e⟩ := relabel_mem h
        · exact absurd e.symm (S.nocell _ mm)
        · rw [e.1] at mm; exact mm
      · obtain ⟨k', mm, e | e⟩ := relabel_mem h
        · rw [← e] at mm; exact mm
        · exact absurd e.2 (by intro z; cases z)
    exact cl_has scope.names [] y (.inl fr)
  · obtain ⟨f0, f1, f2, f3, f4, f5⟩ := hf b hb
    exact ⟨Nat.ne_of_lt (Nat.lt_of_lt_of_le (hfl b hb) hC), fun y c e => f4 y c (S.sub I e)⟩
  · obtain ⟨f0, f1, f2, f3, f4, f5⟩ := hf b hb
    rcases f3 with f3 | f3
    · exact I.ok.noex b o e f3
    · exact absurd (Heap.lt_size e) (Nat.not_lt.mpr (Nat.le_trans I.ok.bsz f3))
  · cases i with
    | zero =>
      have h2' : (none : Option V) = some v := by simpa using h2
      cases h2'
    | succ k =>
      have h1' : M[k]? = some y := by
        have z : (x :: M)[k + 1]? = some y := h1
        simpa using z
      have h2' : (pick σ js)[k]? = some (some v) := by simpa using h2
      obtain ⟨j, ej, eN⟩ := hjs k y h1'
      have eσ : σ[j]? = some (some v) := by
        unfold pick at h2'
        rw [List.getElem?_map, ej] at h2'
        have z : (σ[j]?).getD none = some v := by simpa using h2'
        cases q : σ[j]? with
        | none => rw [q] at z; cases z
        | some o => rw [q] at z; rw [show o = some v from z]
      have hfree := S.mine y (List.mem_of_getElem? h1')
      have hcell : X.env.kindOf y = some .cell := S.free (y, .free) (PySem.mem_of_lookup hfree) rfl
      obtain ⟨m0, _, hl0⟩ := I.loc
      obtain ⟨u, r, l⟩ := hl0 j y v eN eσ (.inr (.inl hcell))
      refine ⟨u, r, .inr ⟨.inl (relabel_free I.ok.kind hcell hfree), ?_⟩⟩
      obtain ⟨c', e'⟩ := cl_has (env := X.env) scope.names [] y (.inl (PySem.mem_of_lookup hfree))
      have e2 := S.sub I (show (clOf scope X.env).lookup y = some c' from e')
      rcases l with ⟨z, _⟩ | ⟨_, c, hcc, hic⟩
      · rw [hcell] at z; cases z
      · rw [hcc] at e2
        have : c = c' := Option.some.inj e2
        subst this
        exact ⟨c, e', cellK c _ hic⟩
  · obtain ⟨v, h⟩ := I.cell y c (S.sub I e)
    exact ⟨v, cellK c v h⟩
  · have hp' : p ∈ X.pn ++ pins := by simpa [cxComp] using hp
    obtain ⟨e, n, ne, nf, d⟩ := I.pin p hp'
    refine ⟨hk _ _ e, n, Nat.ne_of_lt (Nat.lt_of_lt_of_le (Heap.lt_size e) hC), fun z => ?_, d⟩
    rcases List.mem_cons.mp (I.stkSub p.1 z) with q | q
    · exact ne q
    · exact nf q
  · show (none :: pick σ js).length = (x :: M).length
    simp [pick, hlen]
theorem comp_end {N : List Str} {pins' : List (Addr × Obj)} {σ' : L2.St} {H' : Hp} {s' : Shared} {h' : Heap} (I : Inv X pins σ H s) (hf : ∀ b ∈ fp, FpOk X pins H b) (J : Inv (cxComp X scope C N fp pins s H) pins' σ' H' s')
    (hC : s.heap.objs.size ≤ C) (hs : Heap.SameBut C s'.heap h') : Inv X pins σ H' { s' with heap := h' } := by
  have u0 : Un (frs X.stack) fp H H' s.heap s'.heap := J.base
  have nC : ∀ b o, s.heap.get? b = some o → b ≠ C := fun b o e z => absurd (Heap.lt_size e) (by rw [z]; exact Nat.not_lt.mpr hC)
  have u : Un (frs X.stack) fp H H' s.heap h' := ⟨fun b o e n hb hx => (hs.2 b (nC b o e)).trans (u0.keep b o e n hb hx), fun b o e n hb hx => let ⟨sl, q⟩ := u0.slot b o e n hb hx; ⟨sl, (hs.2 b (nC b o e)).trans q⟩, u0.free,
    fun b o e hx => let ⟨o', q⟩ := u0.there b o e hx; ⟨o', (hs.2 b (nC b o e)).trans q⟩, u0.tups, u0.frzs, u0.tbls⟩
  have fC : H' C = none := J.free
  have hok : HOk X.prog X.w H' h' := fun b ob e => (J.hok b ob e).stay (fun c w hc q => (hs.2 c (fun z => by
    subst z
    rcases hc with z | z
    · rw [← z, fC] at e; cases e
    · rw [fC] at z; cases z)).trans q) (fun _ q => q) fun _ _ q => q
  exact I.call' (s' := { s' with heap := h' }) (ch := fp) J.os u hok J.bare fun b hb => by
    obtain ⟨f0, f1, f2, f3, f4, f5⟩ := hf b hb
    exact ⟨f3, f1, f4, f5⟩
end
def tComp (wi : TI) (te : TE) (js : List Nat) : TE := fun σ H Q => wi σ H fun J H1 => ∀ D, H1 D = none → ∃ W : Nat → Nat → Hp → Prop, (∃ m, W 0 m (upd H1 D (.lst []))) ∧ ∀ i m H2, W i m H2 →
  (J.stop i H2 ∧ Q (.ref D) H2) ∨ (J.go i H2 ∧ ∃ N : Hp → Prop, (∀ H', N H' → ∃ m', m' < m ∧ W (i + 1) m' H') ∧ ∀ v H', J.yld i H2 v H' →
    te (some v :: pick σ js) H' fun y H3 => ∃ ys, H3 D = some (.lst ys) ∧ ys.length < sizeLine ∧ N (upd H3 D (.lst (ys ++ [y]))))
section
variable {X : Cx} {elt iter : Expr} {x : Str} {px pos : Pos} {scope : Scope} {M : List Str} {js : List Nat} {wi : TI} {te : TE}
theorem compLoop_all {prog : Program} {w : World} {A : Around} {R : Result → Shared → Prop} {s : Shared} {target : Expr} {it acc : Value} {env : Env} (I : Nat → Shared → Prop)
    (turn : ∀ n s, I n s → wpAny (model prog w) A (pyNext it) (fun r s₁ => match r with
      | none => R (.ok .next) s₁
      | some v => wpAny (model prog w) A (letOwnedTupleGo target it v) (fun _ s₂ => wpAny (model prog w) A (assign target env v) (fun _ s₃ => wpAny (model prog w) A (eval elt env) (fun y s₄ =>
          wpAny (model prog w) A (call (.builtin "list.append") [acc, y]) (fun _ s₅ => ∃ m, m < n ∧ I m s₅) (fun _ _ => False) s₄) (fun _ _ => False) s₃) (fun _ _ => False) s₂) (fun _ _ => False) s₁) (fun _ _ => False) s)
    (n : Nat) (h : I n s) : codeAny (model prog w) A (.compLoop (.ListComp elt [⟨target, iter, [], 0⟩] scope pos) 0 it acc env) R s := by
  refine codeAny_loop rfl I (fun n s hI => ?_) n h
  show wpAny _ _ ((compTurn (.ListComp elt [⟨target, iter, [], 0⟩] scope pos) 0 it acc env).onRaise (fun x => do noteFrame x env; theTreesLotGoes x)) _ _ s
  refine wpAny_noted ?_
  rw [compTurn_list1]
  refine wpAny_bind (wpAny_standAt (wpAny_bind (wpAny_mono (turn n s hI) (fun r s₁ h₁ => ?_) fun _ _ z => z.elim)))
  cases r with
  | none => exact wpAny_pure h₁
  | some v =>
    exact wpAny_bind (wpAny_mono h₁ (fun _ s₂ h₂ => wpAny_bind (wpAny_mono h₂ (fun _ s₃ h₃ => wpAny_bind (wpAny_bind (wpAny_mono h₃ (fun y s₄ h₄ => wpAny_bind (wpAny_mono h₄
      (fun _ s₅ h₅ => wpAny_pure (wpAny_pure ⟨rfl, h₅⟩)) fun _ _ z => z.elim)) fun _ _ z => z.elim))) fun _ _ z => z.elim)) fun _ _ z => z.elim)
theorem comp_block {pins : List (Addr × Obj)} {σ : L2.St} {H2 : Hp} {s2 : Shared} {it D : Addr} {fp : List Addr} {tn : Nat → Heap → Prop} {J : It} {W : Nat → Nat → Hp → Prop} {Qe : Hp → Prop} {R : Addr → Result → Shared → Prop} {E : Value → Shared → Prop} {m0 : Nat}
    (S : CompScope X.env.scope x M scope) (hc : X.calm = true) (hjs : ∀ (k : Nat) (y : Str), M[k]? = some y → ∃ j : Nat, js[k]? = some j ∧ X.N[j]? = some y) (hlen : js.length = M.length)
    (he : ∀ (C : Addr) (fp : List Addr) (pins : List (Addr × Obj)) (s : Shared) (H : Hp), PE (cxComp X scope C (x :: M) fp pins s H) elt te)
    (I : Inv X pins σ H2 s2) (T : Turn X.prog X.w X.K (.Name x px) J fp it tn) (st : tn 0 s2.heap) (hf : ∀ b ∈ fp, FpOk X pins H2 b) (w0 : W 0 m0 H2)
    (turn : ∀ i m H3, W i m H3 → (J.stop i H3 ∧ Qe H3) ∨ (J.go i H3 ∧ ∃ N : Hp → Prop, (∀ H', N H' → ∃ m', m' < m ∧ W (i + 1) m' H') ∧ ∀ v H', J.yld i H3 v H' →
      te (some v :: pick σ js) H' fun y H4 => ∃ ys, H4 D = some (.lst ys) ∧ ys.length < sizeLine ∧ N (upd H4 D (.lst (ys ++ [y])))))
    (fin : ∀ (C : Addr) (s' : Shared) (H' : Hp) (pins' : List (Addr × Obj)) (σ' : L2.St), s2.heap.objs.size ≤ C → Inv (cxComp X scope C (x :: M) fp pins s2 H2) pins' σ' H' s' → Qe H' → R C (.ok .next) s') :
    wpAny (model X.prog X.w) X.A (newFunctionEnv scope X.env.globals (clOf scope X.env) [] X.env.qual none .none (some X.env)) (fun cenv s4 =>
      codeAny (model X.prog X.w) X.A (.compStart (.ListComp elt [⟨.Name x px, iter, [], 0⟩] scope pos) 0 (.ref it) (.ref D) { cenv with scope := relabel scope X.env }) (R cenv.locals) s4) E s2 := by
  refine wpAny_newFunctionEnv S.nocell (by intro y hy; simp at hy) (fun h1 hns hsb => ?_) S.kind
  have hfl : ∀ b ∈ fp, b < s2.heap.objs.size := fun b hb => by
    obtain ⟨o, e, _⟩ := T.obj 0 _ st b hb
    exact Heap.lt_size e
  have old : ∀ b o, s2.heap.get? b = some o → h1.get? b = some o := fun b o e => (hsb.2 b (Nat.ne_of_lt (Heap.lt_size e))).trans (Heap.get?_push_of_some _ e)
  have I4 : Inv (cxComp X scope s2.heap.objs.size (x :: M) fp pins s2 H2) [] (none :: pick σ js) H2 { s2 with heap := h1, toks := s2.toks + ([] : List (Str × Value)).length } :=
    inv_comp S hc I hjs hlen hf hfl (Nat.le_refl _) hns old rfl I.bare
  have st4 : tn 0 h1 := T.keep _ _ _ st fun b hb o e => old b o e
  have stat : ∀ {H' : Hp}, (∀ b ∈ fp, H' b = none) → ∀ b ∈ fp, FpOk (cxComp X scope s2.heap.objs.size (x :: M) fp pins s2 H2) [] H' b := fun {H'} hn b hb => by
    obtain ⟨f0, f1, f2, f3, f4, f5⟩ := hf b hb
    refine ⟨hn b hb, Nat.ne_of_lt (hfl b hb), I4.ok.exfs b hb, .inl hb, fun y c e => f4 y c (S.sub I e), fun p hp => f5 p ?_⟩
    simpa [cxComp] using hp
  have loop : ∀ s3 : Shared, s3 = { s2 with heap := h1, toks := s2.toks + ([] : List (Str × Value)).length } →
      codeAny (model X.prog X.w) X.A (.compLoop (.ListComp elt [⟨.Name x px, iter, [], 0⟩] scope pos) 0 (.ref it) (.ref D) (compEnvC scope (clOf scope X.env) s2.heap.objs.size X.env)) (R s2.heap.objs.size) s3 := by
    rintro s3 rfl
    refine compLoop_all (fun n s' => ∃ i x0 H', Inv (cxComp X scope s2.heap.objs.size (x :: M) fp pins s2 H2) [] (x0 :: pick σ js) H' s' ∧ tn i s'.heap ∧ (∀ b ∈ fp, H' b = none) ∧ W i n H') ?_ m0 ⟨0, none, H2, I4, st4, fun b hb => (hf b hb).1, w0⟩
    rintro n s5 ⟨i, x0, H5, I5, st5, fr5, w5⟩
    rcases turn i n H5 w5 with ⟨stop, qe⟩ | ⟨go, N, hN, step⟩
    · refine thn (T.done (cxComp X scope s2.heap.objs.size (x :: M) fp pins s2 H2) rfl rfl rfl rfl i [] s5 _ H5 (fun _ _ => False) I5 (stat fr5) st5 stop) fun r s6 ⟨hr, I6⟩ => ?_
      subst hr
      exact fin _ s6 H5 [] _ (Nat.le_refl _) I6 qe
    · refine thn (T.item (cxComp X scope s2.heap.objs.size (x :: M) fp pins s2 H2) rfl rfl rfl rfl i [] s5 _ H5 (fun _ _ => False) I5 (stat fr5) st5 go) fun r s6 ⟨u, hr, h6⟩ => ?_
      subst hr
      refine thn h6 fun _ s7 ⟨v, H7, I7, r7, y7, st7, fr7⟩ => ?_
      have I7' := I7.pinned (stat fr7) (T.obj _ _ st7)
      have hg : PG (cxComp X scope s2.heap.objs.size (x :: M) fp pins s2 H2) (.Name x px) (gName 0) := pg_name (i := 0) S.nd rfl (.inl (lookup_relabel_local S.own)) (.inr (lookup_relabel_local S.own))
      refine thn (hg _ s7 _ H7 v u (fun σ' H' => σ' = some v :: pick σ js ∧ H' = H7) I7' r7 ⟨rfl, rfl⟩) fun _ s8 ⟨σ8, H8, I8, e8, e8'⟩ => ?_
      subst e8 e8'
      refine thn (he s2.heap.objs.size fp pins s2 H2 _ s8 _ H8 _ I8 (step v H8 y7)) fun yv s9 ⟨y, H9, I9, r9, ys, hD, hz, n9⟩ => ?_
      refine thn (mt_append (X := cxComp X scope s2.heap.objs.size (x :: M) fp pins s2 H2) _ s9 _ H9 (.ref D) [y] (.ref D) [yv] (fun _ H' => N H') I9 rfl (.cons r9 .nil) ⟨D, ys, y, rfl, rfl, hD, hz, n9⟩) fun _ s10 ⟨_, H10, I10, _, n10⟩ => ?_
      obtain ⟨m', hm, w10⟩ := hN H10 n10
      refine ⟨m', hm, i + 1, _, H10, I10.unpinned, T.keep _ _ _ st7 fun b hb o e => (I10.pin (b, o) (List.mem_append_right _ (List.mem_append_right _ (mem_pinsAt hb e)))).1, fun b hb => ?_, w10⟩
      obtain ⟨o, e, d⟩ := T.obj _ _ st7 b hb
      exact (I10.pin (b, o) (List.mem_append_right _ (List.mem_append_right _ (mem_pinsAt hb e)))).2.1
  exact codeAny_compStart_list (loop _ rfl) (wpAny_mono (T.self X.A 0 _ _ _ st4 (loop _ rfl)) (fun _ _ z => z) fun _ _ z => z)
theorem pe_comp (S : CompScope X.env.scope x M scope) (hc : X.calm = true) (hjs : ∀ (k : Nat) (y : Str), M[k]? = some y → ∃ j : Nat, js[k]? = some j ∧ X.N[j]? = some y) (hlen : js.length = M.length) (hi : PI X (.Name x px) iter wi)
    (he : ∀ (C : Addr) (fp : List Addr) (pins : List (Addr × Obj)) (s : Shared) (H : Hp), PE (cxComp X scope C (x :: M) fp pins s H) elt te) (hs : ∀ v, foldedSetIterable iter X.env v = pure v := by intro _; rfl) :
    PE X (.ListComp elt [⟨.Name x px, iter, [], 0⟩] scope pos) (tComp wi te js) := by
  intro pins s σ H Q I h
  rw [eval_ListComp]
  refine wpAny_comprehension_free (use := none) rfl hs (clos_ok (S.cells I)) S.kind S.names (thn (hi pins s σ H _ I h) fun xv s1 h1 => thn h1 fun itv s2 h2 => ?_)
  obtain ⟨it, fp, tn, J, H1, rfl, I2, T, st2, f2, q⟩ := h2
  refine wpAny_newObj_type ?_ (by show 0 ≤ sizeLine; decide)
  have hD : H1 s2.heap.objs.size = none := I2.hok.fresh (Nat.le_refl _)
  obtain ⟨W, ⟨m0, w0⟩, turn⟩ := q _ hD
  have I3 : Inv X pins σ (upd H1 s2.heap.objs.size (.lst [])) { s2 with heap := s2.heap.push { cls := .type "list", data := .seq ([] : List Value).toArray } } := I2.lnew (t' := s2.toks) .nil (Nat.zero_le _)
  have fr3 : ∀ b ∈ fp, FpOk X pins (upd H1 s2.heap.objs.size (.lst [])) b := fun b hb => by
    obtain ⟨f0, f⟩ := f2 b hb
    obtain ⟨o, e, _⟩ := T.obj 0 _ st2 b hb
    exact ⟨by rw [upd_ne (Nat.ne_of_lt (Heap.lt_size e))]; exact f0, f⟩
  refine comp_block (Qe := fun H' => Q (.ref s2.heap.objs.size) H') (R := fun C => compPost (model X.prog X.w) X.A X.xe none (EP X pins σ Q) (.ref s2.heap.objs.size) C) S hc hjs hlen he I3 T (T.keep _ _ _ st2 fun b hb o e => Heap.get?_push_of_some _ e) fr3 w0 turn ?_
  intro C s' H' pins' σ' hC Jv qe
  obtain ⟨m, hn, _⟩ := Jv.loc
  exact ⟨m, hn, fun h' hs' => ⟨.ref _, H', comp_end I3 fr3 Jv hC hs', rfl, qe⟩⟩
theorem ps_comp {i : Nat} {y : Str} {py spos : Pos} (S : CompScope X.env.scope x M scope) (hc : X.calm = true) (hjs : ∀ (k : Nat) (y : Str), M[k]? = some y → ∃ j : Nat, js[k]? = some j ∧ X.N[j]? = some y) (hlen : js.length = M.length) (hi : PI X (.Name x px) iter wi)
    (he : ∀ (C : Addr) (fp : List Addr) (pins : List (Addr × Obj)) (s : Shared) (H : Hp), PE (cxComp X scope C (x :: M) fp pins s H) elt te)
    (hN : X.N.Nodup) (hy : X.N[i]? = some y) (hl : X.env.scope.names.lookup y = some .local)
    (hsw : swapsWith (.ListComp elt [⟨.Name x px, iter, [], 0⟩] scope pos) (some (.Name y py)) spos.line X.env = pure true := by rfl) (hs : ∀ v, foldedSetIterable iter X.env v = pure v := by intro _; rfl) :
    PS X (.Assign [.Name y py] (.ListComp elt [⟨.Name x px, iter, [], 0⟩] scope pos) spos) (tAsg (tComp wi te js) (gName i)) := by
  intro pins s σ H D0 I h
  rw [exec_Assign_Name_used _ _ _ _ hsw]
  refine wpAny_bind (wpAny_standAt (wpAny_bind ?_))
  show wpAny _ X.A (do let _ ← comprehension (.ListComp elt [⟨.Name x px, iter, [], 0⟩] scope pos) scope X.env _ (newList []) false (eval iter X.env) (some (assign (.Name y py) X.env))) _ _ s
  refine wpAny_bind (wpAny_mono (wpAny_comprehension_free (use := some (assign (.Name y py) X.env)) (Q := fun _ s' => SP X pins D0 .next s') rfl hs (clos_ok (S.cells I)) S.kind S.names
    (thn (hi pins s σ H _ I h) fun xv s1 h1 => thn h1 fun itv s2 h2 => ?_)) (fun _ s' hq => wpAny_pure (wpAny_pure hq)) fun _ _ e => e)
  obtain ⟨it, fp, tn, J, H1, rfl, I2, T, st2, f2, q⟩ := h2
  refine wpAny_newObj_type ?_ (by show 0 ≤ sizeLine; decide)
  have hD : H1 s2.heap.objs.size = none := I2.hok.fresh (Nat.le_refl _)
  obtain ⟨W, ⟨m0, w0⟩, turn⟩ := q _ hD
  have I3 : Inv X pins σ (upd H1 s2.heap.objs.size (.lst [])) { s2 with heap := s2.heap.push { cls := .type "list", data := .seq ([] : List Value).toArray } } := I2.lnew (t' := s2.toks) .nil (Nat.zero_le _)
  have fr3 : ∀ b ∈ fp, FpOk X pins (upd H1 s2.heap.objs.size (.lst [])) b := fun b hb => by
    obtain ⟨f0, f⟩ := f2 b hb
    obtain ⟨o, e, _⟩ := T.obj 0 _ st2 b hb
    exact ⟨by rw [upd_ne (Nat.ne_of_lt (Heap.lt_size e))]; exact f0, f⟩
  refine comp_block (Qe := fun H' => gName i (.ref s2.heap.objs.size) σ H' D0.nx) (R := fun C => compPost (model X.prog X.w) X.A X.xe (some (assign (.Name y py) X.env)) (fun _ s' => SP X pins D0 .next s') (.ref s2.heap.objs.size) C) S hc hjs hlen he I3 T
    (T.keep _ _ _ st2 fun b hb o e => Heap.get?_push_of_some _ e) fr3 w0 turn ?_
  intro C s' H' pins' σ' hC Jv qe
  have Ie : Inv X pins σ H' s' := comp_end I3 fr3 Jv hC (Heap.SameBut.refl ..)
  obtain ⟨m, hn, _⟩ := Jv.loc
  have fC := I3.fpOk (H' := H') hC Jv.free
  obtain ⟨c0, c1, c2, c3, c4, c5⟩ := fC
  show wpAny _ X.A (assign (.Name y py) X.env (.ref s2.heap.objs.size)) (fun _ s'' => ∃ m, s''.heap.Ns C m ∧ ∀ h', Heap.SameBut C s''.heap h' → SP X pins D0 .next { s'' with heap := h' }) X.xe s'
  refine wpAny_assign_Name (store_ok2 Ie hN hy (.inl hl) (show RelV (.ref s2.heap.objs.size) (.ref s2.heap.objs.size) from rfl) (fun s'' I'' ⟨a, hsb, ha⟩ => ?_) (.inr hl))
  have hCa : C ≠ a := by
    rcases ha with rfl | ha
    · exact c1
    · exact Ne.symm (c4 _ _ ha)
  exact ⟨m, hn.sameBut hsb hCa, fun h' hs' => ⟨_, H', I''.turned (t' := s''.toks) (fun b o hb e => (hs'.2 b hb).trans e) c0 c1 c3 c4 c5, qe⟩⟩
end
end EE
namespace EE
open PySem PySem.Spec PyProof.Rows L2
section
variable {X : Cx} {elt iter : Expr} {x : Str} {px pos : Pos} {scope osc : Scope} {M N : List Str} {js : List Nat} {wi : TI} {te : TE}
theorem js_of (hjs : M.map some = js.map fun j => N[j]?) : (∀ (k : Nat) (y : Str), M[k]? = some y → ∃ j : Nat, js[k]? = some j ∧ N[j]? = some y) ∧ js.length = M.length := by
  constructor
  · intro k y h
    have e : (M.map some)[k]? = some (some y) := by rw [List.getElem?_map, h]; rfl
    rw [hjs, List.getElem?_map] at e
    cases q : js[k]? with
    | none => rw [q] at e; cases e
    | some j =>
      rw [q] at e
      exact ⟨j, rfl, by simpa using e⟩
  · have := congrArg List.length hjs
    simpa using this.symm
theorem pe_compr (S : CompScope osc x M scope) (hjs : M.map some = js.map fun j => N[j]?) (hc : X.calm = true) (hi : PI X (.Name x px) iter wi)
    (he : ∀ (C : Addr) (fp : List Addr) (pins : List (Addr × Obj)) (s : Shared) (H : Hp), PE (cxComp X scope C (x :: M) fp pins s H) elt te)
    (hosc : X.env.scope = osc := by rfl) (hN : X.N = N := by rfl) (hs : ∀ v, foldedSetIterable iter X.env v = pure v := by intro _; rfl) :
    PE X (.ListComp elt [⟨.Name x px, iter, [], 0⟩] scope pos) (tComp wi te js) := by
  subst hosc hN
  exact pe_comp S hc (js_of hjs).1 (js_of hjs).2 hi he hs
theorem ps_compr {i : Nat} {y : Str} {py spos : Pos} (S : CompScope osc x M scope) (hjs : M.map some = js.map fun j => N[j]?) (hc : X.calm = true) (hi : PI X (.Name x px) iter wi)
    (he : ∀ (C : Addr) (fp : List Addr) (pins : List (Addr × Obj)) (s : Shared) (H : Hp), PE (cxComp X scope C (x :: M) fp pins s H) elt te)
    (hNd : X.N.Nodup) (hy : X.N[i]? = some y) (hl : X.env.scope.names.lookup y = some .local)
    (hosc : X.env.scope = osc := by rfl) (hN : X.N = N := by rfl)
    (hsw : swapsWith (.ListComp elt [⟨.Name x px, iter, [], 0⟩] scope pos) (some (.Name y py)) spos.line X.env = pure true := by rfl) (hs : ∀ v, foldedSetIterable iter X.env v = pure v := by intro _; rfl) :
    PS X (.Assign [.Name y py] (.ListComp elt [⟨.Name x px, iter, [], 0⟩] scope pos) spos) (tAsg (tComp wi te js) (gName i)) := by
  subst hosc hN
  exact ps_comp S hc (js_of hjs).1 (js_of hjs).2 hi he hNd hy hl hsw hs
end
def ScR (K : PySem.W.Frag) (H : Hp) (a : Addr) (xs : List V) : Prop := (∃ o, H a = some (.frz o (.lst xs))) ∨
    ∃ (o : Obj) (its : Array Value) (n : Nat), K.lookup a = some o ∧ o.cls = .type "list" ∧ o.dict = none ∧ o.data = .seq its n ∧ its.size ≤ sizeLine ∧ Vals xs its.toList
theorem ScR.sq {K : PySem.W.Frag} {H : Hp} {a : Addr} {xs : List V} (h : ScR K H a xs) : SqL K H a xs := by
  rcases h with ⟨o, h⟩ | h
  · exact .inl (.inr ⟨o, h⟩)
  · exact .inr h
theorem ScR.of {K : PySem.W.Frag} {H : Hp} {a : Addr} {xs : List V} (h : SqL K H a xs) (o : Only H) : ScR K H a xs := by
  rcases h with (h | h) | h
  · rcases o a with e | ⟨ob, ys, e⟩
    · rw [e] at h; cases h
    · rw [e] at h; cases h
  · exact .inl h
  · exact .inr h
end EE
namespace EE
open PySem PySem.Spec PyProof.Rows L2
theorem boot_rev : bootBuiltins "reversed" = some (.type "reversed") := by decide +kernel
end EE
namespace E3
open PySem PySem.Spec PyProof.Rows L2 EE
inductive D where
  | non | bl (b : Bool) | int (i : Int) | str (x : Str) | tup (xs : List D) | rol (xs : List D) | ref (a : Addr) | ty (n : String)
inductive O where
  | lst (xs : List D) | dic (kvs : List (Key × D)) | exc (C : Addr) | ins (C : Addr) (fs : List (Str × D))
noncomputable abbrev Hp3 := Addr → Option O
noncomputable abbrev St3 := List (Option D)
noncomputable abbrev K3 := D → Hp3 → Prop
noncomputable abbrev X3 := Addr → Addr → Hp3 → Prop
noncomputable abbrev W3T := St3 → X3
noncomputable def up (S : Hp3) (a : Addr) (o : O) : Hp3 := fun b => if b = a then some o else S b
noncomputable def emp : Hp3 := fun _ => none
theorem up_same {S : Hp3} {a : Addr} {o : O} : up S a o a = some o := if_pos rfl
theorem up_ne {S : Hp3} {a b : Addr} {o : O} (h : b ≠ a) : up S a o b = S b := if_neg h
theorem up_up {S : Hp3} {a : Addr} {o u : O} : up (up S a o) a u = up S a u := by
  funext b; unfold up; split <;> rfl
theorem ne3 {S : Hp3} {a b : Addr} {o : O} (h : S a = some o) (h' : S b = none) : a ≠ b := by
  intro e; subst e; rw [h] at h'; cases h'
theorem up_get {S : Hp3} {a b : Addr} {o u : O} (h : S b = some u) (h' : S a = none) : up S a o b = some u := by rw [up_ne (ne3 h h')]; exact h
structure Zt where
  p : Addr → Prop
  base : Hp
instance : CoeFun Zt (fun _ => Addr → Prop) := ⟨Zt.p⟩
def ExcOf (a C : Addr) : Heap → Prop := fun h => ∃ o, h.get? a = some o ∧ o.cls = .ref C ∧ ∃ xs n, o.data = .fields xs ∧ n = xs.size
mutual
inductive Rp (K : PySem.W.Frag) (H : Hp) : D → V → Prop where
  | non : Rp K H .non .non
  | bl (b : Bool) : Rp K H (.bl b) (.bl b)
  | int (i : Int) : Rp K H (.int i) (.int i)
  | str (x : Str) : Rp K H (.str x) (.str x)
  | ref (a : Addr) : Rp K H (.ref a) (.ref a)
  | ty (n : String) : Rp K H (.ty n) (.ty n)
  | tup {a : Addr} {xs : List V} {ds : List D} : SqT K H a xs → Rps K H ds xs → Rp K H (.tup ds) (.ref a)
  | rol {a : Addr} {xs : List V} {ds : List D} : ScR K H a xs → Rps K H ds xs → Rp K H (.rol ds) (.ref a)
inductive Rps (K : PySem.W.Frag) (H : Hp) : List D → List V → Prop where
  | nil : Rps K H [] []
  | cons {d : D} {v : V} {ds : List D} {vs : List V} : Rp K H d v → Rps K H ds vs → Rps K H (d :: ds) (v :: vs)
end
structure Kp (Z : Zt) (H H' : Hp) : Prop where
  tup : ∀ b xs, H b = some (.tup xs) → H' b = some (.tup xs)
  frz : ∀ b o u, H b = some (.frz o u) → H' b = some (.frz o u)
  hid : ∀ b, Z b → H' b = H b
theorem Kp.refl (Z : Zt) (H : Hp) : Kp Z H H := ⟨fun _ _ h => h, fun _ _ _ h => h, fun _ _ => rfl⟩
theorem Kp.trans {Z : Zt} {H H1 H2 : Hp} (a : Kp Z H H1) (b : Kp Z H1 H2) : Kp Z H H2 :=
  ⟨fun c xs h => b.tup _ _ (a.tup _ _ h), fun c o u h => b.frz _ _ _ (a.frz _ _ _ h), fun c z => (b.hid c z).trans (a.hid c z)⟩
theorem Kp.sqT {K : PySem.W.Frag} {Z : Zt} {H H' : Hp} {a : Addr} {xs : List V} (k : Kp Z H H') (h : SqT K H a xs) : SqT K H' a xs := by
  rcases h with (h | ⟨o, h⟩) | h
  · exact .inl (.inl (k.tup _ _ h))
  · exact .inl (.inr ⟨o, k.frz _ _ _ h⟩)
  · exact .inr h
theorem Kp.scR {K : PySem.W.Frag} {Z : Zt} {H H' : Hp} {a : Addr} {xs : List V} (k : Kp Z H H') (h : ScR K H a xs) : ScR K H' a xs := by
  rcases h with ⟨o, h⟩ | h
  · exact .inl ⟨o, k.frz _ _ _ h⟩
  · exact .inr h
mutual
theorem Rp.mono {K : PySem.W.Frag} {Z : Zt} {H H' : Hp} (k : Kp Z H H') : ∀ {d : D} {v : V}, Rp K H d v → Rp K H' d v
  | _, _, .non => .non
  | _, _, .bl b => .bl b
  | _, _, .int i => .int i
  | _, _, .str x => .str x
  | _, _, .ref a => .ref a
  | _, _, .ty n => .ty n
  | _, _, .tup h r => .tup (k.sqT h) (Rps.mono k r)
  | _, _, .rol h r => .rol (k.scR h) (Rps.mono k r)
theorem Rps.mono {K : PySem.W.Frag} {Z : Zt} {H H' : Hp} (k : Kp Z H H') : ∀ {ds : List D} {vs : List V}, Rps K H ds vs → Rps K H' ds vs
  | _, _, .nil => .nil
  | _, _, .cons h r => .cons (Rp.mono k h) (Rps.mono k r)
end
section
variable {K : PySem.W.Frag} {H : Hp}
theorem Rps.len : ∀ {ds : List D} {vs : List V}, Rps K H ds vs → ds.length = vs.length
  | _, _, .nil => rfl
  | _, _, .cons _ r => by simp [Rps.len r]
theorem Rps.at : ∀ {ds : List D} {vs : List V} {i : Nat} {d : D}, Rps K H ds vs → ds[i]? = some d → ∃ v, vs[i]? = some v ∧ Rp K H d v
  | _, _, _, _, .nil, e => by simp at e
  | _, _, 0, _, .cons r _, e => by simp at e; subst e; exact ⟨_, rfl, r⟩
  | _, _, i + 1, d, .cons _ q, e => by
    obtain ⟨v, h1, h2⟩ := Rps.at (i := i) (d := d) q (by simpa using e)
    exact ⟨v, by simpa using h1, h2⟩
theorem Rps.append : ∀ {ds es : List D} {vs ws : List V}, Rps K H ds vs → Rps K H es ws → Rps K H (ds ++ es) (vs ++ ws)
  | _, _, _, _, .nil, s => s
  | _, _, _, _, .cons r t, s => .cons r (Rps.append t s)
theorem Rps.take : ∀ {ds : List D} {vs : List V} (n : Nat), Rps K H ds vs → Rps K H (ds.take n) (vs.take n)
  | _, _, 0, _ => .nil
  | _, _, _ + 1, .nil => .nil
  | _, _, n + 1, .cons r t => .cons r (Rps.take n t)
theorem Rps.drop : ∀ {ds : List D} {vs : List V} (n : Nat), Rps K H ds vs → Rps K H (ds.drop n) (vs.drop n)
  | _, _, 0, r => r
  | _, _, _ + 1, .nil => .nil
  | _, _, n + 1, .cons _ t => Rps.drop n t
theorem Rps.set {d : D} {v : V} (r : Rp K H d v) : ∀ {ds : List D} {vs : List V} (i : Nat), Rps K H ds vs → Rps K H (ds.set i d) (vs.set i v)
  | _, _, _, .nil => .nil
  | _, _, 0, .cons _ t => .cons r t
  | _, _, i + 1, .cons q t => .cons q (Rps.set r i t)
theorem Rps.snoc_inv : ∀ {ds : List D} {d : D} {vs : List V}, Rps K H (ds ++ [d]) vs → ∃ ws w, vs = ws ++ [w] ∧ Rps K H ds ws ∧ Rp K H d w
  | [], d, _, .cons r .nil => ⟨[], _, rfl, .nil, r⟩
  | _ :: ds, d, _, .cons r q => by
    obtain ⟨ws, w, rfl, a, b⟩ := Rps.snoc_inv (ds := ds) q
    exact ⟨_ :: ws, w, rfl, .cons r a, b⟩
theorem Rps.ints : ∀ (ns : List Int), Rps K H (ns.map D.int) (ns.map V.int)
  | [] => .nil
  | n :: ns => .cons (.int n) (Rps.ints ns)
theorem Rps.strs : ∀ {xs : List Str} {vs : List V}, Rps K H (xs.map D.str) vs → vs = xs.map V.str
  | [], _, .nil => rfl
  | _ :: xs, _, .cons (.str _) q => by rw [Rps.strs q]; rfl
end
def OR (K : PySem.W.Frag) (H : Hp) (a : Addr) : O → Prop
  | .lst ds => ∃ vs, H a = some (.lst vs) ∧ Rps K H ds vs
  | .dic kvs => ∃ ws, H a = some (.dK ws) ∧ Paired (fun (p : Key × D) (q : Key × V) => p.1 = q.1 ∧ Rp K H p.2 q.2) kvs ws
  | .exc C => H a = some (.ext (ExcOf a C))
  | .ins C fs => ∃ dx ws, H a = some (.ins C dx ws) ∧ Paired (fun (p : Str × D) (q : Str × V) => p.1 = q.1 ∧ Rp K H p.2 q.2) fs ws
structure Rl (K : PySem.W.Frag) (Z : Zt) (S : Hp3) (H : Hp) : Prop where
  obj : ∀ a o, S a = some o → OR K H a o
  hid : ∀ a, Z a → S a = none ∧ H a ≠ none
  old : Kp Z Z.base H
theorem OR.there {K : PySem.W.Frag} {H : Hp} {a : Addr} {o : O} (h : OR K H a o) : H a ≠ none := by
  cases o with
  | lst ds => obtain ⟨vs, e, _⟩ := h; rw [e]; simp
  | dic ds => obtain ⟨vs, e, _⟩ := h; rw [e]; simp
  | exc C => have e : H a = _ := h; rw [e]; simp
  | ins C fs => obtain ⟨dx, vs, e, _⟩ := h; rw [e]; simp
theorem OR.nofrz {K : PySem.W.Frag} {H : Hp} {a : Addr} {o : O} (h : OR K H a o) : (∀ xs, H a ≠ some (.tup xs)) ∧ ∀ q u, H a ≠ some (.frz q u) := by
  cases o with
  | lst ds => obtain ⟨vs, e, _⟩ := h; rw [e]; exact ⟨fun _ z => (nomatch z), fun _ _ z => (nomatch z)⟩
  | dic ds => obtain ⟨vs, e, _⟩ := h; rw [e]; exact ⟨fun _ z => (nomatch z), fun _ _ z => (nomatch z)⟩
  | exc C => have e : H a = _ := h; rw [e]; exact ⟨fun _ z => (nomatch z), fun _ _ z => (nomatch z)⟩
  | ins C fs => obtain ⟨dx, vs, e, _⟩ := h; rw [e]; exact ⟨fun _ z => (nomatch z), fun _ _ z => (nomatch z)⟩
theorem Rl.fresh {K : PySem.W.Frag} {Z : Zt} {S : Hp3} {H : Hp} {p : Addr} (r : Rl K Z S H) (h : H p = none) : S p = none ∧ ¬ Z p := by
  constructor
  · cases e : S p with
    | none => rfl
    | some o => exact absurd h (r.obj p o e).there
  · exact fun z => (r.hid p z).2 h
theorem Kp.new {Z : Zt} {H : Hp} {p : Addr} {o : HO} (h : H p = none) (hz : ¬ Z p) : Kp Z H (upd H p o) :=
  ⟨fun b xs e => by rw [upd_ne (ne_of_none e h)]; exact e, fun b q u e => by rw [upd_ne (ne_of_none e h)]; exact e, fun b z => upd_ne fun e => hz (e ▸ z)⟩
theorem Kp.at {K : PySem.W.Frag} {Z : Zt} {S : Hp3} {H : Hp} {p : Addr} {o : O} {q : HO} (r : Rl K Z S H) (h : S p = some o) : Kp Z H (upd H p q) := by
  have n := (r.obj p o h).nofrz
  refine ⟨fun b xs e => ?_, fun b q u e => ?_, fun b z => ?_⟩
  · rw [upd_ne]; exact e
    rintro rfl; exact n.1 _ e
  · rw [upd_ne]; exact e
    rintro rfl; exact n.2 _ _ e
  · rw [upd_ne]
    rintro rfl
    rw [(r.hid _ z).1] at h
    cases h
theorem OR.keep {K : PySem.W.Frag} {Z : Zt} {H H' : Hp} {a : Addr} {o : O} (h : OR K H a o) (k : Kp Z H H') (e : H' a = H a) : OR K H' a o := by
  cases o with
  | lst ds => obtain ⟨vs, h1, h2⟩ := h; exact ⟨vs, e.trans h1, h2.mono k⟩
  | dic ds => obtain ⟨vs, h1, h2⟩ := h; exact ⟨vs, e.trans h1, Paired.mapP h2 fun p q z => ⟨z.1, z.2.mono k⟩⟩
  | exc C => exact e.trans h
  | ins C fs => obtain ⟨dx, vs, h1, h2⟩ := h; exact ⟨dx, vs, e.trans h1, Paired.mapP h2 fun p q z => ⟨z.1, z.2.mono k⟩⟩
theorem Rl.put {K : PySem.W.Frag} {Z : Zt} {S : Hp3} {H : Hp} {p : Addr} {o : O} {q : HO} (r : Rl K Z S H) (k : Kp Z H (upd H p q)) (hz : ¬ Z p) (h : OR K (upd H p q) p o) : Rl K Z (up S p o) (upd H p q) := by
  refine ⟨fun b u e => ?_, fun b z => ?_, r.old.trans k⟩
  · by_cases hb : b = p
    · subst hb
      rw [up_same] at e
      cases e
      exact h
    · rw [up_ne hb] at e
      exact (r.obj b u e).keep k (upd_ne hb)
  · have hb : b ≠ p := fun e => hz (e ▸ z)
    rw [up_ne hb, upd_ne hb]
    exact r.hid b z
theorem Rl.notZ {K : PySem.W.Frag} {Z : Zt} {S : Hp3} {H : Hp} {p : Addr} {o : O} (r : Rl K Z S H) (h : S p = some o) : ¬ Z p := fun z => by
  rw [(r.hid _ z).1] at h
  cases h
theorem Rl.lay {K : PySem.W.Frag} {Z : Zt} {S : Hp3} {H : Hp} {p : Addr} {q : HO} (r : Rl K Z S H) (h : H p = none) : Rl K Z S (upd H p q) := by
  obtain ⟨hs, hz⟩ := r.fresh h
  refine ⟨fun b u e => (r.obj b u e).keep (Kp.new h hz) (upd_ne (ne3 e hs)), fun b z => ?_, r.old.trans (Kp.new h hz)⟩
  have hb : b ≠ p := fun e => hz (e ▸ z)
  rw [upd_ne hb]
  exact r.hid b z
def RO (K : PySem.W.Frag) (H : Hp) (o : Option D) (p : Option V) : Prop := ∀ d, o = some d → ∃ v, p = some v ∧ Rp K H d v
abbrev SR (K : PySem.W.Frag) (H : Hp) : St3 → L2.St → Prop := Paired (RO K H)
theorem RO.mono {K : PySem.W.Frag} {Z : Zt} {H H' : Hp} (k : Kp Z H H') {o : Option D} {p : Option V} (h : RO K H o p) : RO K H' o p := fun d e => by
  obtain ⟨v, h1, h2⟩ := h d e
  exact ⟨v, h1, h2.mono k⟩
theorem SR.mono {K : PySem.W.Frag} {Z : Zt} {H H' : Hp} (k : Kp Z H H') {σ : St3} {τ : L2.St} (h : SR K H σ τ) : SR K H' σ τ := Paired.mapP h fun _ _ q => q.mono k
theorem SR.at {K : PySem.W.Frag} {H : Hp} : ∀ {σ : St3} {τ : L2.St} {i : Nat} {d : D}, SR K H σ τ → σ[i]? = some (some d) → ∃ v, τ[i]? = some (some v) ∧ Rp K H d v
  | _, _, _, _, .nil, e => by simp at e
  | _, _, 0, _, .cons r _, e => by
    simp at e
    obtain ⟨v, h1, h2⟩ := r _ e
    exact ⟨v, by simp [h1], h2⟩
  | _, _, i + 1, d, .cons _ q, e => by
    obtain ⟨v, h1, h2⟩ := SR.at (i := i) (d := d) q (by simpa using e)
    exact ⟨v, by simpa using h1, h2⟩
theorem SR.set {K : PySem.W.Frag} {H : Hp} {d : D} {v : V} (r : Rp K H d v) : ∀ {σ : St3} {τ : L2.St} (i : Nat), SR K H σ τ → SR K H (σ.set i (some d)) (τ.set i (some v))
  | _, _, _, .nil => .nil
  | _, _, 0, .cons _ t => .cons (fun e he => by cases he; exact ⟨v, rfl, r⟩) t
  | _, _, i + 1, .cons q t => .cons q (SR.set r i t)
theorem SR.ofRps {K : PySem.W.Frag} {H : Hp} : ∀ {ds : List D} {vs : List V}, Rps K H ds vs → SR K H (ds.map some) (vs.map some)
  | _, _, .nil => .nil
  | _, _, .cons r t => .cons (fun e he => by cases he; exact ⟨_, rfl, r⟩) (SR.ofRps t)
theorem SR.nones {K : PySem.W.Frag} {H : Hp} : ∀ n : Nat, SR K H (List.replicate n none) (List.replicate n none)
  | 0 => .nil
  | n + 1 => .cons (fun d e => by cases e) (SR.nones n)
theorem paired_append {α β : Type} {F : α → β → Prop} : ∀ {a b : List α} {c d : List β}, Paired F a c → Paired F b d → Paired F (a ++ b) (c ++ d)
  | _, _, _, _, .nil, s => s
  | _, _, _, _, .cons r t, s => .cons r (paired_append t s)
noncomputable abbrev TE3 := St3 → Hp3 → K3 → Prop
noncomputable abbrev TT3 := St3 → Hp3 → (Bool → Hp3 → Prop) → Prop
noncomputable abbrev TA3 := St3 → Hp3 → (List D → Hp3 → Prop) → Prop
structure Ends3 where
  nx : St3 → Hp3 → Prop
  rt : K3
  bk : St3 → Hp3 → Prop := fun _ _ => False
  ct : St3 → Hp3 → Prop := fun _ _ => False
noncomputable abbrev TS3 := Ends3 → St3 → Hp3 → Prop
section
variable (K : PySem.W.Frag) (Z : Zt)
def CK (H : Hp) (Q3 : K3) (Q : VK) : Prop := ∀ d S v H', Kp Z H H' → Rp K H' d v → Rl K Z S H' → Q3 d S → Q v H'
def CT (H : Hp) (Q3 : Bool → Hp3 → Prop) (Q : Bool → Hp → Prop) : Prop := ∀ b S H', Kp Z H H' → Rl K Z S H' → Q3 b S → Q b H'
def CA (H : Hp) (Q3 : List D → Hp3 → Prop) (Q : List V → Hp → Prop) : Prop := ∀ ds S vs H', Kp Z H H' → Rps K H' ds vs → Rl K Z S H' → Q3 ds S → Q vs H'
def CS (H : Hp) (Q3 : St3 → Hp3 → Prop) (Q : L2.St → Hp → Prop) : Prop := ∀ σ S τ H', Kp Z H H' → SR K H' σ τ → Rl K Z S H' → Q3 σ S → Q τ H'
structure CD (H : Hp) (D3 : Ends3) (D : Ends) : Prop where
  nx : CS K Z H D3.nx D.nx
  bk : CS K Z H D3.bk D.bk
  ct : CS K Z H D3.ct D.ct
  rt : CK K Z H D3.rt D.rt
inductive lE (t : TE3) (τ : L2.St) (H : Hp) (Q : VK) : Prop where
  | mk (σ : St3) (S : Hp3) (Q3 : K3) (hs : SR K H σ τ) (hr : Rl K Z S H) (ht : t σ S Q3) (hc : CK K Z H Q3 Q)
inductive lT (t : TT3) (τ : L2.St) (H : Hp) (Q : Bool → Hp → Prop) : Prop where
  | mk (σ : St3) (S : Hp3) (Q3 : Bool → Hp3 → Prop) (hs : SR K H σ τ) (hr : Rl K Z S H) (ht : t σ S Q3) (hc : CT K Z H Q3 Q)
inductive lA (t : TA3) (τ : L2.St) (H : Hp) (Q : List V → Hp → Prop) : Prop where
  | mk (σ : St3) (S : Hp3) (Q3 : List D → Hp3 → Prop) (hs : SR K H σ τ) (hr : Rl K Z S H) (ht : t σ S Q3) (hc : CA K Z H Q3 Q)
inductive lS (t : TS3) (D : Ends) (τ : L2.St) (H : Hp) : Prop where
  | mk (D3 : Ends3) (σ : St3) (S : Hp3) (hs : SR K H σ τ) (hr : Rl K Z S H) (ht : t D3 σ S) (hc : CD K Z H D3 D)
end
variable {K : PySem.W.Frag} {Z : Zt}
theorem CK.mono {H H' : Hp} {Q3 : K3} {Q : VK} (k : Kp Z H H') (h : CK K Z H Q3 Q) : CK K Z H' Q3 Q := fun d S v H2 k2 => h d S v H2 (k.trans k2)
theorem CT.mono {H H' : Hp} {Q3 : Bool → Hp3 → Prop} {Q : Bool → Hp → Prop} (k : Kp Z H H') (h : CT K Z H Q3 Q) : CT K Z H' Q3 Q := fun d S H2 k2 => h d S H2 (k.trans k2)
theorem CS.mono {H H' : Hp} {Q3 : St3 → Hp3 → Prop} {Q : L2.St → Hp → Prop} (k : Kp Z H H') (h : CS K Z H Q3 Q) : CS K Z H' Q3 Q := fun d S v H2 k2 => h d S v H2 (k.trans k2)
theorem CD.mono {H H' : Hp} {D3 : Ends3} {D : Ends} (k : Kp Z H H') (h : CD K Z H D3 D) : CD K Z H' D3 D := ⟨h.nx.mono k, h.bk.mono k, h.ct.mono k, h.rt.mono k⟩
structure FlyT (h : Heap) (a C T : Addr) : Prop where
  ne : T ≠ a
  exc : ∃ oe vs a0, h.get? a = some oe ∧ oe.cls = .ref C ∧ oe.data = .fields vs ∧ vs[0]? = some a0 ∧ vs[1]? = some (.ref T)
  tb : ∃ oT ts, h.get? T = some oT ∧ oT.data = .fields ts ∧ ts[3]? = some .none
noncomputable def CX1 (P : Program) (w : World) : CXT := fun outer H s E e s' => ∃ (a C T : Addr) (H' : Hp), e = .ref a ∧ s'.os = s.os ∧ AllBare s'.gens ∧ Un (frs outer) [] H H' s.heap s'.heap ∧ HOk P w H' s'.heap ∧
  FlyT s'.heap a C T ∧ H' a = none ∧ H' T = none ∧ s.heap.get? a = none ∧ s.heap.get? T = none ∧ E (.ref C) (some a) H'
def PassesAt (CX : CXT) (X : Cx) (E : XK) (τ : L2.St) : Prop := ∀ (pins : List (Addr × Obj)) (H : Hp) (s : Shared) (e : Value) (s' : Shared), Inv X pins τ H s → CX X.stack H s E e s' → X.xe e s'
def RaisesAt (X : Cx) (E : XK) (τ : L2.St) : Prop := ∀ (pins : List (Addr × Obj)) (H : Hp) (s s3 : Shared) (e C : Addr) (args : List Value), Inv X pins τ H s → Heap.MadeExcOf s.heap s3.heap e (.ref C) args → s3.os = s.os → s3.gens = s.gens → E (.ref C) (some e) H → X.xe (.ref e) s3
theorem pass1 {P : Program} {w : World} {X : Cx} {τ : L2.St} : PassesAt (CX1 P w) X E0 τ := fun _ _ _ _ _ _ h => by
  obtain ⟨a, C, T, H', _, _, _, _, _, _, _, _, _, _, z⟩ := h
  exact z.elim
abbrev NoX : W3T := fun _ _ _ _ => False
def CE3 (K : PySem.W.Frag) (Z : Zt) (H : Hp) (W3 : X3) (E : XK) : Prop := ∀ C a S H', Kp Z H H' → Rl K Z S H' → H' a = none → W3 C a S → E (.ref C) (some a) H'
structure ZX (X : Cx) (W3 : W3T) where
  z : Zt
  E : L2.St → XK
  pass : ∀ τ, PassesAt (CX1 X.prog X.w) X (E τ) τ
  rz : ∀ τ, RaisesAt X (E τ) τ
  ce : ∀ σ τ C a S H, SR X.K H σ τ → Rl X.K z S H → H a = none → W3 σ C a S → E τ (.ref C) (some a) H
noncomputable def ZX.no (X : Cx) (z : Zt) : ZX X NoX := ⟨z, fun _ => E0, fun _ => pass1, fun _ _ _ _ _ _ _ _ _ _ _ _ z => z.elim, fun _ _ _ _ _ _ _ _ _ z => z.elim⟩
def PE3 (X : Cx) (W3 : W3T) (e : Expr) (t : TE3) : Prop := ∀ Z : ZX X W3, PE X e (lE X.K Z.z t)
def PT3 (X : Cx) (W3 : W3T) (e : Expr) (t : TT3) : Prop := ∀ Z : ZX X W3, PT X e (lT X.K Z.z t)
def PW3 (X : Cx) (W3 : W3T) (e : Expr) (t : TT3) : Prop := ∀ Z : ZX X W3, PW X e (lT X.K Z.z t)
def PA3 (X : Cx) (W3 : W3T) (es : List Expr) (t : TA3) : Prop := ∀ Z : ZX X W3, PA X es (lA X.K Z.z t)
def PS3 (X : Cx) (W3 : W3T) (st : Stmt) (t : TS3) : Prop := ∀ Z : ZX X W3, PS X st (lS X.K Z.z t)
def PSs3 (X : Cx) (W3 : W3T) (st : List Stmt) (t : TS3) : Prop := ∀ Z : ZX X W3, PSs X st (lS X.K Z.z t)
theorem PE.imp {X : Cx} {e : Expr} {t u : TE} (h : PE X e t) (f : ∀ σ H Q, u σ H Q → t σ H Q) : PE X e u := fun pins s σ H Q I q => h pins s σ H Q I (f _ _ _ q)
theorem PT.imp {X : Cx} {e : Expr} {t u : TT} (h : PT X e t) (f : ∀ σ H Q, u σ H Q → t σ H Q) : PT X e u := fun pins s σ H Q I q => h pins s σ H Q I (f _ _ _ q)
theorem PW.imp {X : Cx} {e : Expr} {t u : TT} (h : PW X e t) (f : ∀ σ H Q, u σ H Q → t σ H Q) : PW X e u := fun w pins s σ H Q I q => h w pins s σ H Q I (f _ _ _ q)
theorem PA.imp {X : Cx} {e : List Expr} {t u : TA} (h : PA X e t) (f : ∀ σ H Q, u σ H Q → t σ H Q) : PA X e u := fun p pins s σ H Q I q => h p pins s σ H Q I (f _ _ _ q)
theorem PS.imp {X : Cx} {st : Stmt} {t u : TS} (h : PS X st t) (f : ∀ D σ H, u D σ H → t D σ H) : PS X st u := fun pins s σ H D I q => h pins s σ H D I (f _ _ _ q)
theorem PSs.imp {X : Cx} {st : List Stmt} {t u : TS} (h : PSs X st t) (f : ∀ D σ H, u D σ H → t D σ H) : PSs X st u := fun pins s σ H D I q => h pins s σ H D I (f _ _ _ q)
end E3
namespace E3
open PySem PySem.Spec PyProof.Rows L2 EE
section
variable {X : Cx} {W3 : W3T} {a b c e : Expr} {es : List Expr} {pos : Pos}
def v3 (i : Nat) : TE3 := fun σ S Q => ∃ d, σ[i]? = some (some d) ∧ Q d S
def c3 (d : D) : TE3 := fun _ S Q => Q d S
theorem e_var {i : Nat} (h : PE X e (tVar i)) : PE3 X W3 e (v3 i) := fun Z => PE.imp h fun τ H Q z_1 => by
  obtain ⟨σ, S, Q3, hs, hr, ⟨d, e, q⟩, c⟩ := z_1
  obtain ⟨v, h1, h2⟩ := hs.at e
  exact ⟨v, h1, c d S v H (Kp.refl _ _) h2 hr q⟩
theorem e_v (i : Nat) {x : Str} {pos : Pos} (hN : X.N[i]? = some x := by rfl) (hv : Vis X.env.scope x := by first | exact Or.inl rfl | exact Or.inr (Or.inl rfl) | exact Or.inr (Or.inr rfl)) (hd : (x == ("__debug__" : Str)) = false := by decide)
    (hcd : (x == ("__classdict__" : Str)) = false := by decide) : PE3 X W3 (.Name x pos) (v3 i) := e_var (pe_var hN hv hd hcd)
theorem e_con {v : V} {d : D} (h : PE X e (tC v)) (r : ∀ H, Rp X.K H d v) : PE3 X W3 e (c3 d) := fun Z => PE.imp h fun τ H Q z_2 => by obtain ⟨σ, S, Q3, hs, hr, q, c⟩ := z_2; exact c d S v H (Kp.refl _ _) (r H) hr q
theorem e_int {i j} : PE3 X W3 (.Constant (.int i) j pos) (c3 (.int i)) := e_con pe_int fun _ => .int _
theorem e_bl {b j} : PE3 X W3 (.Constant (.bool b) j pos) (c3 (.bl b)) := e_con pe_bl fun _ => .bl _
theorem e_str {x j} : PE3 X W3 (.Constant (.str x) j pos) (c3 (.str x)) := e_con pe_str fun _ => .str _
theorem e_bltn {x : Str} {n : String} (hg : Gl X x) (hm : X.mg x = none) (hv : bootBuiltins x = some (.type n)) (hn : x ≠ "__name__" := by decide) (hd : (x == ("__debug__" : Str)) = false := by decide) : PE3 X W3 (.Name x pos) (c3 (.ty n)) :=
  e_con (pe_bltn (v := .ty n) hg hm hv rfl hn hd) fun _ => .ty _
theorem e_globI {x : Str} {i : Int} (h : ∃ t, X.mg x = some (.int i t)) (hg : Gl X x) (hd : (x == ("__debug__" : Str)) = false := by decide) : PE3 X W3 (.Name x pos) (c3 (.int i)) :=
  e_con (pe_globI h hg hd) fun _ => .int _
noncomputable abbrev R3 := D → D → Hp3 → K3 → Prop
def Dn2 (K : PySem.W.Frag) (r3 : R3) (r : R2) : Prop := ∀ (Z : Zt) x y S Q3 v w H Q, Rp K H x v → Rp K H y w → Rl K Z S H → r3 x y S Q3 → CK K Z H Q3 Q → r v w H Q
def o3 (r : R3) (ta tb : TE3) : TE3 := fun σ S Q => ta σ S fun x S1 => tb σ S1 fun y S2 => r x y S2 Q
def test3 (t : TE3) : TT3 := fun σ S Q => t σ S fun x S' => ∃ k, x = .bl k ∧ Q k S'
variable {ta tb tc : TE3} {tA tB : TT3} {t : TA3}
theorem op_down {K : PySem.W.Frag} {Z : Zt} {r3 : R3} {r : R2} (hd : Dn2 K r3 r) {τ : L2.St} {H : Hp} {Q : VK} (h : lE K Z (o3 r3 ta tb) τ H Q) : tOp r (lE K Z ta) (lE K Z tb) τ H Q := by
  obtain ⟨σ, S, Q3, hs, hr, ht, hc⟩ := h
  refine ⟨σ, S, _, hs, hr, ht, fun x S1 v H1 k1 r1 l1 q1 => ?_⟩
  refine ⟨σ, S1, _, hs.mono k1, l1, q1, fun y S2 w H2 k2 r2 l2 q2 => ?_⟩
  exact hd Z x y S2 Q3 v w H2 Q (r1.mono k2) r2 l2 q2 (hc.mono (k1.trans k2))
theorem e_op {op : Operator} {r3 : R3} {r : R2} (ho : OpR X (binaryOp op) r) (hd : Dn2 X.K r3 r) (ha : PE3 X W3 a ta) (hb : PE3 X W3 b tb) : PE3 X W3 (.BinOp a op b pos) (o3 r3 ta tb) :=
  fun Z => PE.imp (pe_op ho (ha Z) (hb Z)) fun _ _ _ h => op_down hd h
theorem e_cmp {op : CmpOp} {r3 : R3} {r : R2} (ho : OpR X (compareOp op) r) (hd : Dn2 X.K r3 r) (ha : PE3 X W3 a ta) (hb : PE3 X W3 b tb) (hm : behindInMarks op b = false) : PE3 X W3 (.Compare a [op] [b] pos) (o3 r3 ta tb) :=
  fun Z => PE.imp (pe_cmpR ho (ha Z) (hb Z) hm) fun _ _ _ h => op_down hd h
theorem test_down {K : PySem.W.Frag} {Z : Zt} {t3 : TE3} {t2 : TE} (hd : ∀ τ H Q, lE K Z t3 τ H Q → t2 τ H Q) {τ : L2.St} {H : Hp} {Q : Bool → Hp → Prop} (h : lT K Z (test3 t3) τ H Q) : tTest t2 τ H Q := by
  obtain ⟨σ, S, Q3, hs, hr, ht, hc⟩ := h
  refine hd τ H _ ⟨σ, S, _, hs, hr, ht, fun x S1 v H1 k1 r1 l1 q1 => ?_⟩
  obtain ⟨k, rfl, q⟩ := q1
  cases r1
  exact ⟨k, rfl, hc k S1 H1 k1 l1 q⟩
theorem t_cmp {op : CmpOp} {r3 : R3} {r : R2} (ho : OpR X (compareOp op) r) (hd : Dn2 X.K r3 r) (ha : PE3 X W3 a ta) (hb : PE3 X W3 b tb) (hm : behindInMarks op b = false) : PT3 X W3 (.Compare a [op] [b] pos) (test3 (o3 r3 ta tb)) :=
  fun Z => PT.imp (pt_cmpR ho (ha Z) (hb Z) hm) fun _ _ _ h => test_down (fun _ _ _ h => op_down hd h) h
theorem e_ix {r3 : R3} {r : R2} (ho : IxR X r) (hd : Dn2 X.K r3 r) (ha : PE3 X W3 a ta) (hb : PE3 X W3 b tb) (hs : PlainIx b) : PE3 X W3 (.Subscript a b pos) (o3 r3 ta tb) :=
  fun Z => PE.imp (pe_ix ho (ha Z) (hb Z) hs) fun _ _ _ h => op_down hd h
theorem t_val (h : PE3 X W3 e ta) (he : ∀ whole, isTrue e X.env whole = (do let v ← whole; standAt e.pos; holding [v] (truthy v)) := by intro _; rfl) : PT3 X W3 e (test3 ta) :=
  fun Z => PT.imp (pt_val (h Z) he) fun _ _ _ q => test_down (t2 := lE X.K Z.z ta) (fun _ _ _ z => z) q
def u3 (r : D → Hp3 → K3 → Prop) (ta : TE3) : TE3 := fun σ S Q => ta σ S fun x S1 => r x S1 Q
theorem e_neg (ha : PE3 X W3 a ta) : PE3 X W3 (.UnaryOp .USub a pos) (u3 (fun x S Q => ∃ i, x = .int i ∧ Q (.int (-i)) S) ta) := fun Z => PE.imp (pe_un un_neg (ha Z)) fun τ H Q z_3 => by
  obtain ⟨σ, S, Q3, hs, hr, ht, hc⟩ := z_3
  refine ⟨σ, S, _, hs, hr, ht, fun x S1 v H1 k1 r1 l1 q1 => ?_⟩
  obtain ⟨i, rfl, q⟩ := q1
  cases r1
  exact ⟨i, rfl, hc _ S1 _ H1 k1 (.int _) l1 q⟩
def and3 (t u : TT3) : TT3 := fun σ S Q => t σ S fun c S1 => if c = true then u σ S1 Q else Q false S1
def or3 (t u : TT3) : TT3 := fun σ S Q => t σ S fun c S1 => if c = true then Q true S1 else u σ S1 Q
def not3 (t : TT3) : TT3 := fun σ S Q => t σ S fun c S1 => Q (!c) S1
def andv3 (ta tb : TE3) : TE3 := fun σ S Q => ta σ S fun x S1 => ∃ c, x = .bl c ∧ if c = true then tb σ S1 Q else Q (.bl false) S1
variable {rest : List Expr}
theorem w_and1 (ha : PT3 X W3 a tA) : PW3 X W3 (.BoolOp .And [a] pos) tA := fun Z => pw_and1 (ha Z)
theorem w_or1 (ha : PT3 X W3 a tA) : PW3 X W3 (.BoolOp .Or [a] pos) tA := fun Z => pw_or1 (ha Z)
theorem w_and (ha : PT3 X W3 a tA) (hb : PW3 X W3 (.BoolOp .And (b :: rest) pos) tB) : PW3 X W3 (.BoolOp .And (a :: b :: rest) pos) (and3 tA tB) := fun Z => PW.imp (pw_and (ha Z) (hb Z)) fun τ H Q z_4 => by
  obtain ⟨σ, S, Q3, hs, hr, ht, hc⟩ := z_4
  refine ⟨σ, S, _, hs, hr, ht, fun c S1 H1 k1 l1 q1 => ?_⟩
  cases c with
  | true => exact ⟨σ, S1, Q3, hs.mono k1, l1, q1, hc.mono k1⟩
  | false => exact hc false S1 H1 k1 l1 q1
theorem w_or (ha : PT3 X W3 a tA) (hb : PW3 X W3 (.BoolOp .Or (b :: rest) pos) tB) : PW3 X W3 (.BoolOp .Or (a :: b :: rest) pos) (or3 tA tB) := fun Z => PW.imp (pw_or (ha Z) (hb Z)) fun τ H Q z_5 => by
  obtain ⟨σ, S, Q3, hs, hr, ht, hc⟩ := z_5
  refine ⟨σ, S, _, hs, hr, ht, fun c S1 H1 k1 l1 q1 => ?_⟩
  cases c with
  | true => exact hc true S1 H1 k1 l1 q1
  | false => exact ⟨σ, S1, Q3, hs.mono k1, l1, q1, hc.mono k1⟩
theorem PW3.pt (h : PW3 X W3 e tA) : PT3 X W3 e tA := fun Z => (h Z).pt
theorem t_not (ha : PT3 X W3 a tA) : PT3 X W3 (.UnaryOp .Not a pos) (not3 tA) := fun Z => PT.imp (pt_not (ha Z)) fun τ H Q z_6 => by obtain ⟨σ, S, Q3, hs, hr, ht, hc⟩ := z_6; exact ⟨σ, S, _, hs, hr, ht, fun c S1 H1 k1 l1 q1 => hc (!c) S1 H1 k1 l1 q1⟩
theorem e_one {op} (h : PE3 X W3 a ta) : PE3 X W3 (.BoolOp op [a] pos) ta := fun Z => pe_one (h Z)
theorem e_and (ha : PE3 X W3 a ta) (hb : PE3 X W3 (.BoolOp .And (b :: rest) pos) tb) : PE3 X W3 (.BoolOp .And (a :: b :: rest) pos) (andv3 ta tb) := fun Z => PE.imp (pe_and (ha Z) (hb Z)) fun τ H Q z_7 => by
  obtain ⟨σ, S, Q3, hs, hr, ht, hc⟩ := z_7
  refine ⟨σ, S, _, hs, hr, ht, fun x S1 v H1 k1 r1 l1 q1 => ?_⟩
  obtain ⟨c, rfl, q1⟩ := q1
  cases r1
  refine ⟨c, rfl, ?_⟩
  cases c with
  | true => exact ⟨σ, S1, Q3, hs.mono k1, l1, q1, hc.mono k1⟩
  | false => exact hc _ S1 _ H1 k1 (.bl _) l1 q1
def IsL (S : Hp3) (x : D) (ds : List D) : Prop := (∃ a, x = .ref a ∧ S a = some (.lst ds)) ∨ x = .rol ds
theorem IsL.down {K : PySem.W.Frag} {Z : Zt} {S : Hp3} {H : Hp} {x : D} {ds : List D} {v : V} (h : IsL S x ds) (r : Rp K H x v) (l : Rl K Z S H) : ∃ a vs, v = .ref a ∧ SqL K H a vs ∧ Rps K H ds vs := by
  rcases h with ⟨a, rfl, e⟩ | rfl
  · cases r
    obtain ⟨vs, h1, h2⟩ := l.obj a _ e
    exact ⟨a, vs, rfl, SqL.of h1, h2⟩
  · cases r with
    | rol h1 h2 => exact ⟨_, _, rfl, h1.sq, h2⟩
def Tru (S : Hp3) : D → Bool → Prop
  | .non, k => k = false
  | .bl b, k => k = b
  | .int i, k => k = (i != 0)
  | .str y, k => y.length ≤ sizeLine ∧ k = ((y.length : Int) != 0)
  | .tup ds, k => k = !ds.isEmpty
  | .rol ds, k => k = !ds.isEmpty
  | .ref a, k => (∃ ds, S a = some (.lst ds) ∧ k = !ds.isEmpty) ∨ ∃ kvs, S a = some (.dic kvs) ∧ k = !kvs.isEmpty
  | .ty _, _ => False
theorem Rps.empty {K : PySem.W.Frag} {H : Hp} {ds : List D} {vs : List V} (r : Rps K H ds vs) : ds.isEmpty = vs.isEmpty := by cases r <;> rfl
theorem Tru.down {K : PySem.W.Frag} {Z : Zt} {S : Hp3} {H : Hp} {x : D} {v : V} {k : Bool} (h : Tru S x k) (r : Rp K H x v) (l : Rl K Z S H) : TruV K v H k := by
  cases r with
  | non => exact h
  | bl b => exact h
  | int i => exact h
  | str x => exact h
  | ty n => exact h
  | tup h1 h2 => exact .inr (.inl ⟨_, h1, by rw [← h2.empty]; exact h⟩)
  | rol h1 h2 => exact .inl ⟨_, h1.sq, by rw [← h2.empty]; exact h⟩
  | ref a =>
    rcases h with ⟨ds, e, q⟩ | ⟨kvs, e, q⟩
    · obtain ⟨vs, h1, h2⟩ := l.obj a _ e
      exact .inl ⟨vs, SqL.of h1, by rw [← h2.empty]; exact q⟩
    · obtain ⟨ws, h1, h2⟩ := l.obj a _ e
      refine .inr (.inr ⟨ws, h1, ?_⟩)
      cases h2 <;> exact q
def truth3 (ta : TE3) : TT3 := fun σ S Q => ta σ S fun x S1 => ∃ k, Tru S1 x k ∧ Q k S1
theorem t_truth (ha : PE3 X W3 a ta) (he : ∀ whole, isTrue a X.env whole = (do let v ← whole; standAt a.pos; holding [v] (truthy v))) : PT3 X W3 a (truth3 ta) := fun Z => PT.imp (pt_truth (ha Z) he) fun τ H Q z_11 => by
  obtain ⟨σ, S, Q3, hs, hr, ht, hc⟩ := z_11
  refine ⟨σ, S, _, hs, hr, ht, fun x S1 v H1 k1 r1 l1 q1 => ?_⟩
  obtain ⟨k, h, q⟩ := q1
  exact ⟨k, h.down r1 l1, hc k S1 H1 k1 l1 q⟩
def nil3 : TA3 := fun _ S Q => Q [] S
def cons3 (ta : TE3) (tr : TA3) : TA3 := fun σ S Q => ta σ S fun x S1 => tr σ S1 fun xs S2 => Q (x :: xs) S2
theorem a_nil : PA3 X W3 [] nil3 := fun Z => PA.imp pa_nil fun τ H Q z_12 => by obtain ⟨σ, S, Q3, hs, hr, ht, hc⟩ := z_12; exact hc [] S [] H (Kp.refl _ _) .nil hr ht
theorem a_cons (ha : PE3 X W3 e ta) (hr : PA3 X W3 es t) (hs : starEach (e :: es) X.env = (false, eval e X.env) :: starEach es X.env := by rfl) : PA3 X W3 (e :: es) (cons3 ta t) := fun Z => PA.imp (pa_cons (ha Z) (hr Z) hs) fun τ H Q z_13 => by
  obtain ⟨σ, S, Q3, hs, hr, ht, hc⟩ := z_13
  refine ⟨σ, S, _, hs, hr, ht, fun x S1 v H1 k1 r1 l1 q1 => ?_⟩
  exact ⟨σ, S1, _, hs.mono k1, l1, q1, fun xs S2 vs H2 k2 r2 l2 q2 => hc (x :: xs) S2 (v :: vs) H2 (k1.trans k2) (.cons (r1.mono k2) r2) l2 q2⟩
def newL (S : Hp3) (ds : List D) (Q : K3) : Prop := ∀ p, S p = none → Q (.ref p) (up S p (.lst ds))
theorem newL.down {K : PySem.W.Frag} {Z : Zt} {S : Hp3} {H : Hp} {ds : List D} {vs : List V} {Q3 : K3} {Q : VK} (h : newL S ds Q3) (r : Rps K H ds vs) (l : Rl K Z S H) (c : CK K Z H Q3 Q) : ∀ p, H p = none → Q (.ref p) (upd H p (.lst vs)) := fun p hp => by
  obtain ⟨hs, hz⟩ := l.fresh hp
  have k := Kp.new (o := HO.lst vs) hp hz
  exact c _ _ _ _ k (.ref p) (l.put (o := .lst ds) k hz ⟨vs, upd_same, r.mono k⟩) (h p hs)
theorem tup.down {K : PySem.W.Frag} {Z : Zt} {S : Hp3} {H : Hp} {ds : List D} {vs : List V} {Q3 : K3} {Q : VK} (h : Q3 (.tup ds) S) (r : Rps K H ds vs) (l : Rl K Z S H) (c : CK K Z H Q3 Q) : ∀ p, H p = none → Q (.ref p) (upd H p (.tup vs)) := fun p hp => by
  obtain ⟨hs, hz⟩ := l.fresh hp
  have k := Kp.new (o := HO.tup vs) hp hz
  exact c _ _ _ _ k (.tup (SqT.of upd_same) (r.mono k)) (l.lay hp) h
def tup3 (t : TA3) : TE3 := fun σ S Q => t σ S fun xs S1 => xs.length ≤ sizeLine ∧ Q (.tup xs) S1
def lst3 (t : TA3) : TE3 := fun σ S Q => t σ S fun xs S1 => xs.length ≤ sizeLine ∧ newL S1 xs Q
theorem e_tup {x1} (h : PA3 X W3 es t) : PE3 X W3 (.Tuple es x1 pos) (tup3 t) := fun Z => PE.imp (pe_tup (h Z)) fun τ H Q ⟨σ, S, Q3, hs, hr, ht, hc⟩ =>
  ⟨σ, S, _, hs, hr, ht, fun xs S1 vs H1 k1 r1 l1 z_14 => by obtain ⟨z, q⟩ := z_14; exact ⟨by rw [← r1.len]; exact z, tup.down q r1 l1 (hc.mono k1)⟩⟩
theorem e_lst (h : PA3 X W3 es t) : PE3 X W3 (.List es pos) (lst3 t) := fun Z => PE.imp (pe_lst (h Z)) fun τ H Q ⟨σ, S, Q3, hs, hr, ht, hc⟩ =>
  ⟨σ, S, _, hs, hr, ht, fun xs S1 vs H1 k1 r1 l1 z_15 => by obtain ⟨z, q⟩ := z_15; exact ⟨by rw [← r1.len]; exact z, newL.down q r1 l1 (hc.mono k1)⟩⟩
def DnC (K : PySem.W.Frag) (r3 : List D → Hp3 → K3 → Prop) (r : List V → Hp → VK → Prop) : Prop := ∀ (Z : Zt) ds S Q3 vs H Q, Rps K H ds vs → Rl K Z S H → r3 ds S Q3 → CK K Z H Q3 Q → r vs H Q
def cb3 (r : List D → Hp3 → K3 → Prop) (t : TA3) : TE3 := fun σ S Q => t σ S fun vs S1 => r vs S1 Q
variable {x : Str} {p : Pos} {id T : String} {r3 : List D → Hp3 → K3 → Prop} {r : List V → Hp → VK → Prop}
theorem cb_down {K : PySem.W.Frag} {Z : Zt} (hd : DnC K r3 r) {τ : L2.St} {H : Hp} {Q : VK} (h : lE K Z (cb3 r3 t) τ H Q) : tCB r (lA K Z t) τ H Q := by
  obtain ⟨σ, S, Q3, hs, hr, ht, hc⟩ := h
  exact ⟨σ, S, _, hs, hr, ht, fun ds S1 vs H1 k1 r1 l1 q1 => hd Z ds S1 Q3 vs H1 Q r1 l1 q1 (hc.mono k1)⟩
theorem e_callB (hc : CallR X (.builtin id) r) (hd : DnC X.K r3 r) (hg : Gl X x) (hm : X.mg x = none) (hv : bootBuiltins x = some (.builtin id)) (ha : PA3 X W3 (e :: es) t) (hn : x ≠ "__name__" := by decide) (hdb : (x == ("__debug__" : Str)) = false := by decide)
    (he : starEach (e :: es) X.env = (false, eval e X.env) :: starEach es X.env := by rfl) (hpl : (backTo pos (starEach es X.env)).any (·.1) = false := by rfl) : PE3 X W3 (.Call (.Name x p) (e :: es) [] pos) (cb3 r3 t) :=
  fun Z => PE.imp (pe_callB hc hg hm hv (ha Z) hn hdb he hpl) fun _ _ _ h => cb_down hd h
theorem e_callTy (hc : CallR X (.type T) r) (hd : DnC X.K r3 r) (hg : Gl X x) (hm : X.mg x = none) (hv : bootBuiltins x = some (.type T)) (ha : PA3 X W3 (e :: es) t) (hn : x ≠ "__name__" := by decide) (hdb : (x == ("__debug__" : Str)) = false := by decide)
    (he : starEach (e :: es) X.env = (false, eval e X.env) :: starEach es X.env := by rfl) (hpl : (backTo pos (starEach es X.env)).any (·.1) = false := by rfl) : PE3 X W3 (.Call (.Name x p) (e :: es) [] pos) (cb3 r3 t) :=
  fun Z => PE.imp (pe_callTy hc hg hm hv (ha Z) hn hdb he hpl) fun _ _ _ h => cb_down hd h
def DnM (K : PySem.W.Frag) (r3 : D → List D → Hp3 → K3 → Prop) (r : V → List V → Hp → VK → Prop) : Prop := ∀ (Z : Zt) x ds S Q3 v vs H Q, Rp K H x v → Rps K H ds vs → Rl K Z S H → r3 x ds S Q3 → CK K Z H Q3 Q → r v vs H Q
def TyD (T : String) (x : D) (S : Hp3) : Prop := (T = "str" ∧ ∃ z, x = .str z) ∨ (T = "list" ∧ ∃ ds, IsL S x ds) ∨ (T = "dict" ∧ ∃ a kvs, x = .ref a ∧ S a = some (.dic kvs))
theorem TyD.down {K : PySem.W.Frag} {Z : Zt} {S : Hp3} {H : Hp} {T : String} {x : D} {v : V} (h : TyD T x S) (r : Rp K H x v) (l : Rl K Z S H) : tyV K T v H := by
  rcases h with ⟨rfl, z, rfl⟩ | ⟨rfl, ds, h⟩ | ⟨rfl, a, kvs, rfl, e⟩
  · cases r; rfl
  · obtain ⟨a, vs, rfl, h1, _⟩ := h.down r l
    exact .inl ⟨rfl, vs, h1⟩
  · cases r
    obtain ⟨ws, h1, _⟩ := l.obj a _ e
    exact .inr (.inr (.inl ⟨rfl, .inl ⟨ws, h1⟩⟩))
def bm03 (T : String) (r : D → List D → Hp3 → K3 → Prop) (to : TE3) : TE3 := fun σ S Q => to σ S fun x S1 => TyD T x S1 ∧ r x [] S1 Q
def bm3 (T : String) (r : D → List D → Hp3 → K3 → Prop) (to : TE3) (t : TA3) : TE3 := fun σ S Q => to σ S fun x S1 => TyD T x S1 ∧ t σ S1 fun xs S2 => r x xs S2 Q
variable {o : Expr} {to : TE3} {name : Str} {apos cpos : Pos} {m3 : D → List D → Hp3 → K3 → Prop} {m : V → List V → Hp → VK → Prop}
theorem e_bm0 (pa : PlainAttrs T) (slot : Slot T name id) (hty : typeOf (.builtin id) = pure (.type "method_descriptor")) (hm : MtR X id m) (hd : DnM X.K m3 m) (ho : PE3 X W3 o to)
    (hbase : attributeBase o name X.env (eval o X.env) = eval o X.env := by rfl) (hline : (apos.endLine == cpos.line) = true := by rfl) : PE3 X W3 (.Call (.Attribute o name apos) [] [] cpos) (bm03 T m3 to) :=
  fun Z => PE.imp (pe_bm0 pa slot hty hm (ho Z) hbase hline) fun τ H Q ⟨σ, S, Q3, hs, hr, ht, hc⟩ =>
    ⟨σ, S, _, hs, hr, ht, fun x S1 v H1 k1 r1 l1 z_16 => by obtain ⟨ty, q⟩ := z_16; exact ⟨ty.down r1 l1, hd Z.z x [] S1 Q3 v [] H1 Q r1 .nil l1 q (hc.mono k1)⟩⟩
theorem e_bm (pa : PlainAttrs T) (slot : Slot T name id) (hty : typeOf (.builtin id) = pure (.type "method_descriptor")) (hm : MtR X id m) (hd : DnM X.K m3 m) (ho : PE3 X W3 o to) (ha : PA3 X W3 (e :: es) t)
    (hbase : attributeBase o name X.env (eval o X.env) = eval o X.env := by rfl)
    (hfew : ((backTo cpos (starEach (e :: es) X.env)).all (fun x => !x.1) && (backToKw cpos (keywordEach [] X.env)).all (fun x => x.1.isSome)
      && decide ((e :: es).length + ([] : List Keyword).length + (if ([] : List Keyword).isEmpty then 0 else 1) < 30)) = true := by rfl)
    (hline : (apos.endLine == cpos.line) = true := by rfl) (hs : starEach (e :: es) X.env = (false, eval e X.env) :: starEach es X.env := by rfl) (hplain : (backTo cpos (starEach es X.env)).any (·.1) = false := by rfl) :
    PE3 X W3 (.Call (.Attribute o name apos) (e :: es) [] cpos) (bm3 T m3 to t) :=
  fun Z => PE.imp (pe_bm pa slot hty hm (ho Z) (ha Z) hbase hfew hline hs hplain) fun τ H Q ⟨σ, S, Q3, hs, hr, ht, hc⟩ =>
    ⟨σ, S, _, hs, hr, ht, fun x S1 v H1 k1 r1 l1 z_17 => by obtain ⟨ty, q⟩ := z_17; exact ⟨ty.down r1 l1, σ, S1, _, hs.mono k1, l1, q, fun ds S2 vs H2 k2 r2 l2 q2 => hd Z.z x ds S2 Q3 v vs H2 Q (r1.mono k2) r2 l2 q2 (hc.mono (k1.trans k2))⟩⟩
noncomputable abbrev TO3 := St3 → Hp3 → (Option Int → Hp3 → Prop) → Prop
def CO (K : PySem.W.Frag) (Z : Zt) (H : Hp) (Q3 : Option Int → Hp3 → Prop) (Q : Option Int → Hp → Prop) : Prop := ∀ d S H', Kp Z H H' → Rl K Z S H' → Q3 d S → Q d H'
noncomputable def lO (K : PySem.W.Frag) (Z : Zt) (t : TO3) : TO := fun τ H Q => ∃ σ S Q3, SR K H σ τ ∧ Rl K Z S H ∧ t σ S Q3 ∧ CO K Z H Q3 Q
def PO3 (X : Cx) (W3 : W3T) (e : Option Expr) (t : TO3) : Prop := ∀ Z : ZX X W3, PO X e (lO X.K Z.z t)
def nopart3 : TO3 := fun _ S Q => Q none S
def part3 (t : TE3) : TO3 := fun σ S Q => t σ S fun x S1 => ∃ i, x = .int i ∧ Q (some i) S1
theorem PO.imp {X : Cx} {e : Option Expr} {t u : TO} (h : PO X e t) (f : ∀ σ H Q, u σ H Q → t σ H Q) : PO X e u := fun pins s σ H Q I q => h pins s σ H Q I (f _ _ _ q)
theorem p_none : PO3 X W3 none nopart3 := fun Z => PO.imp po_none fun τ H Q z_18 => by obtain ⟨σ, S, Q3, hs, hr, ht, hc⟩ := z_18; exact hc none S H (Kp.refl _ _) hr ht
theorem p_some (h : PE3 X W3 e ta) : PO3 X W3 (some e) (part3 ta) := fun Z => PO.imp (po_some (h Z)) fun τ H Q z_19 => by
  obtain ⟨σ, S, Q3, hs, hr, ht, hc⟩ := z_19
  refine ⟨σ, S, _, hs, hr, ht, fun x S1 v H1 k1 r1 l1 q1 => ?_⟩
  obtain ⟨i, rfl, q⟩ := q1
  cases r1
  exact ⟨i, rfl, hc _ S1 H1 k1 l1 q⟩
def DnS (K : PySem.W.Frag) (r3 : D → Option Int → Option Int → Hp3 → K3 → Prop) (r : V → Option Int → Option Int → Hp → VK → Prop) : Prop := ∀ (Z : Zt) x lo hi S Q3 v H Q, Rp K H x v → Rl K Z S H → r3 x lo hi S Q3 → CK K Z H Q3 Q → r v lo hi H Q
def sl3 (r : D → Option Int → Option Int → Hp3 → K3 → Prop) (te : TE3) (tl th : TO3) : TE3 := fun σ S Q => te σ S fun x S1 => tl σ S1 fun l S2 => th σ S2 fun u S3 => r x l u S3 Q
theorem e_slice {lo hi : Option Expr} {tl th : TO3} {p2 : Pos} {s3 : D → Option Int → Option Int → Hp3 → K3 → Prop} {s2 : V → Option Int → Option Int → Hp → VK → Prop} (hr : SlR X s2) (hd : DnS X.K s3 s2) (he : PE3 X W3 e ta) (hl : PO3 X W3 lo tl) (hu : PO3 X W3 hi th) :
    PE3 X W3 (.Subscript e (.Slice lo hi none p2) pos) (sl3 s3 ta tl th) := fun Z => PE.imp (pe_slice hr (he Z) (hl Z) (hu Z)) fun τ H Q z_20 => by obtain ⟨σ, S, Q3, hs, hr, ht, hc⟩ := z_20; exact 
  ⟨σ, S, _, hs, hr, ht, fun x S1 v H1 k1 r1 l1 q1 => ⟨σ, S1, _, hs.mono k1, l1, q1, fun l S2 H2 k2 l2 q2 => ⟨σ, S2, _, hs.mono (k1.trans k2), l2, q2, fun u S3 H3 k3 l3 q3 =>
    hd Z.z x l u S3 Q3 v H3 Q (r1.mono (k2.trans k3)) l3 q3 (hc.mono (k1.trans (k2.trans k3)))⟩⟩⟩
noncomputable def kD : Key → D
  | .inl i => .int i
  | .inr x => .str x
noncomputable def valD (kvs : List (Key × D)) (k : Key) : Option D := (kvs.find? fun kv => decide (kv.1 = k)).map (·.2)
def dget3 (td ty : TE3) : TE3 := fun σ S Q => td σ S fun x S1 => ty σ S1 fun y S2 => ∃ a kvs k v, x = .ref a ∧ S2 a = some (.dic kvs) ∧ y = kD k ∧ valD kvs k = some v ∧ Q v S2
theorem kD_down {K : PySem.W.Frag} {H : Hp} {k : Key} {v : V} (r : Rp K H (kD k) v) : v = kV k := by
  cases k with
  | inl i => cases r; rfl
  | inr x => cases r; rfl
noncomputable abbrev KR (K : PySem.W.Frag) (H : Hp) := Paired (fun (p : Key × D) (q : Key × V) => p.1 = q.1 ∧ Rp K H p.2 q.2)
theorem KR.val {K : PySem.W.Frag} {H : Hp} {kvs : List (Key × D)} {ws : List (Key × V)} (r : KR K H kvs ws) (k : Key) : RO K H (valD kvs k) (valV ws k) ∧ (valD kvs k).isSome = (valV ws k).isSome := by
  induction r with
  | nil => exact ⟨fun d e => (nomatch e), rfl⟩
  | @cons p q ps qs h t ih =>
    obtain ⟨h1, h2⟩ := h
    by_cases e : p.1 = k
    · have e2 : q.1 = k := h1 ▸ e
      have a : valD (p :: ps) k = some p.2 := by simp [valD, List.find?_cons, e]
      rw [a, valV_pos e2]
      exact ⟨fun d z => by cases z; exact ⟨_, rfl, h2⟩, rfl⟩
    · have e2 : ¬ q.1 = k := h1 ▸ e
      have a : valD (p :: ps) k = valD ps k := by simp [valD, List.find?_cons, e]
      rw [a, valV_neg e2]
      exact ih
theorem DGet.down {K : PySem.W.Frag} {Z : Zt} {S : Hp3} {H : Hp} {a : Addr} {kvs : List (Key × D)} {k : Key} {v : V} (l : Rl K Z S H) (e : S a = some (.dic kvs)) (r : Rp K H (kD k) v) : ∃ ws, DGet H a v (valV ws k) ∧ KR K H kvs ws := by
  obtain ⟨ws, h1, h2⟩ := l.obj a _ e
  rw [kD_down r]
  exact ⟨ws, DGet.k h1, h2⟩
theorem e_dget {i : Expr} {td ty : TE3} (hu : X.A.units + 1 < cLine) (ho : PE3 X W3 o td) (hi : PE3 X W3 i ty) (hs : NoSl i) : PE3 X W3 (.Subscript o i pos) (dget3 td ty) := fun Z => PE.imp (pe_dget hu (ho Z) (hi Z) hs) fun τ H Q z_21 => by
  obtain ⟨σ, S, Q3, hs, hr, ht, hc⟩ := z_21
  refine ⟨σ, S, _, hs, hr, ht, fun x S1 v H1 k1 r1 l1 q1 => ⟨σ, S1, _, hs.mono k1, l1, q1, fun y S2 w H2 k2 r2 l2 q2 => ?_⟩⟩
  obtain ⟨a, kvs, k, d, rfl, e, rfl, ev, q⟩ := q2
  cases r1
  obtain ⟨ws, g, kr⟩ := DGet.down l2 e r2
  obtain ⟨u, eu, ru⟩ := (kr.val k).1 d ev
  rw [eu] at g
  exact ⟨a, u, rfl, g, hc d S2 u H2 (k1.trans k2) ru l2 q⟩
end
end E3
namespace E3
open PySem PySem.Spec PyProof.Rows L2 EE
section
variable {X : Cx} {W3 : W3T} {st : Stmt} {rest : List Stmt} {t u : TS3} {e : Expr} {te : TE3} {pos : Pos}
def next3 : TS3 := fun D σ S => D.nx σ S
def seq3 (t u : TS3) : TS3 := fun D σ S => t { D with nx := u D } σ S
theorem s_nil : PSs3 X W3 [] next3 := fun Z => PSs.imp pss_nil fun D τ H z_1 => by obtain ⟨D3, σ, S, hs, hr, ht, hc⟩ := z_1; exact hc.nx σ S τ H (Kp.refl _ _) hs hr ht
theorem s_cons (h1 : PS3 X W3 st t) (h2 : PSs3 X W3 rest u) : PSs3 X W3 (st :: rest) (seq3 t u) := fun Z => PSs.imp (pss_cons (h1 Z) (h2 Z)) fun D τ H ⟨D3, σ, S, hs, hr, ht, hc⟩ =>
  ⟨_, σ, S, hs, hr, ht, ⟨fun σ' S' τ' H' k r l q => ⟨D3, σ', S', r, l, q, hc.mono k⟩, hc.bk, hc.ct, hc.rt⟩⟩
theorem s_one (h1 : PS3 X W3 st t) : PSs3 X W3 [st] t := fun Z => pss_one (h1 Z)
def drop3 (te : TE3) : TS3 := fun D σ S => te σ S fun _ S1 => D.nx σ S1
theorem s_expr (he : PE3 X W3 e te) (hs : swapsWith e none pos.line X.env = pure false := by rfl) : PS3 X W3 (.Expr e pos) (drop3 te) := fun Z => PS.imp (ps_expr (he Z) hs) fun D τ H ⟨D3, σ, S, hs, hr, ht, hc⟩ =>
  ⟨σ, S, _, hs, hr, ht, fun d S' v H' k r l q => hc.nx σ S' τ H' k (hs.mono k) l q⟩
def ret3 (te : TE3) : TS3 := fun D σ S => te σ S D.rt
theorem s_ret (he : PE3 X W3 e te) : PS3 X W3 (.Return (some e) pos) (ret3 te) := fun Z => PS.imp (ps_ret (he Z)) fun D τ H z_6 => by obtain ⟨D3, σ, S, hs, hr, ht, hc⟩ := z_6; exact ⟨σ, S, _, hs, hr, ht, hc.rt⟩
def ifs3 (c : TT3) (t u : TS3) : TS3 := fun D σ S => c σ S fun b S1 => if b = true then t D σ S1 else u D σ S1
theorem s_if {c : Expr} {a b : List Stmt} {tc : TT3} (hc : PT3 X W3 c tc) (ha : PSs3 X W3 a t) (hb : PSs3 X W3 b u) : PS3 X W3 (.If c a b pos) (ifs3 tc t u) := fun Z => PS.imp (ps_if (hc Z) (ha Z) (hb Z)) fun D τ H z_8 => by
  obtain ⟨D3, σ, S, hs, hr, ht, hc⟩ := z_8
  refine ⟨σ, S, _, hs, hr, ht, fun b S' H' k l q => ?_⟩
  cases b with
  | true => exact ⟨D3, σ, S', hs.mono k, l, q, hc.mono k⟩
  | false => exact ⟨D3, σ, S', hs.mono k, l, q, hc.mono k⟩
def never3 : TS3 := fun _ _ _ => False
theorem ss_never {sts : List Stmt} : PSs3 X W3 sts never3 := fun Z => PSs.imp pss_never fun D τ H z_10 => by obtain ⟨D3, σ, S, hs, hr, ht, hc⟩ := z_10; exact ht
noncomputable abbrev TG3 := D → St3 → Hp3 → (St3 → Hp3 → Prop) → Prop
def lG (K : PySem.W.Frag) (Z : Zt) (t : TG3) : TG := fun v τ H Q => ∃ d σ S Q3, Rp K H d v ∧ SR K H σ τ ∧ Rl K Z S H ∧ t d σ S Q3 ∧ CS K Z H Q3 Q
def PG3 (X : Cx) (W3 : W3T) (tg : Expr) (t : TG3) : Prop := ∀ Z : ZX X W3, PG X tg (lG X.K Z.z t)
theorem PG.imp {X : Cx} {e : Expr} {t u : TG} (h : PG X e t) (f : ∀ v σ H Q, u v σ H Q → t v σ H Q) : PG X e u := fun pins s σ H v w Q I r q => h pins s σ H v w Q I r (f _ _ _ _ q)
def name3 (i : Nat) : TG3 := fun v σ S Q => Q (σ.set i (some v)) S
theorem g_name {i : Nat} {x : Str} (hN : X.N.Nodup) (hi : X.N[i]? = some x) (hx : Loc X.env.scope x) (hf : X.fn x = true ∨ X.env.scope.names.lookup x = some .local := by first | exact .inl rfl | exact .inr rfl | assumption) : PG3 X W3 (.Name x pos) (name3 i) :=
  fun Z => PG.imp (pg_name hN hi hx hf) fun v τ H Q z_11 => by obtain ⟨d, σ, S, Q3, r, hs, hr, ht, hc⟩ := z_11; exact hc _ S _ H (Kp.refl _ _) (hs.set r i) hr ht
def asg3 (te : TE3) (g : TG3) : TS3 := fun D σ S => te σ S fun x S1 => g x σ S1 D.nx
theorem asg_down {K : PySem.W.Frag} {Z : Zt} {g : TG3} {D : Ends} {τ : L2.St} {H : Hp} (h : lS K Z (asg3 te g) D τ H) : tAsg (lE K Z te) (lG K Z g) D τ H := by
  obtain ⟨D3, σ, S, hs, hr, ht, hc⟩ := h
  exact ⟨σ, S, _, hs, hr, ht, fun d S' v H' k r l q => ⟨d, σ, S', _, r, hs.mono k, l, q, hc.nx.mono k⟩⟩
theorem s_asg {tg : Expr} {g : TG3} (he : PE3 X W3 e te) (hg : PG3 X W3 tg g) (hs : swapsWithSole [tg] e pos.line X.env = pure false := by rfl) (hw : swappedStores [tg] e X.env = pure none := by rfl)
    (h1 : (assignEach [tg] X.env).map (·.2) = [assign tg X.env] := by rfl) : PS3 X W3 (.Assign [tg] e pos) (asg3 te g) := fun Z => PS.imp (ps_asg (he Z) (hg Z) hs hw h1) fun D τ H h => asg_down h
def set3 (i : Nat) (te : TE3) : TS3 := fun D σ S => te σ S fun x S1 => D.nx (σ.set i (some x)) S1
theorem s_set {i : Nat} {x : Str} {pos' : Pos} (hN : X.N.Nodup) (hi : X.N[i]? = some x) (hx : Loc X.env.scope x) (he : PE3 X W3 e te) (hs : swapsWith e (some (.Name x pos')) pos.line X.env = pure false := by rfl) (hf : X.fn x = true ∨ X.env.scope.names.lookup x = some .local := by first | exact .inl rfl | exact .inr rfl | assumption) :
    PS3 X W3 (.Assign [.Name x pos'] e pos) (set3 i te) := fun Z => PS.imp (ps_set hN hi hx (he Z) hs hf) fun D τ H z_15 => by obtain ⟨D3, σ, S, hs, hr, ht, hc⟩ := z_15; exact 
  ⟨σ, S, _, hs, hr, ht, fun d S' v H' k r l q => hc.nx _ S' _ H' k ((hs.mono k).set r i) l q⟩
def setL3 (to ti : TE3) : TG3 := fun v σ S Q => to σ S fun o S1 => ti σ S1 fun i S2 => ∃ p xs k j, o = .ref p ∧ i = .int k ∧ S2 p = some (.lst xs) ∧ ixN xs.length k = some j ∧ Q σ (up S2 p (.lst (xs.set j v)))
theorem g_sub {o i : Expr} {to ti : TE3} (ho : PE3 X W3 o to) (hi : PE3 X W3 i ti)
    (ha : ∀ v, assign (.Subscript o i pos) X.env v = (do
      let ov ← holding [v] (eval o X.env)
      let iv ← holding [v, ov] (eval i X.env)
      standAt pos
      holding [v, ov, iv] (setItem ov iv v)
      release [v, ov, iv] []) := by intro _; rfl) : PG3 X W3 (.Subscript o i pos) (setL3 to ti) := fun Z => PG.imp (pg_sub (ho Z) (hi Z) set_list ha) fun v τ H Q z_16 => by
  obtain ⟨d, σ, S, Q3, r, hs, hr, ht, hc⟩ := z_16
  refine ⟨σ, S, _, hs, hr, ht, fun x1 S1 v1 H1 k1 r1 l1 q1 => ⟨σ, S1, _, hs.mono k1, l1, q1, fun x2 S2 v2 H2 k2 r2 l2 q2 => ?_⟩⟩
  obtain ⟨p, xs, k, j, rfl, rfl, e, hj, q⟩ := q2
  cases r1
  cases r2
  obtain ⟨vs, h1, h2⟩ := l2.obj p _ e
  have kk : Kp Z.z H2 (upd H2 p (.lst (vs.set j v))) := Kp.at l2 e
  refine ⟨p, vs, k, j, rfl, rfl, h1, by rw [← h2.len]; exact hj, ?_⟩
  have k12 := k1.trans (k2.trans kk)
  exact hc σ _ τ _ k12 (hs.mono k12) (l2.put (o := .lst (xs.set j d)) kk (l2.notZ e) ⟨_, upd_same, (h2.mono kk).set (r.mono k12) j⟩) q
def while3 (c : TT3) (tb : TS3) : TS3 := fun D σ S => ∃ W : Nat → St3 → Hp3 → Prop, (∃ m, W m σ S) ∧ ∀ m σ S, W m σ S →
  c σ S fun b S1 => if b = true then tb { D with nx := fun σ' S' => ∃ m', m' < m ∧ W m' σ' S', ct := fun σ' S' => ∃ m', m' < m ∧ W m' σ' S', bk := D.nx } σ S1 else D.nx σ S1
theorem s_while {c : Expr} {body : List Stmt} {tc : TT3} {tb : TS3} (hp : PassesOwn (model X.prog X.w) X.A X.env X.xe) (hc : PT3 X W3 c tc) (hb : PSs3 X W3 body tb) : PS3 X W3 (.While c body [] pos) (while3 tc tb) := fun Z => PS.imp (ps_while hp (hc Z) (hb Z)) fun D τ H z_19 => by
  obtain ⟨D3, σ, S, hs, hr, ⟨W, ⟨m0, w0⟩, turn⟩, hc⟩ := z_19
  refine ⟨fun m τ' H' => ∃ σ' S', Kp Z.z H H' ∧ SR X.K H' σ' τ' ∧ Rl X.K Z.z S' H' ∧ W m σ' S', ⟨m0, σ, S, Kp.refl _ _, hs, hr, w0⟩, ?_⟩
  rintro m τ1 H1 ⟨σ1, S1, k1, s1, l1, w1⟩
  refine ⟨σ1, S1, _, s1, l1, turn m σ1 S1 w1, fun b S2 H2 k2 l2 q2 => ?_⟩
  cases b with
  | true =>
    rw [if_pos rfl] at q2 ⊢
    refine ⟨fun τ' H' => ∃ m', m' < m ∧ ∃ σ' S', Kp Z.z H H' ∧ SR X.K H' σ' τ' ∧ Rl X.K Z.z S' H' ∧ W m' σ' S', fun τ' H' z => z, _, σ1, S2, s1.mono k2, l2, q2, ⟨?_, ?_, ?_, ?_⟩⟩
    · exact fun σ' S' τ' H' k r l z_20 => by obtain ⟨m', hm, w⟩ := z_20; exact ⟨m', hm, σ', S', k1.trans (k2.trans k), r, l, w⟩
    · exact hc.nx.mono (k1.trans k2)
    · exact fun σ' S' τ' H' k r l z_21 => by obtain ⟨m', hm, w⟩ := z_21; exact ⟨m', hm, σ', S', k1.trans (k2.trans k), r, l, w⟩
    · exact hc.rt.mono (k1.trans k2)
  | false =>
    rw [if_neg Bool.false_ne_true] at q2 ⊢
    exact hc.nx σ1 S2 τ1 H2 (k1.trans k2) (s1.mono k2) l2 q2
end
noncomputable abbrev TI3 := St3 → Hp3 → (List D → (Hp3 → Prop) → Hp3 → Prop) → Prop
structure Wk (K : PySem.W.Frag) (Z : Zt) (J : It) (ds : List D) (Al : Hp3 → Prop) (H0 : Hp) : Prop where
  go : ∀ i d S H, Kp Z H0 H → Rl K Z S H → Al S → ds[i]? = some d → J.go i H ∧ ∀ v H', J.yld i H v H' → Kp Z H H' ∧ Rp K H' d v ∧ (∀ S', Rl K Z S' H → Rl K Z S' H') ∧ ∀ b, H b ≠ none → H' b = H b
  stop : ∀ S H, Kp Z H0 H → Rl K Z S H → Al S → J.stop ds.length H
def lI (K : PySem.W.Frag) (Z : Zt) (t : TI3) : TI := fun τ H R => ∃ σ S R3, SR K H σ τ ∧ Rl K Z S H ∧ t σ S R3 ∧ ∀ ds Al S' J H', Kp Z H H' → Rl K Z S' H' → R3 ds Al S' → Wk K Z J ds Al H' → R J H'
def PI3 (X : Cx) (W3 : W3T) (tg iter : Expr) (t : TI3) : Prop := ∀ Z : ZX X W3, PI X tg iter (lI X.K Z.z t)
theorem PI.imp {X : Cx} {tg e : Expr} {t u : TI} (h : PI X tg e t) (f : ∀ σ H R, u σ H R → t σ H R) : PI X tg e u := fun pins s σ H Q I q => h pins s σ H Q I (f _ _ _ q)
section
variable {X : Cx} {W3 : W3T} {tg l : Expr} {tl : TE3} {pos : Pos}
def iL3 (tl : TE3) : TI3 := fun σ S R => tl σ S fun x S1 => (∃ a ds, x = .ref a ∧ S1 a = some (.lst ds) ∧ R ds (fun S => S a = some (.lst ds)) S1) ∨ ∃ ds, x = .rol ds ∧ R ds (fun _ => True) S1
theorem i_list (hl : PE3 X W3 l tl) : PI3 X W3 tg l (iL3 tl) := fun Z => PI.imp (pi_list (hl Z)) fun τ H R z_22 => by
  obtain ⟨σ, S, R3, hs, hr, ht, hc⟩ := z_22
  refine ⟨σ, S, _, hs, hr, ht, fun x S1 v H1 k1 r1 l1 q1 => ?_⟩
  rcases q1 with ⟨a, ds, rfl, e, q⟩ | ⟨ds, rfl, q⟩
  · cases r1
    obtain ⟨vs, h1, h2⟩ := l1.obj a _ e
    refine ⟨a, rfl, ⟨vs, SqL.of h1⟩, hc ds _ S1 _ H1 k1 l1 q ⟨fun i d S2 H2 k2 l2 al hd => ?_, fun S2 H2 k2 l2 al => ?_⟩⟩
    · obtain ⟨ws, h3, h4⟩ := l2.obj a _ al
      obtain ⟨v, hv, rv⟩ := h4.at hd
      refine ⟨⟨ws, v, SqL.of h3, hv⟩, fun v' H' y => ?_⟩
      obtain ⟨rfl, y⟩ := y
      have := y ws (SqL.of h3)
      rw [hv] at this
      cases this
      exact ⟨Kp.refl _ _, rv, fun _ z => z, fun _ _ => rfl⟩
    · obtain ⟨ws, h3, h4⟩ := l2.obj a _ al
      exact ⟨ws, SqL.of h3, by rw [h4.len]; exact Nat.le_refl _⟩
  · cases r1 with
    | @rol a vs _ h1 h2 =>
      refine ⟨a, rfl, ⟨vs, h1.sq⟩, hc ds _ S1 _ H1 k1 l1 q ⟨fun i d S2 H2 k2 l2 al hd => ?_, fun S2 H2 k2 l2 al => ?_⟩⟩
      · obtain ⟨v, hv, rv⟩ := h2.at hd
        have h3 := (k2.scR h1).sq
        refine ⟨⟨vs, v, h3, hv⟩, fun v' H' y => ?_⟩
        obtain ⟨rfl, y⟩ := y
        have := y vs h3
        rw [hv] at this
        cases this
        exact ⟨Kp.refl _ _, rv.mono k2, fun _ z => z, fun _ _ => rfl⟩
      · exact ⟨vs, (k2.scR h1).sq, by rw [h2.len]; exact Nat.le_refl _⟩
def iT3 (tl : TE3) : TI3 := fun σ S R => tl σ S fun x S1 => ∃ ds, x = .tup ds ∧ R ds (fun _ => True) S1
theorem i_tup (hl : PE3 X W3 l tl) : PI3 X W3 tg l (iT3 tl) := fun Z => PI.imp (pi_tup (hl Z)) fun τ H R z_23 => by
  obtain ⟨σ, S, R3, hs, hr, ht, hc⟩ := z_23
  refine ⟨σ, S, _, hs, hr, ht, fun x S1 v H1 k1 r1 l1 q1 => ?_⟩
  obtain ⟨ds, rfl, q⟩ := q1
  cases r1 with
  | @tup a vs _ h1 h2 =>
    refine ⟨a, rfl, ⟨vs, h1⟩, hc ds _ S1 _ H1 k1 l1 q ⟨fun i d S2 H2 k2 l2 al hd => ?_, fun S2 H2 k2 l2 al => ?_⟩⟩
    · obtain ⟨v, hv, rv⟩ := h2.at hd
      have h3 := k2.sqT h1
      refine ⟨⟨vs, v, h3, hv⟩, fun v' H' y => ?_⟩
      obtain ⟨rfl, y⟩ := y
      have := y vs h3
      rw [hv] at this
      cases this
      exact ⟨Kp.refl _ _, rv.mono k2, fun _ z => z, fun _ _ => rfl⟩
    · exact ⟨vs, k2.sqT h1, by rw [h2.len]; exact Nat.le_refl _⟩
noncomputable def signs (x : Str) : List D := x.cps.toList.map fun c => .str ⟨#[c]⟩
def iS3 (tl : TE3) : TI3 := fun σ S R => tl σ S fun x S1 => ∃ z, x = .str z ∧ R (signs z) (fun _ => True) S1
theorem i_str (hl : PE3 X W3 l tl) : PI3 X W3 tg l (iS3 tl) := fun Z => PI.imp (pi_str (hl Z)) fun τ H R z_25 => by
  obtain ⟨σ, S, R3, hs, hr, ht, hc⟩ := z_25
  refine ⟨σ, S, _, hs, hr, ht, fun x S1 v H1 k1 r1 l1 q1 => ?_⟩
  obtain ⟨z, rfl, q⟩ := q1
  cases r1
  refine ⟨z, rfl, hc _ _ S1 _ H1 k1 l1 q ⟨fun i d S2 H2 k2 l2 al hd => ?_, fun S2 H2 k2 l2 al => ?_⟩⟩
  · unfold signs at hd
    rw [List.getElem?_map] at hd
    cases e : z.cps.toList[i]? with
    | none => rw [e] at hd; cases hd
    | some c =>
      rw [e] at hd
      cases hd
      have hi := (List.getElem?_eq_some_iff.mp e).1
      have e' : z.cps[i]? = some c := by simpa using e
      refine ⟨by show i < z.cps.size; simpa using hi, fun v' H' y => ?_⟩
      obtain ⟨rfl, c', hc', rfl⟩ := y
      rw [e'] at hc'
      cases hc'
      exact ⟨Kp.refl _ _, .str _, fun _ z => z, fun _ _ => rfl⟩
  · show z.cps.size ≤ (signs z).length
    simp [signs]
noncomputable def nums (lo : Int) (n : Nat) : List D := (List.range n).map fun i : Nat => .int (lo + (i : Int))
theorem nums_at {lo : Int} {n i : Nat} {d : D} (h : (nums lo n)[i]? = some d) : i < n ∧ d = .int (lo + (i : Int)) := by
  unfold nums at h
  rw [List.getElem?_map] at h
  cases e : (List.range n)[i]? with
  | none => rw [e] at h; cases h
  | some c =>
    rw [e] at h
    cases h
    obtain ⟨h1, h2⟩ := List.getElem?_eq_some_iff.mp e
    rw [List.getElem_range] at h2
    subst h2
    exact ⟨by simpa using h1, rfl⟩
theorem nums_len {lo : Int} {n : Nat} : (nums lo n).length = n := by simp [nums]
def iR1 (ta : TA3) : TI3 := fun σ S R => ta σ S fun vs S1 => ∃ j : Int, vs = [.int j] ∧ -(2 ^ 62) ≤ j ∧ j < 2 ^ 62 ∧ R (nums 0 j.toNat) (fun _ => True) S1
theorem wk_rng {K : PySem.W.Frag} {Z : Zt} {lo : Int} {n : Nat} {H : Hp} : Wk K Z (Itr lo n) (nums lo n) (fun _ => True) H := by
  refine ⟨fun i d S2 H2 k2 l2 al hd => ?_, fun S2 H2 k2 l2 al => ?_⟩
  · obtain ⟨hi, rfl⟩ := nums_at hd
    refine ⟨hi, fun v' H' y => ?_⟩
    obtain ⟨rfl, rfl⟩ := y
    exact ⟨Kp.refl _ _, .int _, fun _ z => z, fun _ _ => rfl⟩
  · show n ≤ (nums lo n).length
    rw [nums_len]
    exact Nat.le_refl _
theorem i_range1 {a : Expr} {ta : TA3} {p : Pos} (hg : Gl X "range") (hm : X.mg "range" = none) (ha : PA3 X W3 [a] ta) (hs : starEach [a] X.env = [(false, eval a X.env)] := by rfl) : PI3 X W3 tg (.Call (.Name "range" p) [a] [] pos) (iR1 ta) :=
  fun Z => PI.imp (pi_range1 hg hm (ha Z) hs) fun τ H R z_26 => by
  obtain ⟨σ, S, R3, hs, hr, ht, hc⟩ := z_26
  refine ⟨σ, S, _, hs, hr, ht, fun xs S1 vs0 H1 k1 r1 l1 q1 => ?_⟩
  obtain ⟨j, rfl, h1, h2, q⟩ := q1
  cases r1 with
  | cons r1 rr =>
    cases rr
    cases r1
    exact ⟨j, rfl, h1, h2, hc _ _ S1 _ H1 k1 l1 q wk_rng⟩
def for3 (wi : TI3) (g : TG3) (tb : TS3) : TS3 := fun D σ S => wi σ S fun ds Al S1 => ∃ W : Nat → St3 → Hp3 → Prop, W 0 σ S1 ∧ (∀ i σ S, W i σ S → Al S) ∧
  (∀ i d σ S, ds[i]? = some d → W i σ S → g d σ S fun σ2 S2 => tb { D with nx := W (i + 1), ct := W (i + 1), bk := D.nx } σ2 S2) ∧ ∀ σ S, W ds.length σ S → D.nx σ S
theorem s_for {iter : Expr} {body : List Stmt} {wi : TI3} {g : TG3} {tb : TS3} (hp : PassesOwn (model X.prog X.w) X.A X.env X.xe) (hc : X.calm = true) (hi : PI3 X W3 tg iter wi) (hg : PG3 X W3 tg g) (hb : PSs3 X W3 body tb)
    (hs : ∀ x, foldedSetIterable iter X.env x = pure x := by intro _; rfl) : PS3 X W3 (.For tg iter body [] pos) (for3 wi g tb) := fun Z => PS.imp (ps_for hp hc (hi Z) (hg Z) (hb Z) hs) fun D τ H z_28 => by
  obtain ⟨D3, σ, S, hs, hr, ht, hc⟩ := z_28
  refine ⟨σ, S, _, hs, hr, ht, fun ds Al S1 J H1 k1 l1 q1 wk => ?_⟩
  obtain ⟨W, w0, al, turn, done⟩ := q1
  refine ⟨fun i m τ' H' => m = ds.length - i ∧ i ≤ ds.length ∧ ∃ σ' S', Kp Z.z H1 H' ∧ SR X.K H' σ' τ' ∧ Rl X.K Z.z S' H' ∧ W i σ' S', ⟨ds.length, by simp, Nat.zero_le _, σ, S1, Kp.refl _ _, hs.mono k1, l1, w0⟩, ?_⟩
  rintro i m τ2 H2 ⟨rfl, hi, σ2, S2, k2, s2, l2, w2⟩
  by_cases hlt : i < ds.length
  · have hd : ds[i]? = some ds[i] := List.getElem?_eq_getElem hlt
    obtain ⟨go, yl⟩ := wk.go i _ S2 H2 k2 l2 (al _ _ _ w2) hd
    refine .inr ⟨go, fun τ' H' => i < ds.length ∧ ∃ σ' S', Kp Z.z H1 H' ∧ SR X.K H' σ' τ' ∧ Rl X.K Z.z S' H' ∧ W (i + 1) σ' S', fun τ' H' z => ⟨ds.length - (i + 1), by omega, rfl, z.1, z.2⟩, fun v H3 y => ?_⟩
    obtain ⟨k3, rv, l3, _⟩ := yl v H3 y
    refine ⟨_, σ2, S2, _, rv, s2.mono k3, l3 _ l2, turn i _ σ2 S2 hd w2, fun σ4 S4 τ4 H4 k4 s4 l4 q4 => ?_⟩
    have k14 := k2.trans (k3.trans k4)
    refine ⟨_, σ4, S4, s4, l4, q4, ⟨?_, ?_, ?_, ?_⟩⟩
    · exact fun σ' S' τ' H' k r l w => ⟨hlt, σ', S', k14.trans k, r, l, w⟩
    · exact hc.nx.mono (k1.trans k14)
    · exact fun σ' S' τ' H' k r l w => ⟨hlt, σ', S', k14.trans k, r, l, w⟩
    · exact hc.rt.mono (k1.trans k14)
  · have e : i = ds.length := by omega
    subst e
    exact .inl ⟨wk.stop S2 H2 k2 l2 (al _ _ _ w2), hc.nx σ2 S2 τ2 H2 (k1.trans k2) s2 l2 (done σ2 S2 w2)⟩
noncomputable def pick3 (σ : St3) (js : List Nat) : St3 := js.map fun j => (σ[j]?).getD none
theorem SR.picks {K : PySem.W.Frag} {H : Hp} {σ : St3} {τ : L2.St} (h : SR K H σ τ) (js : List Nat) : SR K H (pick3 σ js) (pick τ js) := by
  unfold pick3 pick
  induction js with
  | nil => exact .nil
  | cons j js ih =>
    refine .cons (fun d e => ?_) ih
    dsimp only at e ⊢
    cases q : σ[j]? with
    | none => rw [q] at e; cases e
    | some o =>
      rw [q] at e
      have e : o = some d := e
      subst e
      obtain ⟨v, h1, h2⟩ := h.at q
      exact ⟨v, by rw [h1]; rfl, h2⟩
def comp3 (wi : TI3) (te : TE3) (js : List Nat) : TE3 := fun σ S Q => wi σ S fun ds Al S1 => ∃ W : Nat → List D → Hp3 → Prop, W 0 [] S1 ∧ (∀ i ys S, W i ys S → Al S ∧ ys.length < sizeLine) ∧
  (∀ i d ys S, ds[i]? = some d → W i ys S → te (some d :: pick3 σ js) S fun y S' => W (i + 1) (ys ++ [y]) S') ∧ ∀ ys S, W ds.length ys S → newL S ys Q
def exZ (K : PySem.W.Frag) (te : TE3) : TE := fun τ H Q => ∃ Z : Zt, lE K Z te τ H Q
theorem PE3.ex {X : Cx} {e : Expr} {te : TE3} (h : PE3 X NoX e te) : PE X e (exZ X.K te) := fun pins s σ H Q I z_29 => by obtain ⟨Z, q⟩ := z_29; exact h (ZX.no X Z) pins s σ H Q I q
noncomputable abbrev Zt.hide (Z : Zt) (H : Hp) (p : Addr) : Zt := ⟨fun a => Z a ∨ a = p, H⟩
theorem Rl.hide {K : PySem.W.Frag} {Z : Zt} {S : Hp3} {H : Hp} {p : Addr} (l : Rl K Z S H) (hs : S p = none) (hh : H p ≠ none) : Rl K (Z.hide H p) S H :=
  ⟨l.obj, fun a z => z.elim (l.hid a) fun e => e ▸ ⟨hs, hh⟩, Kp.refl _ _⟩
theorem Rl.unhide {K : PySem.W.Frag} {Z Z' : Zt} {S : Hp3} {H : Hp} (l : Rl K Z' S H) (h : ∀ a, Z a → Z' a) (o : Kp Z Z.base H) : Rl K Z S H := ⟨l.obj, fun a z => l.hid a (h a z), o⟩
theorem Kp.unhide {Z Z' : Zt} {H H' : Hp} (k : Kp Z' H H') (h : ∀ a, Z a → Z' a) : Kp Z H H' := ⟨k.tup, k.frz, fun a z => k.hid a (h a z)⟩
theorem comp_down {K : PySem.W.Frag} {Z : Zt} {wi : TI3} {te : TE3} {js : List Nat} {τ : L2.St} {H : Hp} {Q : VK} (h : lE K Z (comp3 wi te js) τ H Q) : tComp (lI K Z wi) (exZ K te) js τ H Q := by
  obtain ⟨σ, S, Q3, hs, hr, ht, hc⟩ := h
  refine ⟨σ, S, _, hs, hr, ht, fun ds Al S1 J H1 k1 l1 q1 wk => ?_⟩
  intro p hp
  obtain ⟨W, w0, al, turn, done⟩ := q1
  obtain ⟨hsp, hzp⟩ := l1.fresh hp
  have kp : Kp Z H1 (upd H1 p (.lst [])) := Kp.new hp hzp
  refine ⟨fun i m H' => m = ds.length - i ∧ i ≤ ds.length ∧ ∃ ys vs S', Kp Z H1 H' ∧ H' p = some (.lst vs) ∧ Rps K H' ys vs ∧ S' p = none ∧ Rl K Z S' H' ∧ W i ys S', ⟨ds.length, by simp, Nat.zero_le _, [], [], S1, kp, upd_same, .nil, hsp, l1.lay hp, w0⟩, ?_⟩
  rintro i m H2 ⟨rfl, hi, ys, vs, S2, k2, hp2, ry, hs2, l2, w2⟩
  obtain ⟨al2, hz⟩ := al _ _ _ w2
  by_cases hlt : i < ds.length
  · have hd : ds[i]? = some ds[i] := List.getElem?_eq_getElem hlt
    obtain ⟨go, yl⟩ := wk.go i _ S2 H2 k2 l2 al2 hd
    refine .inr ⟨go, fun H' => i < ds.length ∧ ∃ ys vs S', Kp Z H1 H' ∧ H' p = some (.lst vs) ∧ Rps K H' ys vs ∧ S' p = none ∧ Rl K Z S' H' ∧ W (i + 1) ys S', fun H' z => ⟨ds.length - (i + 1), by omega, rfl, z.1, z.2⟩, fun v H3 y => ?_⟩
    obtain ⟨k3, rv, l3, o3⟩ := yl v H3 y
    have hp3 : H3 p = some (.lst vs) := (o3 p (by rw [hp2]; simp)).trans hp2
    refine ⟨Z.hide H3 p, _, S2, _, .cons (fun d e => by cases e; exact ⟨v, rfl, rv⟩) (((hs.mono (k1.trans (k2.trans k3)))).picks js), (l3 _ l2).hide hs2 (by rw [hp3]; simp), turn i _ ys S2 hd w2, ?_⟩
    intro d S4 w H4 k4 r4 l4 q4
    have hp4 : H4 p = some (.lst vs) := (k4.hid p (.inr rfl)).trans hp3
    have k4' := k4.unhide (Z := Z) fun a z => .inl z
    have l4' := l4.unhide (Z := Z) (fun a z => .inl z) ((l3 _ l2).old.trans k4')
    have kk : Kp Z H4 (upd H4 p (.lst (vs ++ [w]))) := by
      refine ⟨fun b xs e => ?_, fun b q u e => ?_, fun b z => ?_⟩
      · rw [upd_ne]; exact e
        rintro rfl; rw [hp4] at e; cases e
      · rw [upd_ne]; exact e
        rintro rfl; rw [hp4] at e; cases e
      · rw [upd_ne]; rintro rfl; exact hzp z
    have sp4 : S4 p = none := (l4.hid p (.inr rfl)).1
    have hlen : ys.length = vs.length := ry.len
    refine ⟨vs, hp4, by omega, hlt, ys ++ [d], vs ++ [w], S4, k2.trans (k3.trans (k4'.trans kk)), upd_same, ((ry.mono (k3.trans (k4'.trans kk)))).append (.cons (r4.mono kk) .nil), sp4, ⟨fun b u e => (l4'.obj b u e).keep kk (upd_ne (ne3 e sp4)), fun b z => ?_, l4'.old.trans kk⟩, q4⟩
    have hb : b ≠ p := fun e => hzp (e ▸ z)
    rw [upd_ne hb]
    exact l4'.hid b z
  · have e : i = ds.length := by omega
    subst e
    refine .inl ⟨wk.stop S2 H2 k2 l2 al2, ?_⟩
    refine hc (.ref p) (up S2 p (.lst ys)) (.ref p) H2 (k1.trans k2) (.ref p) ⟨fun b u e => ?_, fun b z => ?_, l2.old⟩ (done ys S2 w2 p hs2)
    · by_cases hb : b = p
      · subst hb
        rw [up_same] at e
        cases e
        exact ⟨vs, hp2, ry⟩
      · rw [up_ne hb] at e
        exact l2.obj b u e
    · have hb : b ≠ p := fun e => hzp (e ▸ z)
      rw [up_ne hb]
      exact l2.hid b z
variable {elt iter : Expr} {x : Str} {px : Pos} {scope osc : Scope} {M N : List Str} {js : List Nat} {wi : TI3} {te : TE3}
theorem e_comp (S : CompScope osc x M scope) (hjs : M.map some = js.map fun j => N[j]?) (hc : X.calm = true) (hi : PI3 X W3 (.Name x px) iter wi)
    (he : ∀ (C : Addr) (fp : List Addr) (pins : List (Addr × Obj)) (s : Shared) (H : Hp), PE3 (cxComp X scope C (x :: M) fp pins s H) NoX elt te)
    (hosc : X.env.scope = osc := by rfl) (hN : X.N = N := by rfl) (hs : ∀ v, foldedSetIterable iter X.env v = pure v := by intro _; rfl) :
    PE3 X W3 (.ListComp elt [⟨.Name x px, iter, [], 0⟩] scope pos) (comp3 wi te js) := fun Z =>
  PE.imp (pe_compr S hjs hc (hi Z) (fun C fp pins s H => (he C fp pins s H).ex) hosc hN hs) fun _ _ _ h => comp_down h
theorem s_comp {i : Nat} {y : Str} {py spos : Pos} (S : CompScope osc x M scope) (hjs : M.map some = js.map fun j => N[j]?) (hc : X.calm = true) (hi : PI3 X W3 (.Name x px) iter wi)
    (he : ∀ (C : Addr) (fp : List Addr) (pins : List (Addr × Obj)) (s : Shared) (H : Hp), PE3 (cxComp X scope C (x :: M) fp pins s H) NoX elt te)
    (hNd : X.N.Nodup) (hy : X.N[i]? = some y) (hl : X.env.scope.names.lookup y = some .local)
    (hosc : X.env.scope = osc := by rfl) (hN : X.N = N := by rfl)
    (hsw : swapsWith (.ListComp elt [⟨.Name x px, iter, [], 0⟩] scope pos) (some (.Name y py)) spos.line X.env = pure true := by rfl) (hs : ∀ v, foldedSetIterable iter X.env v = pure v := by intro _; rfl) :
    PS3 X W3 (.Assign [.Name y py] (.ListComp elt [⟨.Name x px, iter, [], 0⟩] scope pos) spos) (set3 i (comp3 wi te js)) := fun Z =>
  PS.imp (ps_compr S hjs hc (hi Z) (fun C fp pins s H => (he C fp pins s H).ex) hNd hy hl hosc hN hsw hs) fun D τ H ⟨D3, σ, S, hs, hr, ht, hc⟩ =>
    comp_down ⟨σ, S, _, hs, hr, ht, fun d S' v H' k r l q => hc.nx _ S' _ H' k ((hs.mono k).set r i) l q⟩
end
end E3
namespace E3
open PySem PySem.Spec PyProof.Rows L2 EE
section
variable {K : PySem.W.Frag}
def i3 (g : Int → Int → D) : R3 := fun x y S Q => ∃ i j, x = .int i ∧ y = .int j ∧ Q (g i j) S
def ic3 (C : Int → Int → Prop) (g : Int → Int → D) : R3 := fun x y S Q => ∃ i j, x = .int i ∧ y = .int j ∧ C i j ∧ Q (g i j) S
theorem dn_int {g : Int → Int → Int} : Dn2 K (i3 fun i j => .int (g i j)) (rI0 fun i j => .int (g i j)) := by
  intro Z x y S Q3 v w H Q rx ry l h c
  obtain ⟨i, j, rfl, rfl, q⟩ := h
  cases rx
  cases ry
  exact ⟨i, j, rfl, rfl, c _ S _ H (Kp.refl _ _) (.int _) l q⟩
theorem dn_intB {g : Int → Int → Bool} : Dn2 K (i3 fun i j => .bl (g i j)) (rI0 fun i j => .bl (g i j)) := by
  intro Z x y S Q3 v w H Q rx ry l h c
  obtain ⟨i, j, rfl, rfl, q⟩ := h
  cases rx
  cases ry
  exact ⟨i, j, rfl, rfl, c _ S _ H (Kp.refl _ _) (.bl _) l q⟩
theorem dn_intC {C : Int → Int → Prop} {g : Int → Int → Int} : Dn2 K (ic3 C fun i j => .int (g i j)) (rI C fun i j => .int (g i j)) := by
  intro Z x y S Q3 v w H Q rx ry l h c
  obtain ⟨i, j, rfl, rfl, h, q⟩ := h
  cases rx
  cases ry
  exact ⟨i, j, rfl, rfl, h, c _ S _ H (Kp.refl _ _) (.int _) l q⟩
def addS3 : R3 := fun x y S Q => ∃ i j, x = .str i ∧ y = .str j ∧ i.length + j.length ≤ sizeLine ∧ Q (.str (i ++ j)) S
theorem dn_addS : Dn2 K addS3 (fun x y H Q => ∃ i j, x = .str i ∧ y = .str j ∧ i.length + j.length ≤ sizeLine ∧ Q (.str (i ++ j)) H) := by
  intro Z x y S Q3 v w H Q rx ry l h c
  obtain ⟨i, j, rfl, rfl, h, q⟩ := h
  cases rx
  cases ry
  exact ⟨i, j, rfl, rfl, h, c _ S _ H (Kp.refl _ _) (.str _) l q⟩
def eqI3 : R3 := i3 fun i j => .bl (decide (i = j))
def neI3 : R3 := i3 fun i j => .bl (!decide (i = j))
def eqS3 : R3 := fun x y S Q => ∃ i j, x = .str i ∧ y = .str j ∧ Q (.bl (decide (i = j))) S
def neS3 : R3 := fun x y S Q => ∃ i j, x = .str i ∧ y = .str j ∧ Q (.bl (!decide (i = j))) S
theorem dV_int {i j : Int} : decide (V.int i = V.int j) = decide (i = j) := by rw [dec_int]; rfl
theorem dV_str {i j : Str} : decide (V.str i = V.str j) = decide (i = j) := by
  by_cases h : i = j
  · subst h; simp
  · have : V.str i ≠ V.str j := fun e => h (V.str.inj e)
    simp [h]
theorem dn_eqI : Dn2 K eqI3 rEq := by
  intro Z x y S Q3 v w H Q rx ry l h c
  obtain ⟨i, j, rfl, rfl, q⟩ := h
  cases rx
  cases ry
  refine ⟨rfl, ?_⟩
  rw [dV_int]
  exact c _ S _ H (Kp.refl _ _) (.bl _) l q
theorem dn_neI : Dn2 K neI3 rNe := by
  intro Z x y S Q3 v w H Q rx ry l h c
  obtain ⟨i, j, rfl, rfl, q⟩ := h
  cases rx
  cases ry
  refine ⟨rfl, ?_⟩
  rw [dV_int]
  exact c _ S _ H (Kp.refl _ _) (.bl _) l q
theorem dn_eqS : Dn2 K eqS3 rEq := by
  intro Z x y S Q3 v w H Q rx ry l h c
  obtain ⟨i, j, rfl, rfl, q⟩ := h
  cases rx
  cases ry
  refine ⟨rfl, ?_⟩
  rw [dV_str]
  exact c _ S _ H (Kp.refl _ _) (.bl _) l q
theorem dn_neS : Dn2 K neS3 rNe := by
  intro Z x y S Q3 v w H Q rx ry l h c
  obtain ⟨i, j, rfl, rfl, q⟩ := h
  cases rx
  cases ry
  refine ⟨rfl, ?_⟩
  rw [dV_str]
  exact c _ S _ H (Kp.refl _ _) (.bl _) l q
mutual
inductive Dn (S : Hp3) : D → Dt → Prop where
  | non : Dn S .non .non
  | bl (b : Bool) : Dn S (.bl b) (.bl b)
  | int (i : Int) : Dn S (.int i) (.int i)
  | str (x : Str) : Dn S (.str x) (.str x)
  | tup {ds : List D} {es : List Dt} : Dns S ds es → Dn S (.tup ds) (.tup es)
  | rol {ds : List D} {es : List Dt} : Dns S ds es → Dn S (.rol ds) (.lst es)
  | ref {a : Addr} {ds : List D} {es : List Dt} : S a = some (.lst ds) → Dns S ds es → Dn S (.ref a) (.lst es)
inductive Dns (S : Hp3) : List D → List Dt → Prop where
  | nil : Dns S [] []
  | cons {d : D} {e : Dt} {ds : List D} {es : List Dt} : Dn S d e → Dns S ds es → Dns S (d :: ds) (e :: es)
end
mutual
theorem Dn.down {Z : Zt} {S : Hp3} {H : Hp} (l : Rl K Z S H) : ∀ {d : D} {e : Dt} {v : V}, Dn S d e → Rp K H d v → DR K H e v
  | _, _, _, .non, r => by cases r; exact .non
  | _, _, _, .bl _, r => by cases r; exact .bl _
  | _, _, _, .int _, r => by cases r; exact .int _
  | _, _, _, .str _, r => by cases r; exact .str _
  | _, _, _, .tup h, r => by cases r with | tup p q => exact .tup p (Dns.down l h q)
  | _, _, _, .rol h, r => by cases r with | rol p q => exact .lst p.sq (Dns.down l h q)
  | _, _, _, .ref e h, r => by
    cases r
    obtain ⟨vs, h1, h2⟩ := l.obj _ _ e
    exact .lst (SqL.of h1) (Dns.down l h h2)
theorem Dns.down {Z : Zt} {S : Hp3} {H : Hp} (l : Rl K Z S H) : ∀ {ds : List D} {es : List Dt} {vs : List V}, Dns S ds es → Rps K H ds vs → DRs K H es vs
  | _, _, _, .nil, r => by cases r; exact .nil
  | _, _, _, .cons h t, r => by cases r with | cons p q => exact .cons (Dn.down l h p) (Dns.down l t q)
end
mutual
noncomputable def D.dt : D → Dt
  | .non => .non
  | .bl b => .bl b
  | .int i => .int i
  | .str x => .str x
  | .tup ds => .tup (D.dts ds)
  | .rol ds => .lst (D.dts ds)
  | .ref _ => .non
  | .ty _ => .non
noncomputable def D.dts : List D → List Dt
  | [] => []
  | d :: ds => d.dt :: D.dts ds
end
mutual
noncomputable def D.pure : D → Bool
  | .tup ds => D.pures ds
  | .rol ds => D.pures ds
  | .ref _ => false
  | .ty _ => false
  | _ => true
noncomputable def D.pures : List D → Bool
  | [] => true
  | d :: ds => d.pure && D.pures ds
end
mutual
theorem Dn.of {S : Hp3} : ∀ {d : D}, d.pure = true → Dn S d d.dt
  | .non, _ => .non
  | .bl _, _ => .bl _
  | .int _, _ => .int _
  | .str _, _ => .str _
  | .tup ds, h => by simp only [D.pure] at h; simp only [D.dt]; exact .tup (Dns.of h)
  | .rol ds, h => by simp only [D.pure] at h; simp only [D.dt]; exact .rol (Dns.of h)
  | .ref _, h => by simp [D.pure] at h
  | .ty _, h => by simp [D.pure] at h
theorem Dns.of {S : Hp3} : ∀ {ds : List D}, D.pures ds = true → Dns S ds (D.dts ds)
  | [], _ => .nil
  | d :: ds, h => by
    simp only [D.pures, Bool.and_eq_true] at h
    simp only [D.dts]
    exact .cons (Dn.of h.1) (Dns.of h.2)
end
theorem D.pures_iff : ∀ {ds : List D}, D.pures ds = true ↔ ∀ d ∈ ds, d.pure = true
  | [] => by simp [D.pures]
  | d :: ds => by simp [D.pures, D.pures_iff (ds := ds)]
theorem D.dts_map : ∀ ds : List D, D.dts ds = ds.map D.dt
  | [] => rfl
  | d :: ds => by simp only [D.dts, List.map_cons, D.dts_map ds]
def eqD3 (n : Nat) : R3 := fun x y S Q => ∃ d e, Dn S x d ∧ Dn S y e ∧ deepD d ≤ n ∧ Q (.bl (eqD d e)) S
theorem dn_eqD {n : Nat} : Dn2 K (eqD3 n) (fun x y H Q => ∃ d e, DR K H d x ∧ DR K H e y ∧ deepD d ≤ n ∧ Q (.bl (eqD d e)) H) := by
  intro Z x y S Q3 v w H Q rx ry l h c
  obtain ⟨d, e, h1, h2, hn, q⟩ := h
  exact ⟨d, e, h1.down l rx, h2.down l ry, hn, c _ S _ H (Kp.refl _ _) (.bl _) l q⟩
noncomputable def flatD : D → Bool
  | .non => true
  | .bl _ => true
  | .int _ => true
  | .str _ => true
  | _ => false
noncomputable def vD : D → V
  | .non => .non
  | .bl b => .bl b
  | .int i => .int i
  | .str x => .str x
  | _ => .non
theorem flat_down {H : Hp} {x : D} {v : V} (r : Rp K H x v) (h : flatD x = true) : v = vD x ∧ flatV v = true := by
  cases r <;> first | exact ⟨rfl, rfl⟩ | (simp [flatD] at h)
theorem flats_down {H : Hp} : ∀ {ds : List D} {vs : List V}, Rps K H ds vs → ds.all flatD = true → vs = ds.map vD ∧ vs.all flatV = true
  | _, _, .nil, _ => ⟨rfl, rfl⟩
  | _, _, .cons r t, h => by
    simp only [List.all_cons, Bool.and_eq_true] at h
    obtain ⟨e1, f1⟩ := flat_down r h.1
    obtain ⟨e2, f2⟩ := flats_down t h.2
    subst e1
    subst e2
    exact ⟨rfl, by simp only [List.all_cons, f1, f2, Bool.and_self]⟩
noncomputable def memD (x : D) (ds : List D) : Bool := inV (vD x) (ds.map vD)
def in3 (neg : Bool) : R3 := fun x y S Q => ∃ ds, (IsL S y ds ∨ y = .tup ds) ∧ flatD x = true ∧ ds.all flatD = true ∧ Q (.bl (if neg then !memD x ds else memD x ds)) S
theorem dn_in {neg : Bool} : Dn2 K (in3 neg) (rIn K neg) := by
  intro Z x y S Q3 v w H Q rx ry l h c
  obtain ⟨ds, hy, fx, fd, q⟩ := h
  obtain ⟨e1, f1⟩ := flat_down rx fx
  subst e1
  rcases hy with hy | rfl
  · obtain ⟨a, vs, rfl, h1, h2⟩ := hy.down ry l
    obtain ⟨e2, f2⟩ := flats_down h2 fd
    subst e2
    exact ⟨a, _, rfl, .inl h1, f1, f2, c _ S _ H (Kp.refl _ _) (.bl _) l q⟩
  · cases ry with
    | tup h1 h2 =>
      obtain ⟨e2, f2⟩ := flats_down h2 fd
      subst e2
      exact ⟨_, _, rfl, .inr h1, f1, f2, c _ S _ H (Kp.refl _ _) (.bl _) l q⟩
theorem memD_strs (x : Str) (xs : List Str) : memD (.str x) (xs.map D.str) = decide (x ∈ xs) := by
  unfold memD inV
  induction xs with
  | nil => rfl
  | cons y ys ih =>
    simp only [List.map_cons, List.any_cons, List.mem_cons]
    rw [ih]
    by_cases h : y = x
    · subst h; simp [eqV, vD]
    · have h' : ¬ x = y := fun z => h z.symm
      simp [eqV, vD, h, h']
theorem flat_strs (xs : List Str) : (xs.map D.str).all flatD = true := by
  induction xs with
  | nil => rfl
  | cons y ys ih => simp only [List.map_cons, List.all_cons, ih]; rfl
def ixL3 : R3 := fun x y S Q => ∃ ds i d, IsL S x ds ∧ y = .int i ∧ atI ds i = some d ∧ Q d S
def ixT3 : R3 := fun x y S Q => ∃ ds i d, x = .tup ds ∧ y = .int i ∧ atI ds i = some d ∧ Q d S
def ixS3 : R3 := fun x y S Q => ∃ z i c, x = .str z ∧ y = .int i ∧ z.length ≤ sizeLine ∧ atI z.cps.toList i = some c ∧ Q (.str ⟨#[c]⟩) S
theorem Rps.atI {H : Hp} {ds : List D} {vs : List V} {i : Int} {d : D} (r : Rps K H ds vs) (h : L2.atI ds i = some d) : ∃ v, L2.atI vs i = some v ∧ Rp K H d v := by
  unfold L2.atI at h ⊢
  rw [r.len] at h
  cases e : ixN vs.length i with
  | none => rw [e] at h; cases h
  | some j =>
    rw [e] at h
    exact r.at h
theorem dn_ixL : Dn2 K ixL3 (rIxL K) := by
  intro Z x y S Q3 v w H Q rx ry l h c
  obtain ⟨ds, i, d, h1, rfl, h2, q⟩ := h
  cases ry
  obtain ⟨a, vs, rfl, h3, h4⟩ := h1.down rx l
  obtain ⟨u, h5, h6⟩ := h4.atI h2
  exact ⟨a, vs, i, u, rfl, rfl, h3, h5, c d S u H (Kp.refl _ _) h6 l q⟩
theorem dn_ixT : Dn2 K ixT3 (rIxT K) := by
  intro Z x y S Q3 v w H Q rx ry l h c
  obtain ⟨ds, i, d, rfl, rfl, h2, q⟩ := h
  cases ry
  cases rx with
  | tup h3 h4 =>
    obtain ⟨u, h5, h6⟩ := h4.atI h2
    exact ⟨_, _, i, u, rfl, rfl, h3, h5, c d S u H (Kp.refl _ _) h6 l q⟩
theorem dn_ixS : Dn2 K ixS3 rIxS := by
  intro Z x y S Q3 v w H Q rx ry l h c
  obtain ⟨z, i, k, rfl, rfl, hz, h2, q⟩ := h
  cases ry
  cases rx
  exact ⟨z, i, k, rfl, rfl, hz, h2, c _ S _ H (Kp.refl _ _) (.str _) l q⟩
noncomputable def cutD (xs : List D) (lo hi : Option Int) : List D := (xs.drop (HT.sIx xs.length 0 lo)).take (HT.sIx xs.length xs.length hi - HT.sIx xs.length 0 lo)
theorem Rps.cut {H : Hp} {ds : List D} {vs : List V} (r : Rps K H ds vs) (lo hi : Option Int) : Rps K H (cutD ds lo hi) (cutV vs lo hi) := by
  unfold cutD cutV
  rw [r.len]
  exact (r.drop _).take _
def slL3 : D → Option Int → Option Int → Hp3 → K3 → Prop := fun x lo hi S Q => ∃ ds, IsL S x ds ∧ newL S (cutD ds lo hi) Q
def slT3 : D → Option Int → Option Int → Hp3 → K3 → Prop := fun x lo hi S Q => ∃ ds, x = .tup ds ∧ Q (.tup (cutD ds lo hi)) S
def slS3 : D → Option Int → Option Int → Hp3 → K3 → Prop := fun x lo hi S Q => ∃ z, x = .str z ∧ z.length ≤ sizeLine ∧ Q (.str (textOf (cutT z.cps.toList lo hi))) S
theorem dn_slL : DnS K slL3 (rSlL K) := by
  intro Z x lo hi S Q3 v H Q rx l h c
  obtain ⟨ds, h1, q⟩ := h
  obtain ⟨a, vs, rfl, h3, h4⟩ := h1.down rx l
  exact ⟨a, vs, rfl, h3, newL.down q (h4.cut lo hi) l c⟩
theorem dn_slS : DnS K slS3 rSlS := by
  intro Z x lo hi S Q3 v H Q rx l h c
  obtain ⟨z, rfl, hz, q⟩ := h
  cases rx
  exact ⟨z, rfl, hz, c _ S _ H (Kp.refl _ _) (.str _) l q⟩
def catL3 : R3 := fun x y S Q => ∃ a b ds es, x = .ref a ∧ y = .ref b ∧ S a = some (.lst ds) ∧ S b = some (.lst es) ∧ ds.length + es.length ≤ sizeLine ∧ newL S (ds ++ es) Q
theorem dn_catL : Dn2 K catL3 rCat := by
  intro Z x y S Q3 v w H Q rx ry l h c
  obtain ⟨a, b, ds, es, rfl, rfl, h1, h2, hz, q⟩ := h
  cases rx
  cases ry
  obtain ⟨vs, h3, h4⟩ := l.obj a _ h1
  obtain ⟨ws, h5, h6⟩ := l.obj b _ h2
  exact ⟨a, b, vs, ws, rfl, rfl, h3, h5, by rw [← h4.len, ← h6.len]; exact hz, newL.down q (h4.append h6) l c⟩
def catT3 : R3 := fun x y S Q => ∃ ds es, x = .tup ds ∧ y = .tup es ∧ ds ≠ [] ∧ ds.length + es.length ≤ sizeLine ∧ Q (.tup (ds ++ es)) S
def len3 : List D → Hp3 → K3 → Prop := fun xs S Q => ∃ x ds, xs = [x] ∧ (IsL S x ds ∨ x = .tup ds) ∧ Q (.int ds.length) S
theorem dn_len : DnC K len3 (fun xs H Q => ∃ p ys, xs = [.ref p] ∧ (SqL K H p ys ∨ SqT K H p ys) ∧ Q (.int ys.length) H) := by
  intro Z ds S Q3 vs H Q r l h c
  obtain ⟨x, es, rfl, hx, q⟩ := h
  cases r with
  | cons r rr =>
    cases rr
    rcases hx with hx | rfl
    · obtain ⟨a, ws, rfl, h3, h4⟩ := hx.down r l
      refine ⟨a, ws, rfl, .inl h3, ?_⟩
      rw [← h4.len]
      exact c _ S _ H (Kp.refl _ _) (.int _) l q
    · cases r with
      | tup h3 h4 =>
        refine ⟨_, _, rfl, .inr h3, ?_⟩
        rw [← h4.len]
        exact c _ S _ H (Kp.refl _ _) (.int _) l q
def lenS3 : List D → Hp3 → K3 → Prop := fun xs S Q => ∃ z, xs = [.str z] ∧ z.length ≤ sizeLine ∧ Q (.int z.length) S
theorem dn_lenS : DnC K lenS3 (fun xs H Q => ∃ z, xs = [.str z] ∧ z.length ≤ sizeLine ∧ Q (.int z.length) H) := by
  intro Z ds S Q3 vs H Q r l h c
  obtain ⟨z, rfl, hz, q⟩ := h
  cases r with
  | cons r rr =>
    cases rr
    cases r
    exact ⟨z, rfl, hz, c _ S _ H (Kp.refl _ _) (.int _) l q⟩
def toList3 : List D → Hp3 → K3 → Prop := fun xs S Q => ∃ x ds, xs = [x] ∧ (IsL S x ds ∨ x = .tup ds) ∧ newL S ds Q
theorem dn_toList : DnC K toList3 (fun xs H Q => ∃ p ys, xs = [.ref p] ∧ (SqL K H p ys ∨ SqT K H p ys) ∧ ∀ l, H l = none → Q (.ref l) (upd H l (.lst ys))) := by
  intro Z ds S Q3 vs H Q r l h c
  obtain ⟨x, es, rfl, hx, q⟩ := h
  cases r with
  | cons r rr =>
    cases rr
    rcases hx with hx | rfl
    · obtain ⟨a, ws, rfl, h3, h4⟩ := hx.down r l
      exact ⟨a, ws, rfl, .inl h3, newL.down q h4 l c⟩
    · cases r with
      | tup h3 h4 => exact ⟨_, _, rfl, .inr h3, newL.down q h4 l c⟩
def toTup3 : List D → Hp3 → K3 → Prop := fun xs S Q => ∃ x ds, xs = [x] ∧ (IsL S x ds ∨ x = .tup ds) ∧ Q (.tup ds) S
theorem dn_toTup : DnC K toTup3 (fun xs H Q => ∃ p ys, xs = [.ref p] ∧ ((SqL K H p ys ∧ ∀ l, H l = none → Q (.ref l) (upd H l (.tup ys))) ∨ (SqT K H p ys ∧ Q (.ref p) H))) := by
  intro Z ds S Q3 vs H Q r l h c
  obtain ⟨x, es, rfl, hx, q⟩ := h
  cases r with
  | cons r rr =>
    cases rr
    rcases hx with hx | rfl
    · obtain ⟨a, ws, rfl, h3, h4⟩ := hx.down r l
      exact ⟨a, ws, rfl, .inl ⟨h3, tup.down q h4 l c⟩⟩
    · cases r with
      | tup h3 h4 => exact ⟨_, _, rfl, .inr ⟨h3, c _ S _ H (Kp.refl _ _) (.tup h3 h4) l q⟩⟩
def append3 : D → List D → Hp3 → K3 → Prop := fun x ys S Q => ∃ a ds y, x = .ref a ∧ ys = [y] ∧ S a = some (.lst ds) ∧ ds.length < sizeLine ∧ Q .non (up S a (.lst (ds ++ [y])))
theorem dn_append : DnM K append3 rAppend := by
  intro Z x ds S Q3 v vs H Q rx r l h c
  obtain ⟨a, es, y, rfl, rfl, e, hz, q⟩ := h
  cases rx
  cases r with
  | @cons _ w _ _ r rr =>
    cases rr
    obtain ⟨ws, h1, h2⟩ := l.obj a _ e
    have kk : Kp Z H (upd H a (.lst (ws ++ [w]))) := Kp.at l e
    exact ⟨a, ws, w, rfl, rfl, h1, by rw [← h2.len]; exact hz, c _ _ _ _ kk .non (l.put (o := .lst (es ++ [y])) kk (l.notZ e) ⟨_, upd_same, (h2.mono kk).append (.cons (r.mono kk) .nil)⟩) q⟩
def pop3 : D → List D → Hp3 → K3 → Prop := fun x ys S Q => ∃ a ds y, x = .ref a ∧ ys = [] ∧ S a = some (.lst (ds ++ [y])) ∧ Q y (up S a (.lst ds))
theorem dn_pop : DnM K pop3 rPopS := by
  intro Z x ds S Q3 v vs H Q rx r l h c
  obtain ⟨a, es, y, rfl, rfl, e, q⟩ := h
  cases rx
  cases r
  obtain ⟨ws, h1, h2⟩ := l.obj a _ e
  obtain ⟨us, u, rfl, h3, h4⟩ := h2.snoc_inv
  have kk : Kp Z H (upd H a (.lst us)) := Kp.at l e
  exact ⟨a, us, u, rfl, rfl, h1, c _ _ _ _ kk (h4.mono kk) (l.put (o := .lst es) kk (l.notZ e) ⟨_, upd_same, h3.mono kk⟩) q⟩
def join3 : D → List D → Hp3 → K3 → Prop := fun x ys S Q => ∃ sep y xs, x = .str sep ∧ ys = [y] ∧ IsL S y (xs.map D.str) ∧ (xs.map (·.length)).sum + xs.length * sep.length ≤ 16777216 ∧ Q (.str (Txt.join sep xs)) S
theorem dn_join : DnM K join3 (rJoin K) := by
  intro Z x ds S Q3 v vs H Q rx r l h c
  obtain ⟨sep, y, xs, rfl, rfl, e, hz, q⟩ := h
  cases rx
  cases r with
  | cons r rr =>
    cases rr
    obtain ⟨a, ws, rfl, h3, h4⟩ := e.down r l
    have := h4.strs
    subst this
    exact ⟨sep, a, xs, rfl, rfl, h3, hz, c _ S _ H (Kp.refl _ _) (.str _) l q⟩
end
end E3
namespace E3
open PySem PySem.Spec PyProof.Rows L2 EE
section
variable {prog : Program} {w : World} {A : Around} {E : Value → Shared → Prop} {s : Shared}
theorem getItem_tuple_all {t sl : Addr} {items : Array Value} {vl vu : Value} {lo hi : Option Int} {Q : Value → Shared → Prop} (ht : IsTup s.heap t items) (hs : s.heap.IsSliceOf sl vl vu .none) (pl : IsPart vl lo) (pu : IsPart vu hi)
    (hw : HT.sIx items.size 0 lo = 0 ∧ HT.sIx items.size items.size hi = items.size) (h : Q (.ref t) s) : wpAny (model prog w) A (getItem (.ref t) (.ref sl)) Q E s := by
  obtain ⟨os, hos, hcs, hds⟩ := id hs
  have hTs : s.TypeIs (.ref sl) "slice" := ⟨os, hos, hcs⟩
  obtain ⟨o, ho, hc, hd⟩ := id ht
  unfold getItem
  try with_reducible refine wpAny_holding ?_
  first | refine wpAny_bind (wpAny_pure ?_) | skip
  refine wpAny_bind (wpAny_sequenceKey ht.typeIs (by decide) ?_)
  refine wpAny_bind (wpAny_callSpecial?_slot (name := Str.ofString "__getitem__") ht.typeIs PyProof.Rows.slot_tuple_getitem
    (wpAny_call_entry PyProof.Rows.slot_tuple_getitem ht.typeIs entry_tuple_getitem ?_ (args_tuple_getitem _ _)))
  show wpAny _ _ (Builtin.Tuple.tupleItemsOf (.ref t) >>= _) _ _ s
  refine wpAny_bind (tupleItemsOf_ ht ?_)
  refine wpAny_bind (wpAny_typeOf hTs ?_)
  rw [if_pos (by decide)]
  refine wpAny_bind (HT.sliceApplied_gen hs pl pu ?_)
  have hyes : (((HT.sIx items.size 0 lo : Nat) : Int) == 0 && (1 : Int) == 1 && (HT.sIx items.size items.size hi - HT.sIx items.size 0 lo) == items.size) = true := by
    rw [hw.1, hw.2]
    simp
  show wpAny _ _ (if (((HT.sIx items.size 0 lo : Nat) : Int) == 0 && (1 : Int) == 1 && (HT.sIx items.size items.size hi - HT.sIx items.size 0 lo) == items.size) = true then _ else _) _ _ s
  rw [if_pos hyes]
  refine wpAny_bind (m := Builtin.Tuple.tupleIsExact (Value.ref t)) ?_
  unfold Builtin.Tuple.tupleIsExact
  first
    | refine wpAny_bind (wpAny_typeOf ht.typeIs (wpAny_pure ?_))
    | exact wpAny_bind (wpAny_typeOf ht.typeIs (wpAny_pure ?_))
  rw [if_pos (by decide)]
  exact wpAny_bind (wpAny_rule (wpAny_pure ⟨_, rfl, wpAny_pure h⟩))
end
section
variable {X : Cx}
def rSlTA (K : PySem.W.Frag) : V → Option Int → Option Int → Hp → VK → Prop := fun x lo hi H Q => ∃ a xs, x = .ref a ∧ SqT K H a xs ∧
  ((HT.sIx xs.length 0 lo = 0 ∧ HT.sIx xs.length xs.length hi = xs.length) → Q (.ref a) H) ∧ (¬ (HT.sIx xs.length 0 lo = 0 ∧ HT.sIx xs.length xs.length hi = xs.length) → ∀ p, H p = none → Q (.ref p) (upd H p (.tup (cutV xs lo hi))))
theorem sl_tupA : SlR X (rSlTA X.K) := by
  intro pins s σ H x v vl vu lo hi sl Q I rx hs pl pu h
  obtain ⟨a, xs, rfl, hx, h1, h2⟩ := h
  by_cases hw : HT.sIx xs.length 0 lo = 0 ∧ HT.sIx xs.length xs.length hi = xs.length
  · cases rx
    obtain ⟨its, r, ht, hz⟩ := I.tuple hx
    have hlen : its.toArray.size = xs.length := by rw [List.size_toArray]; exact r.length.symm
    refine ⟨"tuple", _, PyProof.Rows.slot_tuple_getitem.lookup, ht.typeIs, ?_⟩
    refine getItem_tuple_all ht hs pl pu (by rw [hlen]; exact hw) ?_
    exact ⟨.ref a, H, I, rfl, h1 hw⟩
  · exact sl_tup pins s σ H _ v vl vu lo hi sl Q I rx hs pl pu ⟨a, xs, rfl, hx, hw, h2 hw⟩
theorem cutD_all {xs : List D} {lo hi : Option Int} (h : HT.sIx xs.length 0 lo = 0 ∧ HT.sIx xs.length xs.length hi = xs.length) : cutD xs lo hi = xs := by
  unfold cutD
  rw [h.1, h.2, List.drop_zero, Nat.sub_zero, List.take_length]
theorem dn_slT {K : PySem.W.Frag} : DnS K slT3 (rSlTA K) := by
  intro Z x lo hi S Q3 v H Q rx l h c
  obtain ⟨ds, rfl, q⟩ := h
  cases rx with
  | @tup a vs _ h3 h4 =>
    refine ⟨a, vs, rfl, h3, fun e => ?_, fun _ => tup.down q (h4.cut lo hi) l c⟩
    rw [← h4.len] at e
    rw [cutD_all e] at q
    exact c _ S _ H (Kp.refl _ _) (.tup h3 h4) l q
theorem dn_catT {K : PySem.W.Frag} : Dn2 K catT3 (rCatT K) := by
  intro Z x y S Q3 v w H Q rx ry l h c
  obtain ⟨ds, es, rfl, rfl, hn, hz, q⟩ := h
  cases rx with
  | @tup a vs _ h1 h2 =>
    cases ry with
    | @tup b ws _ h3 h4 =>
      refine ⟨a, b, vs, ws, rfl, rfl, h1, h3, ?_, by rw [← h2.len, ← h4.len]; exact hz, fun e => ?_, fun _ => tup.down q (h2.append h4) l c⟩
      · rintro rfl
        cases h2
        exact hn rfl
      · subst e
        cases h4
        rw [List.append_nil] at q
        exact c _ S _ H (Kp.refl _ _) (.tup h1 h2) l q
def TyN (S : Hp3) : D → String → Prop
  | .non, n => n = "NoneType"
  | .bl _, n => n = "bool"
  | .int _, n => n = "int"
  | .str _, n => n = "str"
  | .tup _, n => n = "tuple"
  | .rol _, n => n = "list"
  | .ref a, n => (n = "list" ∧ ∃ ds, S a = some (.lst ds)) ∨ (n = "dict" ∧ ∃ kvs, S a = some (.dic kvs))
  | .ty _, _ => False
inductive TyB (K : PySem.W.Frag) (H : Hp) : V → String → Prop where
  | of {x : V} {n : String} : TyOf K H x (.type n) → TyB K H x n
  | tup {a : Addr} {xs : List V} : SqT K H a xs → TyB K H (.ref a) "tuple"
  | lst {a : Addr} {xs : List V} : SqL K H a xs → TyB K H (.ref a) "list"
theorem call_isB : CallR X (.builtin "isinstance") (fun xs H Q => ∃ x n m b, xs = [x, .ty n] ∧ TyB X.K H x m ∧ PySem.W.kitOne X.K (.type m) (.type n) = some b ∧ Q (.bl b) H) := by
  intro pins s σ H xs us Q I r h
  obtain ⟨x, n, m, b, rfl, ty, e, q⟩ := h
  obtain ⟨u, c, rfl, rx, rc⟩ := vals2 r
  obtain rfl : c = Value.type n := rc
  cases ty with
  | of t => exact isinst_ok I rx t e fun tk => ⟨.bl b, H, I.tok _, rfl, q⟩
  | @tup a xs ht =>
    cases (show u = Value.ref a from rx)
    obtain ⟨_, _, ⟨o, h1, h2, _⟩, _⟩ := I.tuple ht
    exact PySem.W.kia_one PySem.W.kitx_tuple I.kIn ⟨o, h1, h2⟩ e (fun z => nomatch z) fun tk => ⟨.bl b, H, I.tok _, rfl, q⟩
  | @lst a xs ht =>
    cases (show u = Value.ref a from rx)
    obtain ⟨_, _, ⟨o, n, h1, h2, _⟩, _⟩ := I.list ht
    exact PySem.W.kia_one PySem.W.kitx_list I.kIn ⟨o, h1, h2⟩ e (fun z => nomatch z) fun tk => ⟨.bl b, H, I.tok _, rfl, q⟩
theorem TyN.down {K : PySem.W.Frag} {Z : Zt} {S : Hp3} {H : Hp} {x : D} {v : V} {n : String} (h : TyN S x n) (r : Rp K H x v) (l : Rl K Z S H) : TyB K H v n := by
  cases r with
  | non => cases h; exact .of .non
  | bl b => cases h; exact .of (.bl b)
  | int i => cases h; exact .of (.int i)
  | str x => cases h; exact .of (.str x)
  | tup h1 h2 => cases h; exact .tup h1
  | rol h1 h2 => cases h; exact .lst h1.sq
  | ty n => exact h.elim
  | ref a =>
    rcases h with ⟨rfl, ds, e⟩ | ⟨rfl, kvs, e⟩
    · obtain ⟨vs, h1, _⟩ := l.obj a _ e
      exact .lst (SqL.of h1)
    · obtain ⟨vs, h1, _⟩ := l.obj a _ e
      exact .of (.dK h1)
noncomputable def kin (m n : String) : Option Bool := if m = n then some true else if m = "bool" ∧ n = "int" then some true else
  if m ∈ ["NoneType", "bool", "int", "str", "tuple", "list", "dict"] ∧ n ∈ ["bool", "int", "str", "tuple", "list", "dict"] then some false else none
theorem kin_ok {K : PySem.W.Frag} {m n : String} {b : Bool} (h : kin m n = some b) : PySem.W.kitOne K (.type m) (.type n) = some b := by
  by_cases e : m = n
  · subst e
    rw [kin, if_pos rfl] at h
    cases h
    exact kit_same K m
  rw [kin, if_neg e] at h
  by_cases e2 : m = "bool" ∧ n = "int"
  · rw [if_pos e2] at h
    cases h
    obtain ⟨rfl, rfl⟩ := e2
    unfold PySem.W.kitOne PySem.W.kitCls PySem.W.subIn
    dsimp only
    decide +kernel
  rw [if_neg e2] at h
  by_cases e3 : m ∈ ["NoneType", "bool", "int", "str", "tuple", "list", "dict"] ∧ n ∈ ["bool", "int", "str", "tuple", "list", "dict"]
  · rw [if_pos e3] at h
    cases h
    obtain ⟨h1, h2⟩ := e3
    simp only [List.mem_cons, List.not_mem_nil, or_false] at h1 h2
    unfold PySem.W.kitOne PySem.W.kitCls PySem.W.subIn
    dsimp only
    rcases h1 with rfl | rfl | rfl | rfl | rfl | rfl | rfl <;> rcases h2 with rfl | rfl | rfl | rfl | rfl | rfl <;> first | exact absurd rfl e | exact absurd ⟨rfl, rfl⟩ e2 | decide +kernel
  · rw [if_neg e3] at h
    cases h
def isB3 : List D → Hp3 → K3 → Prop := fun xs S Q => ∃ x n m b, xs = [x, .ty n] ∧ TyN S x m ∧ kin m n = some b ∧ Q (.bl b) S
theorem dn_isB {K : PySem.W.Frag} : DnC K isB3 (fun xs H Q => ∃ x n m b, xs = [x, .ty n] ∧ TyB K H x m ∧ PySem.W.kitOne K (.type m) (.type n) = some b ∧ Q (.bl b) H) := by
  intro Z ds S Q3 vs H Q r l h c
  obtain ⟨x, n, m, b, rfl, ty, e, q⟩ := h
  cases r with
  | cons r rr =>
    cases rr with
    | cons r2 rr =>
      cases rr
      cases r2
      exact ⟨_, n, m, b, rfl, ty.down r l, kin_ok e, c _ S _ H (Kp.refl _ _) (.bl _) l q⟩
end
noncomputable abbrev Sp3 := List D → Hp3 → K3 → X3 → Prop
inductive lSp (K : PySem.W.Frag) (sp : Sp3) (vs : List V) (H : Hp) (Q : VK) (E : XK) : Prop where
  | mk (Z : Zt) (ds : List D) (S : Hp3) (Q3 : K3) (E3 : X3) (h1 : Rps K H ds vs) (h2 : Rl K Z S H) (h3 : sp ds S Q3 E3) (h4 : CK K Z H Q3 Q) (h5 : CE3 K Z H E3 E)
structure Cal3 (P : Program) (w : World) (K : PySem.W.Frag) (mg : Str → Option Value) (base : Heap) (k : Nat) (x : Str) (ps : List Str) (sp : Sp3) : Prop where
  ex : ∃ f fd, FnOk P w K mg base (CX1 P w) k f fd ps (lSp K sp) ∧ Binds K fd ps [] ∧ PySem.W.keepIn K (.ref f) = true ∧ mg x = some (.ref f)
noncomputable def start3 (N : List Str) (ds : List D) : St3 := ds.map some ++ List.replicate (N.length - ds.length) none
section
variable {P : Program} {w : World} {K : PySem.W.Frag} {mg : Str → Option Value} {base : Heap}
theorem Cal3.mono {j k : Nat} {x : Str} {ps : List Str} {sp : Sp3} (C : Cal3 P w K mg base j x ps sp) (h : j ≤ k) : Cal3 P w K mg base k x ps sp := by
  obtain ⟨f, fd, F, r⟩ := C.ex
  exact ⟨f, fd, F.mono h, r⟩
theorem Cal3.imp {k : Nat} {x : Str} {ps : List Str} {sp sp' : Sp3} (C : Cal3 P w K mg base k x ps sp) (h : ∀ ds S Q E, sp' ds S Q E → sp ds S Q E) : Cal3 P w K mg base k x ps sp' := by
  obtain ⟨f, fd, F, r⟩ := C.ex
  refine ⟨f, fd, F.imp fun vs H Q E z_1 => by obtain ⟨Z, ds, S, Q3, E3, h1, h2, h3, h4, h5⟩ := z_1; exact ⟨Z, ds, S, Q3, E3, h1, h2, h _ _ _ _ h3, h4, h5⟩, r⟩
def Spl (S A B : Hp3) : Prop := ∀ a, (S a = A a ∧ B a = none) ∨ (A a = none ∧ S a = B a)
def Sub (A B : Hp3) : Prop := ∀ a o, A a = some o → B a = some o
def fr (sp : Sp3) : Sp3 := fun ds S Q E => ∃ S0 F, Spl S S0 F ∧ sp ds S0 (fun d S1 => ∃ S2, Sub S2 S1 ∧ ∀ S', Spl S' S2 F → Q d S') (fun C a S1 => ∃ S2, Sub S2 S1 ∧ ∀ S', Spl S' S2 F → E C a S')
theorem Rl.sub {Z : Zt} {S S' : Hp3} {H : Hp} (l : Rl K Z S H) (h : Sub S' S) : Rl K Z S' H := by
  refine ⟨fun a o e => l.obj a o (h a o e), fun a z => ⟨?_, (l.hid a z).2⟩, l.old⟩
  cases e : S' a with
  | none => rfl
  | some o =>
    have := h a o e
    rw [(l.hid a z).1] at this
    cases this
noncomputable def join (A B : Hp3) : Hp3 := fun a => match A a with
  | some o => some o
  | none => B a
noncomputable abbrev Zt.with (Z : Zt) (H : Hp) (F : Hp3) : Zt := ⟨fun a => Z a ∨ F a ≠ none, H⟩
theorem Rl.frame {Z : Zt} {S S0 F S1 S2 : Hp3} {H H' : Hp} (l : Rl K Z S H) (hs : Spl S S0 F) (k : Kp (Z.with H F) H H') (l1 : Rl K (Z.with H F) S1 H') (h2 : Sub S2 S1) :
    Spl (join S2 F) S2 F ∧ Rl K Z (join S2 F) H' := by
  have l2 := l1.sub h2
  have dis : ∀ a, F a ≠ none → S2 a = none := fun a z => (l2.hid a (.inr z)).1
  refine ⟨fun a => ?_, fun a o e => ?_, fun a z => ?_, l.old.trans (k.unhide fun a z => .inl z)⟩
  · cases e : F a with
    | none =>
      refine .inl ⟨?_, rfl⟩
      unfold join
      cases e2 : S2 a with
      | none => exact e
      | some o => rfl
    | some o =>
      have := dis a (by rw [e]; simp)
      refine .inr ⟨this, ?_⟩
      unfold join
      rw [this]
      exact e
  · unfold join at e
    cases e2 : S2 a with
    | some q =>
      rw [e2] at e
      cases e
      exact l2.obj a _ e2
    | none =>
      rw [e2] at e
      have e : F a = some o := e
      have hne : F a ≠ none := by rw [e]; simp
      have hS : S a = some o := by
        rcases hs a with ⟨_, z⟩ | ⟨_, z⟩
        · exact absurd z hne
        · rw [z]; exact e
      exact (l.obj a o hS).keep k (k.hid a (.inr hne))
  · have z1 := l2.hid a (.inl z)
    have z2 := (l.hid a z).1
    refine ⟨?_, z1.2⟩
    unfold join
    rw [z1.1]
    show F a = none
    rcases hs a with ⟨_, q⟩ | ⟨_, q⟩
    · exact q
    · rw [← q]; exact z2
theorem Cal3.frame {k : Nat} {x : Str} {ps : List Str} {sp : Sp3} (C : Cal3 P w K mg base k x ps sp) : Cal3 P w K mg base k x ps (fr sp) := by
  obtain ⟨f, fd, F0, r⟩ := C.ex
  refine ⟨f, fd, F0.imp fun vs H Q E ⟨Z, ds, S, Q3, E3, h1, l, ⟨S0, F, hs, h3⟩, cq, ce⟩ => ?_, r⟩
  refine ⟨Z.with H F, ds, S0, _, _, h1, ⟨fun a o e => ?_, fun a z => ?_, Kp.refl _ _⟩, h3, ?_, ?_⟩
  · refine l.obj a o ?_
    rcases hs a with ⟨q, _⟩ | ⟨q, _⟩
    · rw [q]; exact e
    · rw [q] at e; cases e
  · rcases z with z | z
    · have z2 := l.hid a z
      refine ⟨?_, z2.2⟩
      rcases hs a with ⟨q, _⟩ | ⟨q, _⟩
      · rw [← q]; exact z2.1
      · exact q
    · rcases hs a with ⟨_, q⟩ | ⟨q, q2⟩
      · exact absurd q z
      · refine ⟨q, ?_⟩
        cases e : F a with
        | none => exact absurd e z
        | some o => exact (l.obj a o (q2.trans e)).there
  · rintro d S1 v H' k1 r1 l1 ⟨S2, hsub, q⟩
    obtain ⟨sp', l'⟩ := l.frame hs k1 l1 hsub
    exact cq d _ v H' (k1.unhide fun a z => .inl z) r1 l' (q _ sp')
  · rintro C a S1 H' k1 l1 ha ⟨S2, hsub, q⟩
    obtain ⟨sp', l'⟩ := l.frame hs k1 l1 hsub
    exact ce C a _ H' (k1.unhide fun a z => .inl z) l' ha (q _ sp')
theorem spl_emp (S : Hp3) : Spl S emp S := fun _ => .inr ⟨rfl, rfl⟩
theorem spl_emp_eq {S F : Hp3} (h : Spl S emp F) : S = F := by
  funext a
  rcases h a with ⟨q, z⟩ | ⟨_, q⟩
  · rw [q, z]; rfl
  · exact q
theorem sub_emp (S : Hp3) : Sub emp S := fun a o e => (nomatch e)
noncomputable def one (p : Addr) (o : O) : Hp3 := fun a => if a = p then some o else none
theorem spl_one {S F : Hp3} {p : Addr} {o : O} (h : Spl S (one p o) F) : F p = none ∧ S = up F p o := by
  have hp : F p = none := by
    rcases h p with ⟨_, z⟩ | ⟨q, _⟩
    · exact z
    · simp [one] at q
  refine ⟨hp, funext fun a => ?_⟩
  by_cases e : a = p
  · subst e
    rw [up_same]
    rcases h a with ⟨q, _⟩ | ⟨q, _⟩
    · rw [q]; simp [one]
    · simp [one] at q
  · rw [up_ne e]
    rcases h a with ⟨q, z⟩ | ⟨_, q⟩
    · rw [q, z]; simp [one, e]
    · exact q
theorem sub_one {S : Hp3} {p : Addr} {o : O} (h : S p = some o) : Sub (one p o) S := fun a u e => by
  unfold one at e
  split at e
  · subst a; cases e; exact h
  · cases e
def vS (A : List D → (D → Prop) → Prop) : Sp3 := fun ds S Q _ => A ds fun d => Q d S
def lSt (A : List D → (List D → Prop) → Prop) : Sp3 := fun ds S Q _ => A ds fun ys => newL S ys Q
variable {x : Str} {st : Stmt} {N ps : List Str} {k : Nat}
noncomputable abbrev Zt.at (Z : Zt) (H : Hp) : Zt := ⟨Z.p, H⟩
theorem Rl.into {Z : Zt} {S : Hp3} {H : Hp} (l : Rl K Z S H) : Rl K (Z.at H) S H := ⟨l.obj, l.hid, Kp.refl _ _⟩
theorem Rl.out {Z : Zt} {S S' : Hp3} {H H' : Hp} (l' : Rl K (Z.at H) S' H') (l : Rl K Z S H) (k : Kp (Z.at H) H H') : Rl K Z S' H' := ⟨l'.obj, l'.hid, l.old.trans (k.unhide fun _ z => z)⟩
noncomputable def zx0 {X : Cx} (Z : Zt) (H : Hp) : ZX X NoX := ZX.no X (Z.at H)
theorem _root_.EE.Has.cal3 {sp : Sp3} (h : Has K mg x st ps) (S : FnScope N ps (defScope st)) (len : ∀ vs H Q E, sp vs H Q E → vs.length = ps.length)
    (hbody : ∀ (f : Addr) (cdv : Value) (A : Around) (outer : List Env) (s : Shared) (H : Hp) (E : XK) (ds : List D) (S : Hp3) (Q : K3) (E3 : X3), Room k (A.deeper (envOfC x (defScope st) s.heap.objs.size f cdv)) → sp ds S Q E3 →
      ∃ t Q', PSs3 (cxOf (CX1 P w) P w K mg base N x (defScope st) f cdv A outer s H E).nox NoX (defBody st) t ∧ t { nx := fun _ S' => Q' .non S', rt := Q' } (start3 N ds) S ∧ ∀ d S', Q' d S' → Q d S') : Cal3 P w K mg base (k + 1) x ps sp := by
  obtain ⟨f, fd, F, b, m⟩ := h.ex
  obtain ⟨oc, od, kV, doc, pm, an, cdv, ct, osl, rfl, lk, hcd⟩ := F.ex
  refine ⟨f, _, fn_of lk hcd S (fun vs H Q E z_2 => by obtain ⟨Z, ds, S, Q3, E3, h1, _, h3, _, _⟩ := z_2; rw [← h1.len]; exact len _ _ _ _ h3) fun A outer s H vs Q E hr ⟨Z, ds, S3, Q3, E3, h1, h2, h3, h4, _⟩ => ?_, b, F.kp, m⟩
  obtain ⟨t, Q', ht, q, hw⟩ := hbody f cdv A outer s H E ds S3 Q3 E3 hr h3
  refine ⟨_, (ht (zx0 Z H)).nox, _, start3 N ds, S3, ?_, h2.into, q, ⟨?_, ?_, ?_, ?_⟩⟩
  · unfold start3 L2.start
    rw [h1.len]
    exact paired_append (SR.ofRps h1) (SR.nones _)
  · intro σ S' τ H' kk _ l q'
    exact h4 .non S' .non H' (kk.unhide fun _ z => z) .non (l.out h2 kk) (hw _ _ q')
  · exact fun _ _ _ _ _ _ _ z => z
  · exact fun _ _ _ _ _ _ _ z => z
  · exact fun d S' v H' kk r l q' => h4 d S' v H' (kk.unhide fun _ z => z) r (l.out h2 kk) (hw _ _ q')
theorem _root_.EE.Has.val {A : List D → (D → Prop) → Prop} (h : Has K mg x st ps) (S : FnScope N ps (defScope st)) (len : ∀ ds q, A ds q → ds.length = ps.length)
    (hbody : ∀ (f : Addr) (cdv : Value) (Ar : Around) (outer : List Env) (s : Shared) (H : Hp) (E : XK) (ds : List D) (q : D → Prop), Room k (Ar.deeper (envOfC x (defScope st) s.heap.objs.size f cdv)) → A ds q →
      ∃ t, PSs3 (cxOf (CX1 P w) P w K mg base N x (defScope st) f cdv Ar outer s H E).nox NoX (defBody st) t ∧ t { nx := fun _ _ => q .non, rt := fun d _ => q d } (start3 N ds) emp) : Cal3 P w K mg base (k + 1) x ps (vS A) := by
  have C : Cal3 P w K mg base (k + 1) x ps (fun ds S Q E => S = emp ∧ ∃ q, A ds q ∧ ∀ d S', q d → Q d S') := by
    refine h.cal3 S (fun vs H Q E z_3 => by obtain ⟨_, q, z, _⟩ := z_3; exact len _ _ z) fun f cdv Ar outer s H E ds S3 Q E3 hr z => ?_
    obtain ⟨rfl, q, z, hq⟩ := z
    obtain ⟨t, h1, h2⟩ := hbody f cdv Ar outer s H E ds _ hr z
    exact ⟨t, fun d _ => q d, h1, h2, hq⟩
  exact C.frame.imp fun ds S Q E z => ⟨emp, S, spl_emp S, rfl, _, z, fun d S1 hq => ⟨emp, sub_emp _, fun S' h => spl_emp_eq h ▸ hq⟩⟩
theorem _root_.EE.Has.lst {A : List D → (List D → Prop) → Prop} (h : Has K mg x st ps) (S : FnScope N ps (defScope st)) (len : ∀ ds q, A ds q → ds.length = ps.length)
    (hbody : ∀ (f : Addr) (cdv : Value) (Ar : Around) (outer : List Env) (s : Shared) (H : Hp) (E : XK) (ds : List D) (q : List D → Prop), Room k (Ar.deeper (envOfC x (defScope st) s.heap.objs.size f cdv)) → A ds q →
      ∃ t, PSs3 (cxOf (CX1 P w) P w K mg base N x (defScope st) f cdv Ar outer s H E).nox NoX (defBody st) t ∧ t { nx := fun _ _ => False, rt := fun d S' => ∃ p ys, d = .ref p ∧ S' p = some (.lst ys) ∧ q ys } (start3 N ds) emp) : Cal3 P w K mg base (k + 1) x ps (lSt A) := by
  have C : Cal3 P w K mg base (k + 1) x ps (fun ds S Q E => S = emp ∧ ∃ q, A ds q ∧ ∀ d S', (∃ p ys, d = .ref p ∧ S' p = some (.lst ys) ∧ q ys) → Q d S') := by
    refine h.cal3 S (fun vs H Q E z_4 => by obtain ⟨_, q, z, _⟩ := z_4; exact len _ _ z) fun f cdv Ar outer s H E ds S3 Q E3 hr z => ?_
    obtain ⟨rfl, q, z, hq⟩ := z
    obtain ⟨t, h1, h2⟩ := hbody f cdv Ar outer s H E ds _ hr z
    refine ⟨t, fun d S' => ∃ p ys, d = .ref p ∧ S' p = some (.lst ys) ∧ q ys, h1, ?_, hq⟩
    have e : (fun (_ : St3) (_ : Hp3) => False) = fun (_ : St3) (S' : Hp3) => ∃ p ys, D.non = .ref p ∧ S' p = some (.lst ys) ∧ q ys := by
      funext _ S'
      refine propext ⟨False.elim, fun z => ?_⟩
      obtain ⟨p, ys, z, _⟩ := z
      cases z
    rw [← e]
    exact h2
  refine C.frame.imp fun ds S Q E z => ⟨emp, S, spl_emp S, rfl, _, z, fun d S1 ⟨p, ys, e, hp, hq⟩ => ⟨one p (.lst ys), sub_one hp, fun S' h => ?_⟩⟩
  obtain ⟨h1, rfl⟩ := spl_one h
  subst e
  exact hq p h1
section
variable {X : Cx} {CX : CXT} {k : Nat} {f C : Addr} {fd : FuncData} {ps : List Str} {sp : Sp} {dvs : List V} {ds : List Value} {E : L2.St → XK} {x : Str} {p pos : Pos} {e : Expr} {es : List Expr} {t : TA}
theorem pe_callA (F : FnOk X.prog X.w X.K X.mg X.base CX k f fd ps sp) (hr : Room k X.A) (hg : Gl X x) (hm : X.mg x = some (.ref f)) (hk : PySem.W.keepIn X.K (.ref f) = true) (hb : Binds X.K fd ps ds) (hd : Vals dvs ds) (hx : ∀ τ, PassesAt CX X (E τ) τ)
    (ha : PA X (e :: es) t) (hdb : (x == ("__debug__" : Str)) = false := by decide) (he : starEach (e :: es) X.env = (false, eval e X.env) :: starEach es X.env := by rfl) (hpl : (backTo pos (starEach es X.env)).any (·.1) = false := by rfl) :
    PE X (.Call (.Name x p) (e :: es) [] pos) (fun τ H Q => t τ H fun vs H1 => sp (vs ++ dvs) H1 Q (E τ)) := by
  intro pins s σ H Q I h
  refine wpAny_Call_Name_kw (ld_glob I hg hm ?_ hdb)
  refine PySem.W.callWith_K (h₀ := X.base) I.ok.mod.kin hk (thn (ha pos pins s σ H _ I h) fun us s1 ⟨vs, H1, I1, r, q⟩ => ⟨I1.kIn, ?_⟩) he hpl
  have r2 : Vals (vs ++ dvs) (us ++ ds) := r.append hd
  have hl : (us ++ ds).length = ps.length := by rw [← r2.length]; exact F.len _ _ _ _ q
  refine wpAny_call (codeAny_mono (F.run X.A X.stack s1 H1 ⟨us, []⟩ (us ++ ds) (vs ++ dvs) Q (E σ) hr I1.env0 (hb s1 us I1.kIn hl) r2 q) fun r s' hq => ?_)
  cases r with
  | error e => exact hx σ pins H1 s1 e s' I1 hq
  | ok fl =>
    cases fl with
    | ret u => exact I1.after hq
    | next => exact False.elim hq
    | brk => exact False.elim hq
    | cont => exact False.elim hq
end
def call3 (sp : Sp3) (W3 : W3T) (t : TA3) : TE3 := fun σ S Q => t σ S fun ds S1 => sp ds S1 Q (W3 σ)
variable {X : Cx} {W3 : W3T} {y : Str} {pos p : Pos} {e : Expr} {es : List Expr} {t : TA3} {sp : Sp3}
theorem e_call (C : Cal3 X.prog X.w X.K X.mg X.base k y ps sp) (hr : Room k X.A) (hg : Gl X y) (ha : PA3 X W3 (e :: es) t)
    (hdb : (y == ("__debug__" : Str)) = false := by decide) (he : starEach (e :: es) X.env = (false, eval e X.env) :: starEach es X.env := by rfl) (hpl : (backTo pos (starEach es X.env)).any (·.1) = false := by rfl) :
    PE3 X W3 (.Call (.Name y p) (e :: es) [] pos) (call3 sp W3 t) := by
  obtain ⟨f, fd, F, b, kp, m⟩ := C.ex
  refine fun Z => PE.imp (pe_callA F hr hg m kp b .nil Z.pass (ha Z) hdb he hpl) fun τ H Q ⟨σ, S, Q3, hs, hr, ht, hc⟩ => ?_
  refine ⟨σ, S, _, hs, hr, ht, fun ds S1 vs H1 k1 r1 l1 q1 => ?_⟩
  exact ⟨Z.z, ds, S1, Q3, W3 σ, by rw [List.append_nil]; exact r1, l1, q1, hc.mono k1, fun C a S2 H2 k2 l2 ha z => Z.ce σ τ C a S2 H2 (hs.mono (k1.trans k2)) l2 ha z⟩
end
end E3
namespace E3
open PySem PySem.Spec PyProof.Rows L2 EE
section
variable {σ : St3} {S : Hp3} {Q : K3} {QT : Bool → Hp3 → Prop} {QA : List D → Hp3 → Prop} {QO : Option Int → Hp3 → Prop} {ta tb te : TE3} {tA tB : TT3} {t u : TS3} {al : TA3} {r : R3} {n b c : St3 → Hp3 → Prop} {rt : K3} {i : Nat}
theorem j_seq (h : t ⟨u ⟨n, rt, b, c⟩, rt, b, c⟩ σ S) : seq3 t u ⟨n, rt, b, c⟩ σ S := h
theorem j_next (h : n σ S) : next3 ⟨n, rt, b, c⟩ σ S := h
theorem j_drop (h : te σ S fun _ S1 => n σ S1) : drop3 te ⟨n, rt, b, c⟩ σ S := h
theorem j_ret (h : te σ S rt) : ret3 te ⟨n, rt, b, c⟩ σ S := h
theorem j_set (h : te σ S fun x S1 => n (σ.set i (some x)) S1) : set3 i te ⟨n, rt, b, c⟩ σ S := h
theorem j_asg {g : TG3} (h : te σ S fun x S1 => g x σ S1 n) : asg3 te g ⟨n, rt, b, c⟩ σ S := h
theorem j_ei {k : Int} {P : Int → Prop} (h : P k) : ∃ b, D.int k = .int b ∧ P b := ⟨k, rfl, h⟩
theorem j_ifs (h : tA σ S fun b' S1 => if b' = true then t ⟨n, rt, b, c⟩ σ S1 else u ⟨n, rt, b, c⟩ σ S1) : ifs3 tA t u ⟨n, rt, b, c⟩ σ S := h
theorem j_name {v : D} {Qs : St3 → Hp3 → Prop} (h : Qs (σ.set i (some v)) S) : name3 i v σ S Qs := h
theorem j_v {d : D} (h : σ[i]? = some (some d)) (q : Q d S) : v3 i σ S Q := ⟨d, h, q⟩
theorem j_c {d : D} (q : Q d S) : c3 d σ S Q := q
theorem j_o (h : ta σ S fun x S1 => tb σ S1 fun y S2 => r x y S2 Q) : o3 r ta tb σ S Q := h
theorem j_i3 {g : Int → Int → D} {k j : Int} (q : Q (g k j) S) : i3 g (.int k) (.int j) S Q := ⟨k, j, rfl, rfl, q⟩
theorem j_mod {g : Int → Int → D} {k j : Int} (h : 0 < j) (q : Q (g k j) S) : ic3 (fun _ j => 0 < j) g (.int k) (.int j) S Q := ⟨k, j, rfl, rfl, h, q⟩
theorem j_div {g : Int → Int → D} {k j : Int} (h : 0 < j ∧ j < 1073741824) (q : Q (g k j) S) : ic3 CDiv g (.int k) (.int j) S Q := ⟨k, j, rfl, rfl, h, q⟩
theorem j_addS {x y : Str} (h : x.length + y.length ≤ sizeLine) (q : Q (.str (x ++ y)) S) : addS3 (.str x) (.str y) S Q := ⟨x, y, rfl, rfl, h, q⟩
theorem j_eqI {k j : Int} (q : Q (.bl (decide (k = j))) S) : eqI3 (.int k) (.int j) S Q := ⟨k, j, rfl, rfl, q⟩
theorem j_neI {k j : Int} (q : Q (.bl (!decide (k = j))) S) : neI3 (.int k) (.int j) S Q := ⟨k, j, rfl, rfl, q⟩
theorem j_eqS {k j : Str} (q : Q (.bl (decide (k = j))) S) : eqS3 (.str k) (.str j) S Q := ⟨k, j, rfl, rfl, q⟩
theorem j_neS {k j : Str} (q : Q (.bl (!decide (k = j))) S) : neS3 (.str k) (.str j) S Q := ⟨k, j, rfl, rfl, q⟩
theorem j_test (h : te σ S fun x S' => ∃ k, x = .bl k ∧ QT k S') : test3 te σ S QT := h
theorem j_eb {k : Bool} {P : Bool → Prop} (h : P k) : ∃ b, D.bl k = .bl b ∧ P b := ⟨k, rfl, h⟩
theorem j_truth (h : te σ S fun x S1 => ∃ k, Tru S1 x k ∧ QT k S1) : truth3 te σ S QT := h
theorem j_truL {a : Addr} {ds : List D} {P : Bool → Prop} (hS : S a = some (.lst ds)) (h : P (!ds.isEmpty)) : ∃ k, Tru S (.ref a) k ∧ P k := ⟨_, .inl ⟨ds, hS, rfl⟩, h⟩
theorem j_and (h : tA σ S fun c' S1 => if c' = true then tB σ S1 QT else QT false S1) : and3 tA tB σ S QT := h
theorem j_or (h : tA σ S fun c' S1 => if c' = true then QT true S1 else tB σ S1 QT) : or3 tA tB σ S QT := h
theorem j_not (h : tA σ S fun c' S1 => QT (!c') S1) : not3 tA σ S QT := h
theorem j_andv (h : ta σ S fun x S1 => ∃ c', x = .bl c' ∧ if c' = true then tb σ S1 Q else Q (.bl false) S1) : andv3 ta tb σ S Q := h
theorem j_nil (h : QA [] S) : nil3 σ S QA := h
theorem j_cons (h : te σ S fun x S1 => al σ S1 fun xs S2 => QA (x :: xs) S2) : cons3 te al σ S QA := h
theorem j_tup (h : al σ S fun xs S1 => xs.length ≤ sizeLine ∧ Q (.tup xs) S1) : tup3 al σ S Q := h
theorem j_lst (h : al σ S fun xs S1 => xs.length ≤ sizeLine ∧ newL S1 xs Q) : lst3 al σ S Q := h
theorem j_sz {α : Type} {xs : List α} {P : Prop} (h : xs.length ≤ sizeLine) (q : P) : xs.length ≤ sizeLine ∧ P := ⟨h, q⟩
theorem j_cb {f : List D → Hp3 → K3 → Prop} (h : al σ S fun vs S1 => f vs S1 Q) : cb3 f al σ S Q := h
theorem j_call {sp : Sp3} {W3 : W3T} (h : al σ S fun ds S1 => sp ds S1 Q (W3 σ)) : call3 sp W3 al σ S Q := h
theorem j_bm {T : String} {m : D → List D → Hp3 → K3 → Prop} (h : te σ S fun x S1 => TyD T x S1 ∧ al σ S1 fun xs S2 => m x xs S2 Q) : bm3 T m te al σ S Q := h
theorem j_bm0 {T : String} {m : D → List D → Hp3 → K3 → Prop} (h : te σ S fun x S1 => TyD T x S1 ∧ m x [] S1 Q) : bm03 T m te σ S Q := h
theorem j_tyL {a : Addr} {ds : List D} {P : Prop} (h : S a = some (.lst ds)) (q : P) : TyD "list" (.ref a) S ∧ P := ⟨.inr (.inl ⟨rfl, ds, .inl ⟨a, rfl, h⟩⟩), q⟩
theorem j_tyS {z : Str} {P : Prop} (q : P) : TyD "str" (.str z) S ∧ P := ⟨.inl ⟨rfl, z, rfl⟩, q⟩
theorem j_append {a : Addr} {ds : List D} {y : D} (h : S a = some (.lst ds)) (hz : ds.length < sizeLine) (q : Q .non (up S a (.lst (ds ++ [y])))) : append3 (.ref a) [y] S Q := ⟨a, ds, y, rfl, rfl, h, hz, q⟩
theorem j_pop {a : Addr} {ds : List D} {y : D} (h : S a = some (.lst (ds ++ [y]))) (q : Q y (up S a (.lst ds))) : pop3 (.ref a) [] S Q := ⟨a, ds, y, rfl, rfl, h, q⟩
theorem j_ixT {ds : List D} {k : Int} {d : D} (h : atI ds k = some d) (q : Q d S) : ixT3 (.tup ds) (.int k) S Q := ⟨ds, k, d, rfl, rfl, h, q⟩
theorem j_ixL {a : Addr} {ds : List D} {k : Int} {d : D} (hS : S a = some (.lst ds)) (h : atI ds k = some d) (q : Q d S) : ixL3 (.ref a) (.int k) S Q := ⟨ds, k, d, .inl ⟨a, rfl, hS⟩, rfl, h, q⟩
theorem j_ixR {ds : List D} {k : Int} {d : D} (h : atI ds k = some d) (q : Q d S) : ixL3 (.rol ds) (.int k) S Q := ⟨ds, k, d, .inr rfl, rfl, h, q⟩
theorem j_ixS {z : Str} {k : Int} {cp : Nat} (hz : z.length ≤ sizeLine) (h : atI z.cps.toList k = some cp) (q : Q (.str ⟨#[cp]⟩) S) : ixS3 (.str z) (.int k) S Q := ⟨z, k, cp, rfl, rfl, hz, h, q⟩
theorem j_lenL {a : Addr} {ds : List D} (hS : S a = some (.lst ds)) (q : Q (.int ds.length) S) : len3 [.ref a] S Q := ⟨_, ds, rfl, .inl (.inl ⟨a, rfl, hS⟩), q⟩
theorem j_lenR {ds : List D} (q : Q (.int ds.length) S) : len3 [.rol ds] S Q := ⟨_, ds, rfl, .inl (.inr rfl), q⟩
theorem j_lenT {ds : List D} (q : Q (.int ds.length) S) : len3 [.tup ds] S Q := ⟨_, ds, rfl, .inr rfl, q⟩
theorem j_lenS {z : Str} (hz : z.length ≤ sizeLine) (q : Q (.int z.length) S) : lenS3 [.str z] S Q := ⟨z, rfl, hz, q⟩
theorem j_toListT {ds : List D} (q : newL S ds Q) : toList3 [.tup ds] S Q := ⟨_, ds, rfl, .inr rfl, q⟩
theorem j_toTupL {a : Addr} {ds : List D} (hS : S a = some (.lst ds)) (q : Q (.tup ds) S) : toTup3 [.ref a] S Q := ⟨_, ds, rfl, .inl (.inl ⟨a, rfl, hS⟩), q⟩
theorem j_isB {x : D} {m k : String} {b' : Bool} (h : TyN S x m) (hk : kin m k = some b') (q : Q (.bl b') S) : isB3 [x, .ty k] S Q := ⟨x, k, m, b', rfl, h, hk, q⟩
theorem j_sl {f : D → Option Int → Option Int → Hp3 → K3 → Prop} {tl th : TO3} (h : te σ S fun x S1 => tl σ S1 fun l S2 => th σ S2 fun u' S3 => f x l u' S3 Q) : sl3 f te tl th σ S Q := h
theorem j_nopart (h : QO none S) : nopart3 σ S QO := h
theorem j_part (h : te σ S fun x S1 => ∃ k, x = .int k ∧ QO (some k) S1) : part3 te σ S QO := h
theorem j_slL {a : Addr} {ds : List D} {lo hi : Option Int} (hS : S a = some (.lst ds)) (q : newL S (cutD ds lo hi) Q) : slL3 (.ref a) lo hi S Q := ⟨ds, .inl ⟨a, rfl, hS⟩, q⟩
theorem j_slT {ds : List D} {lo hi : Option Int} (q : Q (.tup (cutD ds lo hi)) S) : slT3 (.tup ds) lo hi S Q := ⟨ds, rfl, q⟩
theorem j_slS {z : Str} {lo hi : Option Int} (hz : z.length ≤ sizeLine) (q : Q (.str (textOf (cutT z.cps.toList lo hi))) S) : slS3 (.str z) lo hi S Q := ⟨z, rfl, hz, q⟩
theorem j_catL {a a' : Addr} {ds es : List D} (h : S a = some (.lst ds)) (h' : S a' = some (.lst es)) (hz : ds.length + es.length ≤ sizeLine) (q : newL S (ds ++ es) Q) : catL3 (.ref a) (.ref a') S Q := ⟨a, a', ds, es, rfl, rfl, h, h', hz, q⟩
theorem j_catT {ds es : List D} (hn : ds ≠ []) (hz : ds.length + es.length ≤ sizeLine) (q : Q (.tup (ds ++ es)) S) : catT3 (.tup ds) (.tup es) S Q := ⟨ds, es, rfl, rfl, hn, hz, q⟩
theorem j_comp {wi : TI3} {js : List Nat} (h : wi σ S fun ds Al S1 => ∃ W : Nat → List D → Hp3 → Prop, W 0 [] S1 ∧ (∀ i ys S, W i ys S → Al S ∧ ys.length < sizeLine) ∧
  (∀ i d ys S, ds[i]? = some d → W i ys S → te (some d :: pick3 σ js) S fun y S' => W (i + 1) (ys ++ [y]) S') ∧ ∀ ys S, W ds.length ys S → newL S ys Q) : comp3 wi te js σ S Q := h
theorem comp_map {js : List Nat} {ds : List D} {Al : Hp3 → Prop} {S1 : Hp3} (f : Nat → D) (hz : ds.length ≤ 10000) (hA : Al S1)
    (h : ∀ i d, ds[i]? = some d → ∀ P : K3, P (f i) S1 → te (some d :: pick3 σ js) S1 P) (q : newL S1 ((List.range ds.length).map f) Q) :
    ∃ W : Nat → List D → Hp3 → Prop, W 0 [] S1 ∧ (∀ i ys S, W i ys S → Al S ∧ ys.length < sizeLine) ∧
  (∀ i d ys S, ds[i]? = some d → W i ys S → te (some d :: pick3 σ js) S fun y S' => W (i + 1) (ys ++ [y]) S') ∧ ∀ ys S, W ds.length ys S → newL S ys Q := by
  refine ⟨fun i ys S => i ≤ ds.length ∧ ys = (List.range i).map f ∧ S = S1, ⟨Nat.zero_le _, rfl, rfl⟩, ?_, ?_, ?_⟩
  · rintro i ys S ⟨hi, rfl, rfl⟩
    refine ⟨hA, ?_⟩
    rw [List.length_map, List.length_range]
    exact Nat.lt_of_le_of_lt (Nat.le_trans hi hz) (by decide)
  · rintro i d ys S hd ⟨hi, rfl, rfl⟩
    refine h i d hd _ ⟨(List.getElem?_eq_some_iff.mp hd).1, ?_, rfl⟩
    rw [List.range_succ, List.map_append]
    rfl
  · rintro ys S ⟨_, rfl, rfl⟩
    exact q
theorem j_for {wi : TI3} {g : TG3} (h : wi σ S fun ds Al S1 => ∃ W : Nat → St3 → Hp3 → Prop, W 0 σ S1 ∧ (∀ i σ S, W i σ S → Al S) ∧
  (∀ i d σ S, ds[i]? = some d → W i σ S → g d σ S fun σ2 S2 => t ⟨W (i + 1), rt, n, W (i + 1)⟩ σ2 S2) ∧ ∀ σ S, W ds.length σ S → n σ S) : for3 wi g t ⟨n, rt, b, c⟩ σ S := h
theorem j_while (W : Nat → St3 → Hp3 → Prop) (m : Nat) (h0 : W m σ S) (h : ∀ m σ S, W m σ S → tA σ S fun b S1 => if b = true then t ⟨fun σ' S' => ∃ m', m' < m ∧ W m' σ' S', rt, n, fun σ' S' => ∃ m', m' < m ∧ W m' σ' S'⟩ σ S1 else n σ S1) :
    while3 tA t ⟨n, rt, b, c⟩ σ S := ⟨W, ⟨m, h0⟩, h⟩
noncomputable abbrev RI := List D → (Hp3 → Prop) → Hp3 → Prop
variable {R : RI}
def litA (R : RI) (x : D) (S : Hp3) : Prop := (∃ a ds, x = .ref a ∧ S a = some (.lst ds) ∧ R ds (fun S => S a = some (.lst ds)) S) ∨ ∃ ds, x = .rol ds ∧ R ds (fun _ => True) S
theorem j_iList (h : te σ S fun x S1 => litA R x S1) : iL3 te σ S R := h
theorem j_iL {a : Addr} {ds : List D} (hS : S a = some (.lst ds)) (q : R ds (fun S => S a = some (.lst ds)) S) : litA R (.ref a) S := .inl ⟨a, ds, rfl, hS, q⟩
def titA (R : RI) (x : D) (S : Hp3) : Prop := ∃ ds, x = .tup ds ∧ R ds (fun _ => True) S
theorem j_iTup (h : te σ S fun x S1 => titA R x S1) : iT3 te σ S R := h
theorem j_iT {ds : List D} (q : R ds (fun _ => True) S) : titA R (.tup ds) S := ⟨ds, rfl, q⟩
def sitA (R : RI) (x : D) (S : Hp3) : Prop := ∃ z, x = .str z ∧ R (signs z) (fun _ => True) S
theorem j_iStr (h : te σ S fun x S1 => sitA R x S1) : iS3 te σ S R := h
theorem j_iS {z : Str} (q : R (signs z) (fun _ => True) S) : sitA R (.str z) S := ⟨z, rfl, q⟩
def rngA (R : RI) (vs : List D) (S : Hp3) : Prop := ∃ j : Int, vs = [.int j] ∧ -(2 ^ 62) ≤ j ∧ j < 2 ^ 62 ∧ R (nums 0 j.toNat) (fun _ => True) S
theorem j_iR1 (h : al σ S fun vs S1 => rngA R vs S1) : iR1 al σ S R := h
theorem j_rng {j : Int} (h1 : -(2 ^ 62) ≤ j ∧ j < 2 ^ 62) (q : R (nums 0 j.toNat) (fun _ => True) S) : rngA R [.int j] S := ⟨j, rfl, h1.1, h1.2, q⟩
def setA (v : D) (Qs : St3 → Hp3 → Prop) (σ : St3) (o i : D) (S : Hp3) : Prop := ∃ p xs k j, o = .ref p ∧ i = .int k ∧ S p = some (.lst xs) ∧ ixN xs.length k = some j ∧ Qs σ (up S p (.lst (xs.set j v)))
theorem j_setL {v : D} {Qs : St3 → Hp3 → Prop} (h : te σ S fun o S1 => ta σ S1 fun i S2 => setA v Qs σ o i S2) : setL3 te ta v σ S Qs := h
theorem j_esL {a : Addr} {xs : List D} {k : Int} {j : Nat} {v : D} {Qs : St3 → Hp3 → Prop} (hS : S a = some (.lst xs)) (hj : ixN xs.length k = some j) (q : Qs σ (up S a (.lst (xs.set j v)))) : setA v Qs σ (.ref a) (.int k) S := ⟨a, xs, k, j, rfl, rfl, hS, hj, q⟩
def dgetA (Q : K3) (x y : D) (S : Hp3) : Prop := ∃ a kvs k v, x = .ref a ∧ S a = some (.dic kvs) ∧ y = kD k ∧ valD kvs k = some v ∧ Q v S
theorem j_dget (h : te σ S fun x S1 => ta σ S1 fun y S2 => dgetA Q x y S2) : dget3 te ta σ S Q := h
theorem j_dgetS {a : Addr} {kvs : List (Key × D)} {z : Str} {v : D} (hS : S a = some (.dic kvs)) (hv : valD kvs (.inr z) = some v) (q : Q v S) : dgetA Q (.ref a) (.str z) S := ⟨a, kvs, .inr z, v, rfl, hS, rfl, hv, q⟩
end
theorem FnOk.frame {P : Program} {w : World} {K : PySem.W.Frag} {mg : Str → Option Value} {base : Heap} {k : Nat} {f : Addr} {fd : FuncData} {ps : List Str} {sp : Sp3} (F : FnOk P w K mg base (CX1 P w) k f fd ps (lSp K sp)) : FnOk P w K mg base (CX1 P w) k f fd ps (lSp K (fr sp)) := by
  refine L2.FnOk.imp F fun vs H Q E ⟨Z, ds, S, Q3, E3, h1, l, ⟨S0, F, hs, h3⟩, cq, ce⟩ => ?_
  refine ⟨Z.with H F, ds, S0, _, _, h1, ⟨fun a o e => ?_, fun a z => ?_, Kp.refl _ _⟩, h3, ?_, ?_⟩
  · refine l.obj a o ?_
    rcases hs a with ⟨q, _⟩ | ⟨q, _⟩
    · rw [q]; exact e
    · rw [q] at e; cases e
  · rcases z with z | z
    · have z2 := l.hid a z
      refine ⟨?_, z2.2⟩
      rcases hs a with ⟨q, _⟩ | ⟨q, _⟩
      · rw [← q]; exact z2.1
      · exact q
    · rcases hs a with ⟨_, q⟩ | ⟨q, q2⟩
      · exact absurd q z
      · refine ⟨q, ?_⟩
        cases e : F a with
        | none => exact absurd e z
        | some o => exact (l.obj a o (q2.trans e)).there
  · rintro d S1 v H' k1 r1 l1 ⟨S2, hsub, q⟩
    obtain ⟨sp', l'⟩ := l.frame hs k1 l1 hsub
    exact cq d _ v H' (k1.unhide fun a z => .inl z) r1 l' (q _ sp')
  · rintro C a S1 H' k1 l1 ha ⟨S2, hsub, q⟩
    obtain ⟨sp', l'⟩ := l.frame hs k1 l1 hsub
    exact ce C a _ H' (k1.unhide fun a z => .inl z) l' ha (q _ sp')
def lawS : Sp3 := vS fun ds q => ∃ ns : List Int, ds = [.rol (ns.map D.int)] ∧ ns.length ≤ 63 ∧ q (.bl true)
theorem law_fn {P : Program} {w : World} {K : PySem.W.Frag} {mg : Str → Option Value} {base : Heap} {k : Nat} {st : Stmt} {f : Addr} {fd : FuncData} {N : List Str} (F : Fun K "law" "law" st f fd) (S : FnScope N ["script"] (defScope st))
    (hbody : ∀ (cdv : Value) (A : Around) (outer : List Env) (s : Shared) (H : Hp) (E : XK) (ns : List Int), Room k (A.deeper (envOfC "law" (defScope st) s.heap.objs.size f cdv)) → ns.length ≤ 63 →
      ∃ t, PSs3 (cxOf (CX1 P w) P w K mg base N "law" (defScope st) f cdv A outer s H E).nox NoX (defBody st) t ∧ t { nx := fun _ _ => False, rt := fun d _ => d = .bl true } (start3 N [.rol (ns.map D.int)]) emp) :
    FnOk P w K mg base (CX1 P w) (k + 1) f fd ["script"] (lSp K lawS) := by
  obtain ⟨oc, od, kV, doc, pm, an, cdv, ct, osl, rfl, lk, hcd⟩ := F.ex
  refine L2.FnOk.imp (sp := lSp K (fr fun ds S Q E => S = emp ∧ ∃ ns : List Int, ds = [.rol (ns.map D.int)] ∧ ns.length ≤ 63 ∧ ∀ S', Q (.bl true) S')) (FnOk.frame ?_) fun vs H Q E z_1 => by obtain ⟨Z, ds, S, Q3, E3, h1, l, ⟨ns, e, h63, q⟩, h, h'⟩ := z_1; exact ⟨Z, ds, S, Q3, E3, h1, l, ⟨emp, S, spl_emp S, rfl, ns, e, h63, fun S1 => ⟨emp, sub_emp _, fun S' hS => spl_emp_eq hS ▸ q⟩⟩, h, h'⟩
  refine fn_of lk hcd S (fun vs H Q E z_2 => by obtain ⟨Z, ds, S, Q3, E3, h1, _, ⟨_, ns, z, _⟩, _, _⟩ := z_2; rw [← h1.len, z]; rfl) fun A outer s H vs Q E hr ⟨Z, ds, S3, Q3, E3, h1, h2, ⟨e1, ns, e2, h63, hq⟩, h4, _⟩ => ?_
  subst e1 e2
  obtain ⟨t, ht, q⟩ := hbody cdv A outer s H E ns hr h63
  refine ⟨_, (ht (zx0 Z H)).nox, _, start3 N [.rol (ns.map D.int)], emp, ?_, h2.into, q, ⟨?_, ?_, ?_, ?_⟩⟩
  · unfold start3 L2.start
    rw [h1.len]
    exact paired_append (SR.ofRps h1) (SR.nones _)
  · exact fun _ _ _ _ _ _ _ z => z.elim
  · exact fun _ _ _ _ _ _ _ z => z
  · exact fun _ _ _ _ _ _ _ z => z
  · intro d S' v H' kk r l e
    have e : d = .bl true := e
    subst e
    exact h4 _ S' v H' (kk.unhide fun _ z => z) r (l.out h2 kk) (hq S')
theorem law_sp {K : PySem.W.Frag} {H : Hp} {a : Addr} {ns : List Int} (hl : ns.length ≤ 63) (hO : Only H) (h : SqL K H a (ns.map V.int)) : lSp K lawS [.ref a] H (fun v _ => v = .bl true) fun _ _ _ => False := by
  refine ⟨⟨fun _ => False, H⟩, [.rol (ns.map D.int)], emp, fun d _ => d = .bl true, fun _ _ _ => False, .cons (.rol (ScR.of h hO) (Rps.ints ns)) .nil, ⟨fun a o e => (nomatch e), fun a z => z.elim, Kp.refl _ _⟩, ⟨ns, rfl, hl, rfl⟩, ?_, fun _ _ _ _ _ _ _ z => z⟩
  intro d S v H' _ r _ e
  have e : d = .bl true := e
  subst e
  cases r
  rfl
theorem hu_deep {A : Around} {k : Nat} (hr : Room k A) : A.units + 200 < cLine := by have := hr.un; omega
end E3
namespace E3
open PySem PySem.Spec PyProof.Rows L2 EE
theorem Sub.refl (S : Hp3) : Sub S S := fun _ _ h => h
theorem Sub.up {A B : Hp3} {p : Addr} {o : O} (h : Sub A B) (hp : B p = none) : Sub A (up B p o) := fun a u e => up_get (h a u e) hp
section
variable {P : Program} {w : World} {K : PySem.W.Frag} {mg : Str → Option Value} {base : Heap} {x : Str} {st : Stmt} {N ps : List Str} {k : Nat}
theorem Cal3.drop {sp : Sp3} (C : Cal3 P w K mg base k x ps sp) : Cal3 P w K mg base k x ps (fun ds S Q E => sp ds S (fun d S1 => ∃ S2, Sub S2 S1 ∧ Q d S2) E) := by
  obtain ⟨f, fd, F0, r⟩ := C.ex
  refine ⟨f, fd, F0.imp fun vs H Q E ⟨Z, ds, S, Q3, E3, h1, l, h3, cq, ce⟩ => ⟨Z, ds, S, _, E3, h1, l, h3, ?_, ce⟩, r⟩
  rintro d S1 v H' k1 r1 l1 ⟨S2, hsub, q⟩
  exact cq d S2 v H' k1 r1 (l1.sub hsub) q
def rdV (A : List D → Hp3 → (D → Prop) → Prop) : Sp3 := fun ds S Q _ => A ds S fun d => Q d S
def wrV (A : List D → Hp3 → (D → Addr → O → Prop) → Prop) : Sp3 := fun ds S Q _ => A ds S fun d a o => Q d (up S a o)
theorem _root_.EE.Has.rdV {A : List D → Hp3 → (D → Prop) → Prop} (h : Has K mg x st ps) (S : FnScope N ps (defScope st)) (len : ∀ ds S q, A ds S q → ds.length = ps.length)
    (hbody : ∀ (f : Addr) (cdv : Value) (Ar : Around) (outer : List Env) (s : Shared) (H : Hp) (E : XK) (ds : List D) (S : Hp3) (q : D → Prop), Room k (Ar.deeper (envOfC x (defScope st) s.heap.objs.size f cdv)) → A ds S q →
      ∃ t, PSs3 (cxOf (CX1 P w) P w K mg base N x (defScope st) f cdv Ar outer s H E).nox NoX (defBody st) t ∧ t { nx := fun _ S' => Sub S S' ∧ q .non, rt := fun d S' => Sub S S' ∧ q d } (start3 N ds) S) : Cal3 P w K mg base (k + 1) x ps (rdV A) := by
  have C : Cal3 P w K mg base (k + 1) x ps (fun ds S Q E => ∃ q, A ds S q ∧ ∀ d S', Sub S S' ∧ q d → Q d S') := by
    refine h.cal3 S (fun vs H Q E z_1 => by obtain ⟨q, z, _⟩ := z_1; exact len _ _ _ z) fun f cdv Ar outer s H E ds S3 Q E3 hr ⟨q, z, hq⟩ => ?_
    obtain ⟨t, h1, h2⟩ := hbody f cdv Ar outer s H E ds S3 _ hr z
    exact ⟨t, fun d S' => Sub S3 S' ∧ q d, h1, h2, hq⟩
  exact C.drop.imp fun ds S Q E z => ⟨_, z, fun d S1 hq => ⟨S, hq.1, hq.2⟩⟩
theorem _root_.EE.Has.wrV {A : List D → Hp3 → (D → Addr → O → Prop) → Prop} (h : Has K mg x st ps) (S : FnScope N ps (defScope st)) (len : ∀ ds S q, A ds S q → ds.length = ps.length)
    (hbody : ∀ (f : Addr) (cdv : Value) (Ar : Around) (outer : List Env) (s : Shared) (H : Hp) (E : XK) (ds : List D) (S : Hp3) (q : D → Addr → O → Prop), Room k (Ar.deeper (envOfC x (defScope st) s.heap.objs.size f cdv)) → A ds S q →
      ∃ t, PSs3 (cxOf (CX1 P w) P w K mg base N x (defScope st) f cdv Ar outer s H E).nox NoX (defBody st) t ∧ t { nx := fun _ S' => ∃ a o, Sub (up S a o) S' ∧ q .non a o, rt := fun d S' => ∃ a o, Sub (up S a o) S' ∧ q d a o } (start3 N ds) S) : Cal3 P w K mg base (k + 1) x ps (wrV A) := by
  have C : Cal3 P w K mg base (k + 1) x ps (fun ds S Q E => ∃ q, A ds S q ∧ ∀ d S', (∃ a o, Sub (up S a o) S' ∧ q d a o) → Q d S') := by
    refine h.cal3 S (fun vs H Q E z_3 => by obtain ⟨q, z, _⟩ := z_3; exact len _ _ _ z) fun f cdv Ar outer s H E ds S3 Q E3 hr ⟨q, z, hq⟩ => ?_
    obtain ⟨t, h1, h2⟩ := hbody f cdv Ar outer s H E ds S3 _ hr z
    exact ⟨t, fun d S' => ∃ a o, Sub (up S3 a o) S' ∧ q d a o, h1, h2, hq⟩
  exact C.drop.imp fun ds S Q E z => ⟨_, z, fun d S1 z_4 => by obtain ⟨a, o, hs, hq⟩ := z_4; exact ⟨_, hs, hq⟩⟩
theorem _root_.EE.Has.none3 {sp : Sp3} (h : Has K mg x st ps) (no : ∀ ds S Q E, ¬ sp ds S Q E) (j : Nat) : Cal3 P w K mg base j x ps sp := by
  obtain ⟨f, fd, F, b, m⟩ := h.ex
  have no' : ∀ vs H Q E, ¬ lSp K sp vs H Q E := fun vs H Q E z_5 => by obtain ⟨Z, ds, S, Q3, E3, _, _, z, _, _⟩ := z_5; exact no _ _ _ _ z
  exact ⟨f, fd, ⟨fun vs H Q E h => absurd h (no' vs H Q E), fun A outer s H args us vs Q E _ _ _ _ h => absurd h (no' vs H Q E)⟩, b, F.kp, m⟩
end
end E3
namespace E3
open PySem PySem.Spec PyProof.Rows L2 EE
section
variable {P : Program} {w : World} {K : PySem.W.Frag} {mg : Str → Option Value} {base : Heap} {x : Str} {st : Stmt} {N ps : List Str} {k : Nat}
def wrL (A : List D → Hp3 → (List D → Addr → O → Prop) → Prop) : Sp3 := fun ds S Q _ => A ds S fun ys a o => ∀ p, S p = none → Q (.ref p) (up (up S a o) p (.lst ys))
theorem _root_.EE.Has.wrL {A : List D → Hp3 → (List D → Addr → O → Prop) → Prop} (h : Has K mg x st ps) (S : FnScope N ps (defScope st)) (len : ∀ ds S q, A ds S q → ds.length = ps.length)
    (hbody : ∀ (f : Addr) (cdv : Value) (Ar : Around) (outer : List Env) (s : Shared) (H : Hp) (E : XK) (ds : List D) (S : Hp3) (q : List D → Addr → O → Prop), Room k (Ar.deeper (envOfC x (defScope st) s.heap.objs.size f cdv)) → A ds S q →
      ∃ t, PSs3 (cxOf (CX1 P w) P w K mg base N x (defScope st) f cdv Ar outer s H E).nox NoX (defBody st) t ∧
        t { nx := fun _ _ => False, rt := fun d S' => ∃ p ys a o, d = .ref p ∧ S p = none ∧ S a ≠ none ∧ Sub (up S a o) S' ∧ S' p = some (.lst ys) ∧ q ys a o } (start3 N ds) S) : Cal3 P w K mg base (k + 1) x ps (wrL A) := by
  have C : Cal3 P w K mg base (k + 1) x ps (fun ds S Q E => ∃ q, A ds S q ∧ ∀ d S', (∃ p ys a o, d = .ref p ∧ S p = none ∧ S a ≠ none ∧ Sub (up S a o) S' ∧ S' p = some (.lst ys) ∧ q ys a o) → Q d S') := by
    refine h.cal3 S (fun vs H Q E z_6 => by obtain ⟨q, z, _⟩ := z_6; exact len _ _ _ z) fun f cdv Ar outer s H E ds S3 Q E3 hr ⟨q, z, hq⟩ => ?_
    obtain ⟨t, h1, h2⟩ := hbody f cdv Ar outer s H E ds S3 _ hr z
    refine ⟨t, fun d S' => ∃ p ys a o, d = .ref p ∧ S3 p = none ∧ S3 a ≠ none ∧ Sub (up S3 a o) S' ∧ S' p = some (.lst ys) ∧ q ys a o, h1, ?_, hq⟩
    have e : (fun (_ : St3) (_ : Hp3) => False) = fun (_ : St3) (S' : Hp3) => ∃ p ys a o, D.non = .ref p ∧ S3 p = none ∧ S3 a ≠ none ∧ Sub (up S3 a o) S' ∧ S' p = some (.lst ys) ∧ q ys a o := by
      funext _ S'
      refine propext ⟨False.elim, fun z => ?_⟩
      obtain ⟨p, ys, _, _, z, _⟩ := z
      cases z
    rw [← e]
    exact h2
  refine C.drop.imp fun ds S Q E z => ⟨_, z, fun d S1 ⟨p, ys, a, o, e, hp, ha, hs, hp1, hq⟩ => ⟨up (up S a o) p (.lst ys), ?_, ?_⟩⟩
  · intro b u hb
    by_cases c : b = p
    · subst c; rw [up_same] at hb; cases hb; exact hp1
    · rw [up_ne c] at hb; exact hs b u hb
  · subst e
    exact hq p hp
end
section
variable {σ : St3} {S : Hp3} {Q : K3}
theorem j_pow {g : Int → Int → D} {k j : Int} (h : CPow k j) (q : Q (g k j) S) : ic3 CPow g (.int k) (.int j) S Q := ⟨k, j, rfl, rfl, h, q⟩
theorem j_mul {g : Int → Int → D} {k j : Int} (h : CMul k j) (q : Q (g k j) S) : ic3 CMul g (.int k) (.int j) S Q := ⟨k, j, rfl, rfl, h, q⟩
theorem j_neg {σ : St3} {te : TE3} (h : te σ S fun x S1 => ∃ i, x = .int i ∧ Q (.int (-i)) S1) : u3 (fun x S Q => ∃ i, x = .int i ∧ Q (.int (-i)) S) te σ S Q := h
end
end E3
namespace E3
def Px (sp : PySem.Addr) (S X : Hp3) : Prop := ∀ a u, a ≠ sp → S a = some u → X a = some u
theorem Px.refl (sp : PySem.Addr) (S : Hp3) : Px sp S S := fun _ _ _ h => h
theorem Px.at {sp : PySem.Addr} {S X : Hp3} {o : O} (h : Px sp S X) : Px sp S (up X sp o) := fun a u n e => by rw [up_ne n]; exact h a u n e
theorem Px.new {sp p : PySem.Addr} {S X : Hp3} {o : O} (h : Px sp S X) (hp : X p = none) : Px sp S (up X p o) := fun a u n e => up_get (h a u n e) hp
theorem Px.sub {sp : PySem.Addr} {S X : Hp3} {o : O} (h : Px sp S X) (hx : X sp = some o) : Sub (up S sp o) X := fun a u e => by
  by_cases c : a = sp
  · subst c; rw [up_same] at e; rw [hx]; exact e
  · rw [up_ne c] at e; exact h a u c e
end E3
namespace E3
theorem Px.fresh {sp p : PySem.Addr} {S X : Hp3} {o : O} (h : Px sp S X) (hp : S p = none) : Px sp S (up X p o) := fun a u n e => by rw [up_ne (ne3 e hp)]; exact h a u n e
theorem Px.free {sp p : PySem.Addr} {S X : Hp3} (h : Px sp S X) (hp : X p = none) (n : p ≠ sp) : S p = none := by
  cases e : S p with
  | none => rfl
  | some o => rw [h p o n e] at hp; cases hp
end E3
namespace E3
theorem Px.ext {sp : PySem.Addr} {S X Y : Hp3} (h : Px sp S X) (h' : Sub X Y) : Px sp S Y := fun a u n e => h' a u (h a u n e)
end E3
namespace E3
open PySem PySem.Spec PyProof.Rows L2 EE
end E3
namespace E3
open PySem PySem.Spec PyProof.Rows L2 EE
end E3
namespace E3
open PySem PySem.Spec PyProof.Rows L2 EE
noncomputable abbrev bmVE : List Value := [.type "ValueError", .type "Exception", .type "BaseException", .type "object"]
end E3
namespace E3
open PySem PySem.Spec PyProof.Rows L2 EE
end E3
namespace E3
open PySem PySem.Spec PyProof.Rows L2 EE
end E3
namespace E3
section
open PySem PySem.Spec PyProof.Rows L2 EE PySem.W Builtin Builtin.ObjectAttr Builtin.Getset_descriptor
end
open PySem PySem.Spec PyProof.Rows L2 EE
noncomputable def rfOne (K : PySem.W.Frag) (C : Addr) : Bool := PySem.W.excIn K C bmVE "ValueError.__new__" && PySem.W.findIn K (.ref C) "__getattribute__" == some (some (.builtin "BaseException.__getattribute__")) && PySem.W.findIn K (.ref C) "__getattr__" == some none &&
  PySem.W.findIn K (.ref C) "__class__" == some (some (.builtin "object.__class__")) && PySem.W.specialIn K (.builtin "object.__class__") "__get__" == some (some (.builtin "getset_descriptor.__get__")) && PySem.W.takesIn K (.builtin "object.__class__") == some true &&
  PySem.W.mroIn K C (.type "object") == some true && PySem.W.mroIn K C (.type "BaseException") == some true && PySem.W.kitCls K (.ref C) (.type "BaseException") == some true && PySem.W.kitCls K (.ref C) (.type "ValueError") == some true && (PySem.W.clsIn K C).isSome
inductive Rf where
  | err | text | twice | such | count | apart | many | way
  deriving DecidableEq
noncomputable def Rf.nm : Rf → Str
  | .err => "ErrandError" | .text => "BadText" | .twice => "Twice" | .such => "NoSuch" | .count => "WrongCount" | .apart => "Apart" | .many => "TooMany" | .way => "NoWay"
noncomputable def Rf.sub (i j : Rf) : Bool := decide (i = j) || decide (j = .err)
structure Rfs (K : PySem.W.Frag) (mg : Str → Option Value) (es : List Rf) (adr : Rf → Addr) : Prop where
  bound : ∀ i ∈ es, mg i.nm = some (.ref (adr i))
  one : ∀ i ∈ es, rfOne K (adr i) = true
  two : ∀ i ∈ es, ∀ j ∈ es, PySem.W.kitCls K (.ref (adr i)) (.ref (adr j)) = some (i.sub j)
section
variable {K : PySem.W.Frag} {mg : Str → Option Value} {es : List Rf} {adr : Rf → Addr} (R : Rfs K mg es adr) {i j : Rf}
include R
end
end E3
namespace E3
open PySem PySem.Spec PyProof.Rows L2 EE
end E3
namespace E3
open PySem PySem.Spec PyProof.Rows L2 EE
end E3
namespace E3
open PySem PySem.Spec PyProof.Rows L2 EE
section
variable {X : Cx} {W3 : W3T}
def notinA (Q : K3) (x y : D) (S : Hp3) : Prop := (∃ a kvs k, x = .ref a ∧ S a = some (.dic kvs) ∧ y = kD k ∧ Q (.bl (!(valD kvs k).isSome)) S) ∨ ∃ ds, x = .tup ds ∧ flatD y = true ∧ ds.all flatD = true ∧ Q (.bl (!memD y ds)) S
def notin3 (ty td : TE3) : TE3 := fun σ S Q => ty σ S fun y S1 => td σ S1 fun x S2 => notinA Q x y S2
theorem iteBf {b : Bool} {A B : Prop} (h : b = false) (q : B) : if b = true then A else B := by rw [if_neg (by rw [h]; exact Bool.false_ne_true)]; exact q
end
end E3
namespace E3
open PySem PySem.Spec PyProof.Rows L2 EE
theorem small_le {n : Nat} (h : n ≤ 1000000) : n ≤ sizeLine := Nat.le_trans h (by decide)
theorem small_lt {n : Nat} (h : n ≤ 1000000) : n < sizeLine := Nat.lt_of_le_of_lt h (by decide)
theorem atI_of {α : Type} {xs : List α} {i : Int} {v : α} (h0 : 0 ≤ i) (h : xs[i.toNat]? = some v) : atI xs i = some v := by
  have e : i = ((i.toNat : Nat) : Int) := by omega
  rw [e]
  exact atI_nat h
theorem atI_0 {α : Type} {x : α} {xs : List α} : atI (x :: xs) 0 = some x := atI_nat (j := 0) rfl
theorem atI_1 {α : Type} {x y : α} {xs : List α} : atI (x :: y :: xs) 1 = some y := atI_nat (j := 1) rfl
theorem ixN_of {n : Nat} {i : Int} {j : Nat} (h : i = (j : Int)) (hj : j < n) : ixN n i = some j := by
  subst h
  unfold ixN
  rw [if_pos (by omega), if_pos (by omega)]
  simp
theorem ixN_0 {α : Type} {x : α} {xs : List α} : ixN (x :: xs).length 0 = some 0 := ixN_of rfl (by simp)
theorem cutD_to {xs : List D} {p : Int} (h0 : 0 ≤ p) : cutD xs none (some p) = xs.take p.toNat := by
  unfold cutD
  have e : p = ((p.toNat : Nat) : Int) := by omega
  rw [e, HT.sIx_none, HT.sIx_nat, List.drop_zero, Nat.sub_zero, ← e]
  by_cases h : p.toNat ≤ xs.length
  · rw [Nat.min_eq_left h]
  · rw [Nat.min_eq_right (by omega), List.take_of_length_le (by omega), List.take_of_length_le (by omega)]
theorem cutD_from {xs : List D} {p : Int} (h0 : 0 ≤ p) : cutD xs (some p) none = xs.drop p.toNat := by
  unfold cutD
  have e : p = ((p.toNat : Nat) : Int) := by omega
  rw [e, HT.sIx_none, HT.sIx_nat, ← e]
  by_cases h : p.toNat ≤ xs.length
  · rw [Nat.min_eq_left h, List.take_of_length_le (by rw [List.length_drop]; omega)]
  · rw [Nat.min_eq_right (by omega), List.drop_eq_nil_of_le (Nat.le_refl _), List.drop_eq_nil_of_le (by omega)]
    simp
theorem cutT_to {cs : List Nat} {p : Int} (h0 : 0 ≤ p) : cutT cs none (some p) = cs.take p.toNat := by
  unfold cutT
  have e : p = ((p.toNat : Nat) : Int) := by omega
  rw [e, HT.sIx_none, HT.sIx_nat, List.drop_zero, Nat.sub_zero, ← e]
  by_cases h : p.toNat ≤ cs.length
  · rw [Nat.min_eq_left h]
  · rw [Nat.min_eq_right (by omega), List.take_of_length_le (by omega), List.take_of_length_le (by omega)]
theorem cutT_from {cs : List Nat} {p : Int} (h0 : 0 ≤ p) : cutT cs (some p) none = cs.drop p.toNat := by
  unfold cutT
  have e : p = ((p.toNat : Nat) : Int) := by omega
  rw [e, HT.sIx_none, HT.sIx_nat, ← e]
  by_cases h : p.toNat ≤ cs.length
  · rw [Nat.min_eq_left h, List.take_of_length_le (by rw [List.length_drop]; omega)]
  · rw [Nat.min_eq_right (by omega), List.drop_eq_nil_of_le (Nat.le_refl _), List.drop_eq_nil_of_le (by omega)]
    simp
def NameOk (x : Str) : Prop := ∃ cs : List Nat, x = textOf cs ∧ 1 ≤ cs.length ∧ cs.length ≤ 8 ∧ ∀ c ∈ cs, 97 ≤ c ∧ c ≤ 122
theorem textOf_inj {a b : List Nat} (h : textOf a = textOf b) : a = b := by
  have := congrArg (fun x : Str => x.cps.toList) h
  simpa [textOf] using this
theorem textOf_codes (cs : List Nat) : (textOf cs).cps.toList = cs := by simp [textOf]
theorem s_alpha : ("abcdefghijklmnopqrstuvwxyz" : Str) = textOf (List.range' 97 26) := by decide +kernel
theorem s_alpha12 : ("abcdefghijkl" : Str) = textOf (List.range' 97 12) := by decide +kernel
theorem s_abcd : ("abcd" : Str) = textOf [97, 98, 99, 100] := by decide +kernel
theorem at_alpha {n : Nat} {i : Int} (h0 : 0 ≤ i) (h1 : i < n) : atI (List.range' 97 n) i = some (97 + i.toNat) := by
  refine atI_of h0 ?_
  rw [List.getElem?_range' (by omega)]
  simp
noncomputable def nm1 (cs : List Nat) (p k : Nat) : List Nat := (cs.take p ++ [97 + k]) ++ cs.drop p
noncomputable def nm2 (cs : List Nat) (k : Nat) : List Nat := cs.take 4 ++ [97, 98, 99, 100].take (k + 1)
noncomputable def nm3 (cs : List Nat) (k : Nat) : List Nat := [97, 98, 99, 100].drop (3 - k) ++ cs.take 4
def Letters (cs : List Nat) : Prop := ∀ c ∈ cs, 97 ≤ c ∧ c ≤ 122
structure Row (n : Nat) (xs : List Str) : Prop where
  len : xs.length = n
  nd : xs.Nodup
  ok : ∀ x ∈ xs, NameOk x
theorem row_of {n : Nat} {f : Nat → List Nat} (inj : ∀ i j, i < n → j < n → f i = f j → i = j) (ok : ∀ i, i < n → NameOk (textOf (f i))) : Row n ((List.range n).map fun k => textOf (f k)) := by
  refine ⟨by simp, ?_, fun x hx => ?_⟩
  · rw [List.nodup_iff_pairwise_ne, List.pairwise_map]
    have := List.nodup_range (n := n)
    rw [List.nodup_iff_pairwise_ne] at this
    refine List.Pairwise.imp_of_mem (fun {a b} ha hb hab e => hab ?_) this
    exact inj a b (List.mem_range.mp ha) (List.mem_range.mp hb) (textOf_inj e)
  · obtain ⟨k, hk, rfl⟩ := List.mem_map.mp hx
    exact ok k (List.mem_range.mp hk)
theorem row1 {n p : Nat} {cs : List Nat} (hl : Letters cs) (h7 : cs.length ≤ 7) (hn : n ≤ 12) : Row n ((List.range n).map fun k => textOf (nm1 cs p k)) := by
  refine row_of (fun i j hi hj e => ?_) fun i hi => ⟨_, rfl, ?_, ?_, ?_⟩
  · unfold nm1 at e
    have e2 := List.append_inj_left' e rfl
    have e3 := List.append_inj_right e2 rfl
    simp at e3
    exact e3
  · simp [nm1]; omega
  · simp only [nm1, List.length_append, List.length_take, List.length_cons, List.length_nil, List.length_drop]; omega
  · intro c hc
    simp only [nm1, List.mem_append, List.mem_singleton] at hc
    rcases hc with (hc | rfl) | hc
    · exact hl c (List.mem_of_mem_take hc)
    · omega
    · exact hl c (List.mem_of_mem_drop hc)
theorem row2 {n : Nat} {cs : List Nat} (hl : Letters cs) (hn : n ≤ 4) : Row n ((List.range n).map fun k => textOf (nm2 cs k)) := by
  refine row_of (fun i j hi hj e => ?_) fun i hi => ⟨_, rfl, ?_, ?_, ?_⟩
  · have := congrArg List.length e
    simp only [nm2, List.length_append, List.length_take, List.length_cons, List.length_nil] at this
    omega
  · simp only [nm2, List.length_append, List.length_take, List.length_cons, List.length_nil]; omega
  · simp only [nm2, List.length_append, List.length_take, List.length_cons, List.length_nil]; omega
  · intro c hc
    simp only [nm2, List.mem_append] at hc
    rcases hc with hc | hc
    · exact hl c (List.mem_of_mem_take hc)
    · have := List.mem_of_mem_take hc
      simp only [List.mem_cons, List.not_mem_nil, or_false] at this
      omega
theorem row3 {n : Nat} {cs : List Nat} (hl : Letters cs) (hn : n ≤ 4) : Row n ((List.range n).map fun k => textOf (nm3 cs k)) := by
  refine row_of (fun i j hi hj e => ?_) fun i hi => ⟨_, rfl, ?_, ?_, ?_⟩
  · have := congrArg List.length e
    simp only [nm3, List.length_append, List.length_take, List.length_drop, List.length_cons, List.length_nil] at this
    omega
  · simp only [nm3, List.length_append, List.length_take, List.length_drop, List.length_cons, List.length_nil]; omega
  · simp only [nm3, List.length_append, List.length_take, List.length_drop, List.length_cons, List.length_nil]; omega
  · intro c hc
    simp only [nm3, List.mem_append] at hc
    rcases hc with hc | hc
    · have := List.mem_of_mem_drop hc
      simp only [List.mem_cons, List.not_mem_nil, or_false] at this
      omega
    · exact hl c (List.mem_of_mem_take hc)
theorem Row.turn {n t : Nat} {xs : List Str} (r : Row n xs) : Row n (xs.drop t ++ xs.take t) := by
  have e := List.take_append_drop t xs
  have pm : (xs.drop t ++ xs.take t).Perm xs := by
    have := List.perm_append_comm (l₁ := xs.drop t) (l₂ := xs.take t)
    rw [e] at this
    exact this
  exact ⟨pm.length_eq.trans r.len, pm.nodup_iff.mpr r.nd, fun x hx => r.ok x (pm.mem_iff.mp hx)⟩
inductive Sy where
  | name (x : Str) | bud | pair (a b : Sy) | left (a : Sy) | right (a : Sy) | fork (a b c : Sy) | send (x : Str) (as : List Sy)
mutual
noncomputable def Sy.d : Sy → D
  | .name x => .tup [.str "name", .str x]
  | .bud => .tup [.str "bud"]
  | .pair a b => .tup [.str "pair", a.d, b.d]
  | .left a => .tup [.str "left", a.d]
  | .right a => .tup [.str "right", a.d]
  | .fork a b c => .tup [.str "fork", a.d, b.d, c.d]
  | .send x as => .tup [.str "send", .str x, .tup (Sy.ds as)]
noncomputable def Sy.ds : List Sy → List D
  | [] => []
  | a :: as => a.d :: Sy.ds as
end
mutual
noncomputable def Sy.deep : Sy → Nat
  | .name _ => 1
  | .bud => 1
  | .pair a b => max a.deep b.deep + 1
  | .left a => a.deep + 1
  | .right a => a.deep + 1
  | .fork a b c => max a.deep (max b.deep c.deep) + 1
  | .send _ as => Sy.deeps as + 1
noncomputable def Sy.deeps : List Sy → Nat
  | [] => 0
  | a :: as => max a.deep (Sy.deeps as)
end
noncomputable def Sy.parts : Sy → List Sy
  | .name _ => []
  | .bud => []
  | .pair a b => [a, b]
  | .left a => [a]
  | .right a => [a]
  | .fork a b c => [a, b, c]
  | .send _ as => as
mutual
noncomputable def Sy.pre : Sy → List Sy
  | .name x => [.name x]
  | .bud => [.bud]
  | .pair a b => .pair a b :: (a.pre ++ b.pre)
  | .left a => .left a :: a.pre
  | .right a => .right a :: a.pre
  | .fork a b c => .fork a b c :: (a.pre ++ (b.pre ++ c.pre))
  | .send x as => .send x as :: Sy.pres as
noncomputable def Sy.pres : List Sy → List Sy
  | [] => []
  | a :: as => a.pre ++ Sy.pres as
end
theorem Sy.pre_parts (s : Sy) : s.pre = s :: Sy.pres s.parts := by
  cases s <;> simp [Sy.pre, Sy.parts, Sy.pres]
theorem Sy.ds_map : ∀ as : List Sy, Sy.ds as = as.map Sy.d
  | [] => rfl
  | a :: as => by simp only [Sy.ds, List.map_cons, Sy.ds_map as]
theorem Sy.pres_append : ∀ as bs : List Sy, Sy.pres (as ++ bs) = Sy.pres as ++ Sy.pres bs
  | [], bs => by simp [Sy.pres]
  | a :: as, bs => by simp [Sy.pres, Sy.pres_append as bs]
mutual
def Sy.wf (ar : Str → Option Nat) (ps : List Str) : Sy → Prop
  | .name x => x ∈ ps
  | .bud => True
  | .pair a b => a.wf ar ps ∧ b.wf ar ps
  | .left a => a.wf ar ps
  | .right a => a.wf ar ps
  | .fork a b c => a.wf ar ps ∧ b.wf ar ps ∧ c.wf ar ps
  | .send x as => ar x = some as.length ∧ 1 ≤ as.length ∧ as.length ≤ 4 ∧ Sy.wfs ar ps as
def Sy.wfs (ar : Str → Option Nat) (ps : List Str) : List Sy → Prop
  | [] => True
  | a :: as => a.wf ar ps ∧ Sy.wfs ar ps as
end
theorem Sy.wfs_iff {ar : Str → Option Nat} {ps : List Str} : ∀ {as : List Sy}, Sy.wfs ar ps as ↔ ∀ a ∈ as, a.wf ar ps
  | [] => by simp [Sy.wfs]
  | a :: as => by simp [Sy.wfs, Sy.wfs_iff (as := as)]
theorem Sy.deeps_le : ∀ {as : List Sy} {n : Nat}, (∀ a ∈ as, a.deep ≤ n) → Sy.deeps as ≤ n
  | [], _, _ => Nat.zero_le _
  | a :: as, n, h => by
    simp only [Sy.deeps]
    have h1 := h a List.mem_cons_self
    have h2 := Sy.deeps_le (as := as) (n := n) fun b hb => h b (List.mem_cons_of_mem _ hb)
    omega
theorem Sy.deeps_mem : ∀ {as : List Sy} {a : Sy}, a ∈ as → a.deep ≤ Sy.deeps as
  | b :: as, a, h => by
    simp only [Sy.deeps]
    rcases List.mem_cons.mp h with rfl | h
    · omega
    · have := Sy.deeps_mem h; omega
noncomputable def Sy.sends (s : Sy) : Nat := (s.pre.filter fun a => match a with | .send _ _ => true | _ => false).length
noncomputable def Sy.sendss (as : List Sy) : Nat := ((Sy.pres as).filter fun a => match a with | .send _ _ => true | _ => false).length
theorem Sy.sendss_cons (a : Sy) (as : List Sy) : Sy.sendss (a :: as) = a.sends + Sy.sendss as := by simp [Sy.sendss, Sy.sends, Sy.pres]
theorem Sy.sendss_append (as bs : List Sy) : Sy.sendss (as ++ bs) = Sy.sendss as + Sy.sendss bs := by simp [Sy.sendss, Sy.pres_append]
noncomputable def arOf : List Str → List Nat → Str → Option Nat
  | x :: xs, n :: ns, y => if y = x then some n else arOf xs ns y
  | _, _, _ => none
theorem arOf_at : ∀ {xs : List Str} {ns : List Nat} {i : Nat} {x : Str} {n : Nat}, xs.Nodup → xs[i]? = some x → ns[i]? = some n → arOf xs ns x = some n
  | [], _, _, _, _, _, h, _ => by simp at h
  | _ :: _, [], _, _, _, _, _, h => by simp at h
  | y :: xs, m :: ns, 0, x, n, _, h1, h2 => by
    simp at h1 h2
    subst h1 h2
    simp [arOf]
  | y :: xs, m :: ns, i + 1, x, n, nd, h1, h2 => by
    have hx : x ∈ xs := List.mem_of_getElem? (by simpa using h1)
    have hne : x ≠ y := fun z => (List.nodup_cons.mp nd).1 (z ▸ hx)
    rw [arOf, if_neg hne]
    exact arOf_at (List.nodup_cons.mp nd).2 (by simpa using h1) (by simpa using h2)
structure Er where
  name : Str
  ps : List Str
  body : Sy
noncomputable def Er.d (e : Er) : D := .tup [.str e.name, .tup (e.ps.map D.str), e.body.d]
end E3
namespace E3
open PySem PySem.Spec PyProof.Rows L2 EE
theorem at_mod {α : Type} {xs : List α} (c : Int) (h : 0 < xs.length) : ∃ (j : Nat) (v : α), c % (xs.length : Int) = (j : Int) ∧ j < xs.length ∧ xs[j]? = some v := by
  have h0 := Int.emod_nonneg c (show (xs.length : Int) ≠ 0 by omega)
  have h1 := Int.emod_lt_of_pos c (show (0 : Int) < xs.length by omega)
  have hj : (c % (xs.length : Int)).toNat < xs.length := by omega
  exact ⟨(c % (xs.length : Int)).toNat, xs[(c % (xs.length : Int)).toNat], by omega, hj, List.getElem?_eq_getElem hj⟩
theorem at_modM {α : Type} {f : α → D} {xs : List α} (c : Int) (h : 0 < xs.length) : ∃ (j : Nat) (v : α), c % ((xs.map f).length : Int) = (j : Int) ∧ xs[j]? = some v ∧ atI (xs.map f) (c % ((xs.map f).length : Int)) = some (f v) := by
  obtain ⟨j, v, e, hj, hv⟩ := at_mod (xs := xs) c h
  have e' : c % ((xs.map f).length : Int) = (j : Int) := by rw [List.length_map]; exact e
  refine ⟨j, v, e', hv, ?_⟩
  rw [e']
  refine atI_nat ?_
  rw [List.getElem?_map, hv]
  rfl
theorem comp_saying {σ : St3} {js : List Nat} {te : TE3} {Q : K3} {S : Hp3} {sp : Addr} {m : Nat} {i b : Int} {Al : Hp3 → Prop} (good : Sy → Prop) (hm : m ≤ 1000) (hA : ∀ S, Al S)
    (h : ∀ (d : D) (i1 b1 : Int), i ≤ i1 → 0 ≤ b1 → ∀ P : K3, (∀ (s : Sy) (i2 b2 : Int), good s → i1 ≤ i2 → 0 ≤ b2 → (s.sends : Int) + b2 ≤ b1 → P s.d (up S sp (.lst [.int i2, .int b2]))) → te (some d :: pick3 σ js) (up S sp (.lst [.int i1, .int b1])) P)
    (hb : 0 ≤ b) (q : ∀ (ss : List Sy) (i2 b2 : Int), ss.length = m → (∀ s ∈ ss, good s) → i ≤ i2 → 0 ≤ b2 → (Sy.sendss ss : Int) + b2 ≤ b → newL (up S sp (.lst [.int i2, .int b2])) (ss.map Sy.d) Q) :
    ∃ W : Nat → List D → Hp3 → Prop, W 0 [] (up S sp (.lst [.int i, .int b])) ∧ (∀ i ys S, W i ys S → Al S ∧ ys.length < sizeLine) ∧
  (∀ i d ys S, (nums 0 m)[i]? = some d → W i ys S → te (some d :: pick3 σ js) S fun y S' => W (i + 1) (ys ++ [y]) S') ∧ ∀ ys S, W (nums 0 m).length ys S → newL S ys Q := by
  refine ⟨fun j ys S' => j ≤ m ∧ ∃ (ss : List Sy) (i1 b1 : Int), ys = ss.map Sy.d ∧ ss.length = j ∧ (∀ s ∈ ss, good s) ∧ i ≤ i1 ∧ 0 ≤ b1 ∧ (Sy.sendss ss : Int) + b1 ≤ b ∧ S' = up S sp (.lst [.int i1, .int b1]),
    ⟨Nat.zero_le _, [], i, b, rfl, rfl, by simp, Int.le_refl _, hb, by simp [Sy.sendss, Sy.pres], rfl⟩, ?_, ?_, ?_⟩
  · rintro j ys S' ⟨hj, ss, i1, b1, rfl, hl, _⟩
    refine ⟨hA _, ?_⟩
    rw [List.length_map]
    exact small_lt (by omega)
  · rintro j d ys S' hd ⟨hj, ss, i1, b1, rfl, hl, hg, hi, hb1, hs, rfl⟩
    obtain ⟨hlt, rfl⟩ := nums_at hd
    refine h _ i1 b1 hi hb1 _ fun s i2 b2 gs h2 hb2 hs2 => ⟨hlt, ss ++ [s], i2, b2, by simp, by simp [hl], ?_, by omega, hb2, ?_, rfl⟩
    · intro s' hs'
      rcases List.mem_append.mp hs' with h | h
      · exact hg s' h
      · rw [List.mem_singleton.mp h]; exact gs
    · rw [Sy.sendss_append, Sy.sendss_cons]
      simp only [Sy.sendss, Sy.pres, List.filter_nil, List.length_nil] at hs ⊢
      omega
  · rintro ys S' ⟨_, ss, i1, b1, rfl, hl, hg, hi, hb1, hs, rfl⟩
    rw [nums_len] at hl
    exact q ss i1 b1 hl hg hi hb1 hs
theorem Sy.sends_parts (s : Sy) : s.sends = (match s with | .send _ _ => 1 | _ => 0) + Sy.sendss s.parts := by
  cases s <;> simp [Sy.sends, Sy.sendss, Sy.pre, Sy.parts, Sy.pres] <;> omega
noncomputable def arP (prog : List Er) : Str → Option Nat := arOf (prog.map Er.name) (prog.map fun e => e.ps.length)
structure Good (prog : List Er) (most deep b : Nat) : Prop where
  len1 : 1 ≤ prog.length
  len : prog.length ≤ most
  nd : (prog.map Er.name).Nodup
  nm : ∀ e ∈ prog, NameOk e.name
  ps : ∀ e ∈ prog, 1 ≤ e.ps.length ∧ e.ps.length ≤ 4 ∧ e.ps.Nodup ∧ ∀ x ∈ e.ps, NameOk x
  wf : ∀ e ∈ prog, e.body.wf (arP prog) e.ps ∧ e.body.deep ≤ deep
  sends : (prog.map fun e => e.body.sends).sum ≤ b
theorem arP_eq {ers : List Er} {names : List Str} {counts : List Nat} (h1 : ers.map Er.name = names) (h2 : (ers.map fun e => e.ps.length) = counts) : arP ers = arOf names counts := by
  unfold arP; rw [h1, h2]
theorem ps_ok {n c : Nat} {xs : List Str} (r : Row n xs) (hc : c ≤ n) : (xs.take c).length = c ∧ (xs.take c).Nodup ∧ ∀ x ∈ xs.take c, NameOk x := by
  refine ⟨by rw [List.length_take, r.len]; omega, r.nd.sublist (List.take_sublist _ _), fun x hx => r.ok x (List.mem_of_mem_take hx)⟩
structure ErOk (ar : Str → Option Nat) (deep : Nat) (e : Er) : Prop where
  l1 : 1 ≤ e.ps.length
  l4 : e.ps.length ≤ 4
  nd : e.ps.Nodup
  ok : ∀ x ∈ e.ps, NameOk x
  wf : e.body.wf ar e.ps
  dp : e.body.deep ≤ deep
theorem good_of {ers : List Er} {names : List Str} {counts : List Nat} {n most deep b : Nat} (Rn : Row n names) (h1 : ers.map Er.name = names) (h2 : (ers.map fun e => e.ps.length) = counts) (hn1 : 1 ≤ n) (hn : n ≤ most)
    (hk : ∀ e ∈ ers, ErOk (arOf names counts) deep e) (hs : (ers.map fun e => e.body.sends).sum ≤ b) : Good ers most deep b := by
  have hl : ers.length = n := by rw [← Rn.len, ← h1, List.length_map]
  refine ⟨by omega, by omega, by rw [h1]; exact Rn.nd, fun e he => Rn.ok _ (by rw [← h1]; exact List.mem_map_of_mem he), fun e he => ⟨(hk e he).l1, (hk e he).l4, (hk e he).nd, (hk e he).ok⟩, fun e he => ⟨?_, (hk e he).dp⟩, hs⟩
  rw [arP_eq h1 h2]
  exact (hk e he).wf
end E3
namespace E3
open PySem PySem.Spec PyProof.Rows L2 EE
noncomputable def Sy.nm : Sy → Option Str
  | .send x _ => some x
  | _ => none
noncomputable def Sy.sent (s : Sy) : List Str := s.pre.filterMap Sy.nm
noncomputable def sendsOf (prog : List Er) : List (Str × Str) := (prog.map fun e => e.body.sent.map fun to => (e.name, to)).flatten
mutual
theorem Sy.d_pure : ∀ s : Sy, s.d.pure = true
  | .name x => rfl
  | .bud => rfl
  | .pair a b => by simp only [Sy.d, D.pure, D.pures, a.d_pure, b.d_pure, Bool.and_self]
  | .left a => by simp only [Sy.d, D.pure, D.pures, a.d_pure, Bool.and_self]
  | .right a => by simp only [Sy.d, D.pure, D.pures, a.d_pure, Bool.and_self]
  | .fork a b c => by simp only [Sy.d, D.pure, D.pures, a.d_pure, b.d_pure, c.d_pure, Bool.and_self]
  | .send x as => by simp only [Sy.d, D.pure, D.pures, Sy.ds_pure as, Bool.and_self]
theorem Sy.ds_pure : ∀ as : List Sy, D.pures (Sy.ds as) = true
  | [] => rfl
  | a :: as => by simp only [Sy.ds, D.pures, a.d_pure, Sy.ds_pure as, Bool.and_self]
end
mutual
theorem Sy.d_deep : ∀ s : Sy, deepD s.d.dt ≤ 2 * s.deep
  | .name x => by simp [Sy.d, D.dt, D.dts, deepD, deepDs, Sy.deep]
  | .bud => by simp [Sy.d, D.dt, D.dts, deepD, deepDs, Sy.deep]
  | .pair a b => by
    have h1 := a.d_deep
    have h2 := b.d_deep
    simp only [Sy.d, D.dt, D.dts, deepD, deepDs, Sy.deep]; omega
  | .left a => by
    have h1 := a.d_deep
    simp only [Sy.d, D.dt, D.dts, deepD, deepDs, Sy.deep]; omega
  | .right a => by
    have h1 := a.d_deep
    simp only [Sy.d, D.dt, D.dts, deepD, deepDs, Sy.deep]; omega
  | .fork a b c => by
    have h1 := a.d_deep
    have h2 := b.d_deep
    have h3 := c.d_deep
    simp only [Sy.d, D.dt, D.dts, deepD, deepDs, Sy.deep]; omega
  | .send x as => by
    have h1 := Sy.ds_deep as
    simp only [Sy.d, D.dt, D.dts, deepD, deepDs, Sy.deep]; omega
theorem Sy.ds_deep : ∀ as : List Sy, deepDs (D.dts (Sy.ds as)) ≤ 2 * Sy.deeps as
  | [] => by simp [Sy.ds, D.dts, deepDs]
  | a :: as => by
    have h1 := a.d_deep
    have h2 := Sy.ds_deep as
    simp only [Sy.ds, D.dts, deepDs, Sy.deeps]; omega
end
theorem D.strs_pure (xs : List Str) : D.pures (xs.map D.str) = true := D.pures_iff.mpr fun d hd => by
  obtain ⟨x, _, rfl⟩ := List.mem_map.mp hd
  rfl
theorem deepDs_le {ds : List Dt} {n : Nat} (h : ∀ d ∈ ds, deepD d ≤ n) : deepDs ds ≤ n := by
  induction ds with
  | nil => simp [deepDs]
  | cons d r ih =>
    simp only [deepDs]
    have h1 := h d List.mem_cons_self
    have h2 := ih fun e he => h e (List.mem_cons_of_mem _ he)
    omega
theorem D.strs_deep (xs : List Str) : deepDs (D.dts (xs.map D.str)) ≤ 0 := by
  rw [D.dts_map]
  refine deepDs_le fun d hd => ?_
  obtain ⟨x, hx, rfl⟩ := List.mem_map.mp hd
  obtain ⟨y, _, rfl⟩ := List.mem_map.mp hx
  simp [D.dt, deepD]
theorem Er.d_pure (e : Er) : e.d.pure = true := by simp only [Er.d, D.pure, D.pures, D.strs_pure, e.body.d_pure, Bool.and_self]
theorem Er.d_deep (e : Er) : deepD e.d.dt ≤ 2 * e.body.deep + 2 := by
  have h1 := e.body.d_deep
  have h2 := D.strs_deep e.ps
  simp only [Er.d, D.dt, D.dts, deepD, deepDs]
  omega
end E3
namespace EE
open PySem PySem.Spec PyProof.Rows L2
end EE
namespace EE
open PySem PySem.Spec PyProof.Rows L2
end EE
namespace E3
open PySem PySem.Spec PyProof.Rows L2 EE
end E3
namespace E3
open PySem PySem.Spec PyProof.Rows L2 EE
end E3
namespace E3
open PySem PySem.Spec PyProof.Rows L2 EE
end E3
namespace EE
open PySem PySem.Spec PyProof.Rows L2
theorem vals_ints : ∀ {ns : List Int} {us : List Value}, Vals (ns.map V.int) us → ∃ ps : List (Int × Tok), us = ps.map (fun p => .int p.1 p.2) ∧ ps.map (·.1) = ns
  | [], _, .nil => ⟨[], rfl, rfl⟩
  | n :: ns, _, .cons r t => by
    obtain ⟨tk, rfl⟩ := r
    obtain ⟨ps, rfl, e⟩ := vals_ints t
    exact ⟨(n, tk) :: ps, rfl, by rw [List.map_cons, e]⟩
theorem vals_bls : ∀ {bs : List Bool} {us : List Value}, Vals (bs.map V.bl) us → us = bs.map Value.bool
  | [], _, .nil => rfl
  | b :: bs, _, .cons r t => by
    cases r
    rw [vals_bls t]
    rfl
section
variable {X : Cx}
theorem range_all (bs : List Bool) : ((List.range bs.length).all fun i => bs.getD i true) = bs.all id := by
  rw [Bool.eq_iff_iff, List.all_eq_true, List.all_eq_true]
  constructor
  · intro h b hb
    obtain ⟨j, hj, rfl⟩ := List.getElem_of_mem hb
    have := h j (List.mem_range.mpr hj)
    rw [List.getD_eq_getElem?_getD, List.getElem?_eq_getElem hj] at this
    exact this
  · intro h j hj
    have hj' := List.mem_range.mp hj
    rw [List.getD_eq_getElem?_getD, List.getElem?_eq_getElem hj']
    exact h _ (List.getElem_mem hj')
theorem bls_truth {prog : Program} {w : World} {A : Around} {bs : List Bool} : TruthOf prog w A (fun i v => (bs.map Value.bool).toArray[i]? = some v) (fun i => bs.getD i true) := by
  intro i v s Q E hP hQ
  rw [List.getElem?_toArray, List.getElem?_map] at hP
  obtain ⟨b, hb, rfl⟩ := Option.map_eq_some_iff.mp hP
  dsimp only at hQ
  rw [List.getD_eq_getElem?_getD, hb] at hQ
  exact wpAny_truthy_bool hQ
theorem call_allL (hc : X.calm = true) : CallR X (.builtin "all") (fun xs H Q => ∃ (a : Addr) (bs : List Bool), xs = [.ref a] ∧ SqL X.K H a (bs.map V.bl) ∧ Q (.bl (bs.all id)) H) := by
  intro pins s σ H xs us Q I r h
  obtain ⟨a, bs, rfl, hq, q⟩ := h
  obtain ⟨u, rfl, r1⟩ := vals1 r
  cases r1
  obtain ⟨its, rv, p, hz⟩ := I.list hq
  obtain rfl := vals_bls rv
  have pl := p.isList
  have hlt : a < s.heap.objs.size := by
    obtain ⟨_, e, _⟩ := pl
    exact Heap.lt_size e
  refine call_all_walk (wpAny_pyIter_list pl ⟨_, _, _, _, _, _, _, rfl, Walks.list (A := X.A.in1) (I.ok.hd hc) s.heap.objs.size a (Nat.ne_of_lt hlt) (bs.map Value.bool).toArray, ⟨⟨_, Heap.get?_push_size _ rfl, rfl, rfl⟩, pl.push _⟩, bls_truth, fun h' tk hk => ?_⟩)
  have hz : (bs.map Value.bool).toArray.size = bs.length := by simp
  rw [hz, range_all]
  refine ⟨.bl _, H, I.kept fun b o e => hk b o (fun hm => ?_) (Heap.get?_push_of_some _ e), rfl, q⟩
  have e1 : b = s.heap.objs.size := by simpa using hm
  exact absurd (Heap.lt_size e) (by rw [e1]; exact Nat.lt_irrefl _)
end
end EE
namespace E3
open PySem PySem.Spec PyProof.Rows L2 EE
section
variable {K : PySem.W.Frag}
theorem bls_down {H : Hp} {bs : List Bool} {vs : List V} (h : Rps K H (bs.map D.bl) vs) : vs = bs.map V.bl := by
  induction bs generalizing vs with
  | nil => cases h; rfl
  | cons n ns ih =>
    rw [List.map_cons] at h
    cases h with
    | cons h t => cases h; rw [ih t]; rfl
def all3 (f : List Bool → Bool) : List D → Hp3 → K3 → Prop := fun xs S Q => ∃ (x : D) (bs : List Bool), xs = [x] ∧ IsL S x (bs.map D.bl) ∧ Q (.bl (f bs)) S
theorem dn_all {f : List Bool → Bool} : DnC K (all3 f) (fun xs H Q => ∃ (a : Addr) (bs : List Bool), xs = [.ref a] ∧ SqL K H a (bs.map V.bl) ∧ Q (.bl (f bs)) H) := by
  intro Z ds S Q3 vs H Q r l h c
  obtain ⟨x, bs, rfl, hx, q⟩ := h
  cases r with
  | cons r rr =>
    cases rr
    obtain ⟨a, ws, rfl, h1, h2⟩ := hx.down r l
    rw [bls_down h2] at h1
    exact ⟨a, bs, rfl, h1, c _ S _ H (Kp.refl _ _) (.bl _) l q⟩
def chain3 (r r' : R3) (ta tb tc : TE3) : TE3 := fun σ S Q => ta σ S fun x S1 => tb σ S1 fun y S2 => r x y S2 fun z S3 => ∃ k, z = .bl k ∧ (if k = true then tc σ S3 fun u S4 => r' y u S4 Q else Q (.bl false) S3)
theorem chain_down {Z : Zt} {r r' : R2} {r3 r3' : R3} {ta tb tc : TE3} {τ : L2.St} {H : Hp} {Q : VK} (hd : Dn2 K r3 r) (hd' : Dn2 K r3' r') (h : lE K Z (chain3 r3 r3' ta tb tc) τ H Q) : tChain r r' (lE K Z ta) (lE K Z tb) (lE K Z tc) τ H Q := by
  obtain ⟨σ, S, Q3, hs, hr, ht, hc⟩ := h
  refine ⟨σ, S, _, hs, hr, ht, fun x S1 v H1 k1 r1 l1 q1 => ⟨σ, S1, _, hs.mono k1, l1, q1, fun y S2 w H2 k2 r2 l2 q2 => ?_⟩⟩
  refine hd Z x y S2 _ v w H2 _ (r1.mono k2) r2 l2 q2 fun z S3 u H3 k3 r3 l3 q3 => ?_
  obtain ⟨k, rfl, q3⟩ := q3
  cases r3
  refine ⟨k, rfl, ?_⟩
  cases k with
  | false =>
    rw [if_neg Bool.false_ne_true] at q3 ⊢
    exact hc (.bl false) S3 _ H3 (k1.trans (k2.trans k3)) (.bl false) l3 q3
  | true =>
    rw [if_pos rfl] at q3 ⊢
    exact ⟨σ, S3, _, hs.mono (k1.trans (k2.trans k3)), l3, q3, fun u S4 u' H4 k4 r4 l4 q4 => hd' Z y u S4 _ w u' H4 _ (r2.mono (k3.trans k4)) r4 l4 q4 (hc.mono (k1.trans (k2.trans (k3.trans k4))))⟩
end
section
variable {X : Cx} {W3 : W3T} {a b c : Expr} {ta tb tc : TE3} {pos : Pos} {op op' : CmpOp} {r r' : R2} {r3 r3' : R3}
theorem e_chain (ho : OpR X (compareOp op) r) (hd : Dn2 X.K r3 r) (ho' : OpR X (compareOp op') r') (hd' : Dn2 X.K r3' r') (ha : PE3 X W3 a ta) (hb : PE3 X W3 b tb) (hc : PE3 X W3 c tc) (hm : lastMarks [op, op'] [b, c] = false := by with_unfolding_all rfl) :
    PE3 X W3 (.Compare a [op, op'] [b, c] pos) (chain3 r3 r3' ta tb tc) := fun Z => PE.imp (pe_chain ho ho' (ha Z) (hb Z) (hc Z) hm) fun _ _ _ h => chain_down hd hd' h
end
section
variable {σ : St3} {S : Hp3} {Q : K3} {ta tb tc : TE3} {r r' : R3}
theorem j_chain (h : ta σ S fun x S1 => tb σ S1 fun y S2 => r x y S2 fun z S3 => ∃ k, z = .bl k ∧ (if k = true then tc σ S3 fun u S4 => r' y u S4 Q else Q (.bl false) S3)) : chain3 r r' ta tb tc σ S Q := h
theorem j_all {f : List Bool → Bool} {a : Addr} {bs : List Bool} (hS : S a = some (.lst (bs.map D.bl))) (q : Q (.bl (f bs)) S) : all3 f [.ref a] S Q := ⟨_, bs, rfl, .inl ⟨a, rfl, hS⟩, q⟩
end
def ifm3 (c : TT3) (t u : TS3) : TS3 := ifs3 c t u
theorem s_ifm {X : Cx} {W3 : W3T} {c : Expr} {a b : List Stmt} {tc : TT3} {t u : TS3} {pos : Pos} (hc : PT3 X W3 c tc) (ha : PSs3 X W3 a t) (hb : PSs3 X W3 b u) : PS3 X W3 (.If c a b pos) (ifm3 tc t u) := s_if hc ha hb
theorem j_ifm {tc : TT3} {t u : TS3} {n : St3 → Hp3 → Prop} {rt : K3} {bk ct : St3 → Hp3 → Prop} {σ : St3} {S : Hp3} (Mid : St3 → Hp3 → Prop) (h1 : ∀ n' : St3 → Hp3 → Prop, (∀ σ S, Mid σ S → n' σ S) → ifs3 tc t u ⟨n', rt, bk, ct⟩ σ S)
    (h2 : ∀ σ S, Mid σ S → n σ S) : ifm3 tc t u ⟨n, rt, bk, ct⟩ σ S := h1 n h2
end E3
namespace E3
open PySem PySem.Spec PyProof.Rows L2 EE
noncomputable abbrev Mat := List (List Int)
structure Mt (m n : Nat) (A : Mat) : Prop where
  len : A.length = m
  row : ∀ r ∈ A, r.length = n
  num : ∀ r ∈ A, ∀ x ∈ r, 0 ≤ x ∧ x ≤ 2
theorem eq_pure {S : Hp3} {d : D} {n : Nat} {Q : K3} (hp : d.pure = true) (hd : deepD d.dt ≤ n) (q : Q (.bl true) S) : eqD3 n d d S Q := ⟨d.dt, d.dt, Dn.of hp, Dn.of hp, hd, by rw [eqD_refl]; exact q⟩
end E3
namespace E3
open PySem PySem.Spec PyProof.Rows L2 EE
end E3
namespace E3
open PySem PySem.Spec PyProof.Rows L2 EE
open Classical in
theorem nodup_le {α : Type} [DecidableEq α] : ∀ {ks ns : List α}, ks.Nodup → (∀ x ∈ ks, x ∈ ns) → ks.length ≤ ns.length
  | [], _, _, _ => Nat.zero_le _
  | k :: ks, ns, h, hs => by
    have hk := hs k List.mem_cons_self
    have h1 := List.length_erase_of_mem hk
    have h2 : 0 < ns.length := List.length_pos_of_mem hk
    have h3 := nodup_le (ks := ks) (ns := ns.erase k) (List.nodup_cons.mp h).2 fun x hx => by
      have hne : x ≠ k := fun e => (List.nodup_cons.mp h).1 (e ▸ hx)
      exact (List.mem_erase_of_ne hne).mpr (hs x (List.mem_cons_of_mem _ hx))
    simp only [List.length_cons]
    omega
end E3
namespace EE
open PySem PySem.Spec PyProof.Rows L2
end EE
namespace E3
open PySem PySem.Spec PyProof.Rows L2 EE
end E3
namespace EE
open PySem PySem.Spec PyProof.Rows L2
noncomputable def stS (σ : List Str) (v : Str) : List Str := if v ∈ σ then σ else σ ++ [v]
noncomputable def met (vs : List Str) : List Str := vs.foldl stS []
end EE
namespace EE
open PySem PySem.Spec PyProof.Rows L2
end EE
namespace E3
open PySem PySem.Spec PyProof.Rows L2 EE
end E3
namespace EE
open PySem PySem.Spec PyProof.Rows L2
noncomputable def ItvL (K : PySem.W.Frag) (a : Addr) (n : Nat) : It :=
  ⟨fun i H => i < n ∧ ∃ xs, SqL K H a xs ∧ xs.length = n, fun i H x H' => H' = H ∧ ∀ xs, SqL K H a xs → xs[n - 1 - i]? = some x, fun i _ => n ≤ i⟩
theorem turn_revL {P : Program} {w : World} {K : PySem.W.Frag} {tg : Expr} (a it : Addr) (n : Nat) : Turn P w K tg (ItvL K a n) [it] it (fun i h => i ≤ n ∧ h.IsRevIter it a ((n : Int) - 1 - (i : Int))) where
  mem := by simp
  obj := fun i h st b hb => by
    have e : b = it := by simpa using hb
    subst e
    obtain ⟨_, o, e, c, d⟩ := st
    exact ⟨o, e, fun v z => by rw [d] at z; cases z⟩
  keep := fun i h h' st k => let ⟨hi, o, ho, r⟩ := st; ⟨hi, o, k it (by simp) o ho, r⟩
  item := by
    intro X hP hw hK hc i pins s σ H E I hf st hg
    subst hP hw hK
    obtain ⟨hi, xs, hq, hn⟩ := hg
    obtain ⟨its, rv, p, hz⟩ := I.list hq
    have hl := rv.length
    have hx : xs[n - 1 - i]? = some xs[n - 1 - i] := List.getElem?_eq_getElem (by omega)
    obtain ⟨u, hu, ru⟩ := rv.get hx
    obtain ⟨f0, f1, f2, f3, f4, f5⟩ := hf it (by simp)
    have e1 : (n : Int) - 1 - (i : Int) = ((n - 1 - i : Nat) : Int) := by omega
    have st2 := st.2
    rw [e1] at st2
    refine wpAny_pyNext_rev_item st2 p.isList (x := u) (by simpa using hu) fun h' st' sb => ?_
    have I1 : Inv X pins σ H { s with heap := h' } := I.turned (t' := s.toks) (fun b o hb e => (sb.2 b hb).trans e) f0 f1 f3 f4 f5
    obtain ⟨o, e, c, d⟩ := id st'
    have e2 : ((n - 1 - i : Nat) : Int) - 1 = (n : Int) - 1 - ((i + 1 : Nat) : Int) := by omega
    refine ⟨u, rfl, go_of (s := { s with heap := h' }) e c d (by decide) ⟨xs[n - 1 - i], H, I1, ru, ⟨rfl, fun ys hy => by rw [I.list_inj hy hq]; exact hx⟩, ⟨hi, ?_⟩, fun b hb => (hf b hb).1⟩⟩
    rw [← e2]
    exact st'
  done := by
    intro X hP hw hK hc i pins s σ H E I hf st hg
    subst hP hw hK
    obtain ⟨f0, f1, f2, f3, f4, f5⟩ := hf it (by simp)
    have hg' : n ≤ i := hg
    have e1 : (n : Int) - 1 - (i : Int) = -1 := by have := st.1; omega
    have st2 := st.2
    rw [e1] at st2
    exact wpAny_pyNext_rev_end (I.ok.hd hc) st2 fun h' eb => ⟨rfl, I.turned (t' := s.toks) (fun b o hb e => eb b o hb e) f0 f1 f3 f4 f5⟩
  self := fun _ _ _ _ _ st h => wpAny_pyIter_revIter st.2 h
def iRevL (K : PySem.W.Frag) (te : TA) : TI := fun σ H R => te σ H fun vs H1 => ∃ a xs, vs = [.ref a] ∧ SqL K H1 a xs ∧ R (ItvL K a xs.length) H1
theorem pi_revL {X : Cx} {tg a : Expr} {ta : TA} {p pos : Pos} (hg : Gl X "reversed") (hm : X.mg "reversed" = none) (ha : PA X [a] ta) (hs : starEach [a] X.env = [(false, eval a X.env)] := by rfl) : PI X tg (.Call (.Name "reversed" p) [a] [] pos) (iRevL X.K ta) := by
  intro pins s σ H R I h
  refine Call_ (ld_blt I hg hm boot_rev (PyProof.Rows.callWith_type1 (thn (ha pos pins s σ H _ I h) fun us s1 ⟨vs, H1, I1, r1, q1⟩ => ?_) hs rfl))
  obtain ⟨b, xs, e, hq, q⟩ := q1
  subst e
  cases r1 with
  | cons r rr =>
    cases rr
    cases r
    obtain ⟨its, rv, pt, hz⟩ := I1.list hq
    have hl := rv.length
    refine call_reversed_list pt.isList ?_
    have I2 : Inv X pins σ H1 { s1 with heap := s1.heap.push (revObj b ((its.toArray.size : Int) - 1)) } := I1.kept (t' := s1.toks) fun c o e => Heap.get?_push_of_some _ e
    have st : (s1.heap.push (revObj b ((its.toArray.size : Int) - 1))).IsRevIter s1.heap.objs.size b ((its.toArray.size : Int) - 1) := ⟨_, Heap.get?_push_size _ rfl, rfl, rfl⟩
    refine wpAny_pyIter_revIter st ?_
    have e1 : (its.toArray.size : Int) - 1 = (xs.length : Int) - 1 - ((0 : Nat) : Int) := by simp only [List.size_toArray]; omega
    refine ⟨s1.heap.objs.size, [s1.heap.objs.size], _, _, H1, rfl, I2, turn_revL b _ xs.length, ⟨Nat.zero_le _, by rw [← e1]; exact st⟩, fun c hc => ?_, q⟩
    have e : c = s1.heap.objs.size := by simpa using hc
    subst e
    exact I1.fpOk (Nat.le_refl _) (I1.hok.fresh (Nat.le_refl _))
end EE
namespace E3
open PySem PySem.Spec PyProof.Rows L2 EE
section
variable {X : Cx} {W3 : W3T} {tg : Expr} {pos : Pos}
def iRevL3 (ta : TA3) : TI3 := fun σ S R => ta σ S fun xs S1 => ∃ a ds, xs = [.ref a] ∧ S1 a = some (.lst ds) ∧ R ds.reverse (fun S => S a = some (.lst ds)) S1
theorem i_revL {a : Expr} {ta : TA3} {p : Pos} (hg : Gl X "reversed") (hm : X.mg "reversed" = none) (ha : PA3 X W3 [a] ta) (hs : starEach [a] X.env = [(false, eval a X.env)] := by rfl) : PI3 X W3 tg (.Call (.Name "reversed" p) [a] [] pos) (iRevL3 ta) :=
  fun Z => PI.imp (pi_revL hg hm (ha Z) hs) fun τ H R z_1 => by
  obtain ⟨σ, S, R3, hs, hr, ht, hc⟩ := z_1
  refine ⟨σ, S, _, hs, hr, ht, fun xs S1 vs0 H1 k1 r1 l1 q1 => ?_⟩
  obtain ⟨b, ds, rfl, e, q⟩ := q1
  cases r1 with
  | cons r1 rr =>
    cases rr
    cases r1
    obtain ⟨vs, h1, h2⟩ := l1.obj b _ e
    have hl := h2.len
    refine ⟨b, vs, rfl, SqL.of h1, hc _ _ S1 _ H1 k1 l1 q ⟨fun i d S2 H2 k2 l2 al hd => ?_, fun S2 H2 k2 l2 al => ?_⟩⟩
    · have hi : i < ds.length := by
        have := (List.getElem?_eq_some_iff.mp hd).1
        simpa using this
      rw [List.getElem?_reverse hi] at hd
      obtain ⟨ws, h3, h4⟩ := l2.obj b _ al
      have hl4 := h4.len
      obtain ⟨v, hv, rv⟩ := h4.at hd
      rw [hl] at hv
      refine ⟨⟨by omega, ws, SqL.of h3, by omega⟩, fun v' H' y => ?_⟩
      obtain ⟨rfl, y⟩ := y
      have := y ws (SqL.of h3)
      rw [hv] at this
      cases this
      exact ⟨Kp.refl _ _, rv, fun _ z => z, fun _ _ => rfl⟩
    · show vs.length ≤ ds.reverse.length
      rw [List.length_reverse, hl]
      exact Nat.le_refl _
end
end E3
namespace EE
open PySem PySem.Spec PyProof.Rows L2
end EE
namespace E3
open PySem PySem.Spec PyProof.Rows L2 EE
end E3
namespace EE
open PySem PySem.Spec PyProof.Rows L2
end EE
namespace E3
open PySem PySem.Spec PyProof.Rows L2 EE
section
variable {K : PySem.W.Frag} {S : Hp3} {Q : K3}
theorem j_notinTS {xs : List Str} {z : Str} (q : Q (.bl (!decide (z ∈ xs))) S) : in3 true (.str z) (.tup (xs.map D.str)) S Q :=
  ⟨_, .inr rfl, rfl, flat_strs xs, by rw [memD_strs, if_pos rfl]; exact q⟩
end
section
variable {σ : St3} {S : Hp3} {R : RI} {al : TA3}
def revLA (R : RI) (xs : List D) (S : Hp3) : Prop := ∃ a ds, xs = [.ref a] ∧ S a = some (.lst ds) ∧ R ds.reverse (fun S => S a = some (.lst ds)) S
theorem j_iRevL (h : al σ S fun xs S1 => revLA R xs S1) : iRevL3 al σ S R := h
theorem j_revL {a : Addr} {ds : List D} (hS : S a = some (.lst ds)) (q : R ds.reverse (fun S => S a = some (.lst ds)) S) : revLA R [.ref a] S := ⟨a, ds, rfl, hS, q⟩
end
end E3
namespace E3
open PySem PySem.Spec PyProof.Rows L2 EE
end E3
namespace E3
open PySem PySem.Spec PyProof.Rows L2 EE
end E3
namespace E3
open PySem PySem.Spec PyProof.Rows L2 EE
end E3
namespace CL
section
variable {α : Type} [DecidableEq α]
variable {fit : α → α → Bool} {cmp : α → α → α}
theorem nodup_le {β : Type} [DecidableEq β] : ∀ {l c : List β}, l.Nodup → (∀ x ∈ l, x ∈ c) → l.length ≤ c.length
  | [], _, _, _ => Nat.zero_le _
  | x :: l, c, h, hs => by
    have hx := hs x List.mem_cons_self
    have h1 := nodup_le (l := l) (c := c.erase x) (List.nodup_cons.mp h).2 fun y hy => by
      refine (List.mem_erase_of_ne ?_).mpr (hs y (List.mem_cons_of_mem _ hy))
      rintro rfl
      exact (List.nodup_cons.mp h).1 hy
    rw [List.length_erase_of_mem hx] at h1
    have : 0 < c.length := List.length_pos_of_mem hx
    rw [List.length_cons]
    omega
section
variable {β : Type} [DecidableEq β] {φ : α → β} {Gd : α → Prop} {C : List β} (inj : ∀ a b, Gd a → Gd b → φ a = φ b → a = b)
include inj
end
end
end CL
namespace EE
open PySem PySem.Spec PyProof.Rows L2
end EE
namespace EE
open PySem PySem.Spec PyProof.Rows L2
namespace FE
end FE
end EE
namespace E3
open PySem PySem.Spec PyProof.Rows L2 EE
end E3
namespace EE
open PySem PySem.Spec PyProof.Rows L2
end EE
namespace E3
open PySem PySem.Spec PyProof.Rows L2 EE
noncomputable abbrev Gr := Str × Str × Mat
structure Gd (ar : Str → Option Nat) (g : Gr) : Prop where
  ex : ∃ m n, ar g.1 = some m ∧ ar g.2.1 = some n ∧ 1 ≤ m ∧ 1 ≤ n ∧ m ≤ 4 ∧ n ≤ 4 ∧ Mt m n g.2.2
end E3
namespace E3
open PySem PySem.Spec PyProof.Rows L2 EE
end E3
namespace E3
open PySem PySem.Spec PyProof.Rows L2 EE
end E3
namespace E3
noncomputable abbrev cD (counts : List Nat) : List D := counts.map fun c : Nat => D.int (c : Int)
end E3
namespace E3
open PySem PySem.Spec PyProof.Rows L2 EE
end E3
namespace E3
open PySem PySem.Spec PyProof.Rows L2 EE
noncomputable def tb (xs ys : List Str) (x : Str) : Str := ys.getD (xs.idxOf x) ""
end E3
namespace CL
end CL
namespace E3
open PySem PySem.Spec PyProof.Rows L2 EE
noncomputable def putI (f : Str) (d : D) : List (Str × D) → List (Str × D)
  | [] => [(f, d)]
  | (k, x) :: r => if k = f then (k, d) :: r else (k, x) :: putI f d r
abbrev FP (K : PySem.W.Frag) (H : Hp) (fs : List (Str × D)) (ws : List (Str × V)) : Prop := Paired (fun (p : Str × D) (q : Str × V) => p.1 = q.1 ∧ Rp K H p.2 q.2) fs ws
section
variable {K : PySem.W.Frag} {H : Hp}
theorem FP.look {f : Str} {d : D} : ∀ {fs : List (Str × D)} {ws : List (Str × V)}, FP K H fs ws → fs.lookup f = some d → ∃ v, ws.lookup f = some v ∧ Rp K H d v
  | _, _, .nil, e => by simp at e
  | (k, x) :: fs, (k', y) :: ws, .cons ⟨h1, h2⟩ t, e => by
    have h1 : k = k' := h1
    subst h1
    by_cases hb : (f == k) = true
    · simp only [List.lookup, hb] at e ⊢
      cases e
      exact ⟨_, rfl, h2⟩
    · have hb : (f == k) = false := by simpa using hb
      simp only [List.lookup, hb] at e ⊢
      exact FP.look t e
theorem FP.none {f : Str} : ∀ {fs : List (Str × D)} {ws : List (Str × V)}, FP K H fs ws → fs.lookup f = none → ws.lookup f = none
  | _, _, .nil, _ => rfl
  | (k, x) :: fs, (k', y) :: ws, .cons ⟨h1, h2⟩ t, e => by
    have h1 : k = k' := h1
    subst h1
    by_cases hb : (f == k) = true
    · simp only [List.lookup, hb] at e
      cases e
    · have hb : (f == k) = false := by simpa using hb
      simp only [List.lookup, hb] at e ⊢
      exact FP.none t e
theorem FP.put {f : Str} {d : D} {v : V} (r : Rp K H d v) : ∀ {fs : List (Str × D)} {ws : List (Str × V)}, FP K H fs ws → FP K H (putI f d fs) (putF f v ws)
  | _, _, .nil => .cons ⟨rfl, r⟩ .nil
  | (k, x) :: fs, (k', y) :: ws, .cons ⟨h1, h2⟩ t => by
    have h1 : k = k' := h1
    subst h1
    rw [show putF f v ((k, y) :: ws) = (if k = f then (k, v) :: ws else (k, y) :: putF f v ws) from rfl, putI]
    by_cases hk : k = f
    · rw [if_pos hk, if_pos hk]; exact .cons ⟨rfl, r⟩ t
    · rw [if_neg hk, if_neg hk]; exact .cons ⟨rfl, h2⟩ (FP.put r t)
theorem FP.len : ∀ {fs : List (Str × D)} {ws : List (Str × V)}, FP K H fs ws → fs.length = ws.length
  | _, _, .nil => rfl
  | _, _, .cons _ t => by simp [FP.len t]
theorem FP.mono {Z : Zt} {H' : Hp} {fs : List (Str × D)} {ws : List (Str × V)} (k : Kp Z H H') (h : FP K H fs ws) : FP K H' fs ws := Paired.mapP h fun _ _ z => ⟨z.1, z.2.mono k⟩
end
def fldR (C : Addr) (f : Str) : D → Hp3 → K3 → Prop := fun x S Q => ∃ a fs d, x = .ref a ∧ S a = some (.ins C fs) ∧ fs.lookup f = some d ∧ Q d S
def fld3 (C : Addr) (t : TE3) (f : Str) : TE3 := fun σ S Q => t σ S fun x S1 => fldR C f x S1 Q
def putR (C : Addr) (f : Str) : D → D → Hp3 → (Hp3 → Prop) → Prop := fun x y S q => ∃ a fs, x = .ref a ∧ S a = some (.ins C fs) ∧ fs.length < 1000 ∧ q (up S a (.ins C (putI f y fs)))
def sfld3 (C : Addr) (ta tv : TE3) (f : Str) : TS3 := fun D3 σ S => tv σ S fun y S1 => ta σ S1 fun x S2 => putR C f x y S2 (D3.nx σ)
def methR (C : Addr) (m : Str) (k : Addr → Prop) (x : D) (S : Hp3) : Prop := ∃ a fs, x = .ref a ∧ S a = some (.ins C fs) ∧ fs.lookup m = none ∧ k a
def meth3 (C : Addr) (m : Str) (sp : Sp3) (W3 : W3T) (ta : TE3) (t : TA3) : TE3 := fun σ S Q => ta σ S fun x S1 => methR C m (fun a => t σ S1 fun ds S2 => sp (.ref a :: ds) S2 Q (W3 σ)) x S1
def meth03 (C : Addr) (m : Str) (sp : Sp3) (W3 : W3T) (ta : TE3) : TE3 := fun σ S Q => ta σ S fun x S1 => methR C m (fun a => sp [.ref a] S1 Q (W3 σ)) x S1
def make3 (C : Addr) (sp : Sp3) (W3 : W3T) (t : TA3) : TE3 := fun σ S Q => t σ S fun ds S1 => ∀ a, S1 a = none → sp (.ref a :: ds) (up S1 a (.ins C [])) (fun d S2 => d = .non ∧ Q (.ref a) S2) (W3 σ)
section
variable {X : Cx} {W3 : W3T} {o e value : Expr} {f : Str} {pos pos' : Pos} {ta tv t : TE3} {C : Addr}
theorem e_fld (c : Cls X.K C) (n : NoAttr X.K C f) (he : PE3 X W3 e t) (hb : attributeBase e f X.env (eval e X.env) = eval e X.env) : PE3 X W3 (.Attribute e f pos) (fld3 C t f) := by
  refine fun Z => PE.imp (pe_fld (he Z) hb) fun τ H Q ⟨σ, S, Q3, hs, hr, ht, hc⟩ => ?_
  refine ⟨σ, S, _, hs, hr, ht, fun d S1 v H1 k1 r1 l1 ⟨a, fs, d', e1, e2, e3, q⟩ => ?_⟩
  subst e1
  cases r1
  obtain ⟨dx, ws, h1, h2⟩ := l1.obj a _ e2
  obtain ⟨v', h3, h4⟩ := FP.look h2 e3
  exact ⟨a, C, dx, ws, v', rfl, h1, c, n, h3, hc d' S1 v' H1 k1 h4 l1 q⟩
theorem s_fld (c : Cls X.K C) (n : NoAttr X.K C f) (ha : PE3 X W3 o ta) (hv : PE3 X W3 value tv) (hs : swapsWith value (some (.Attribute o f pos')) pos.line X.env = pure false) : PS3 X W3 (.Assign [.Attribute o f pos'] value pos) (sfld3 C ta tv f) := by
  refine fun Z => PS.imp (ps_fld (ha Z) (hv Z) hs) fun D τ H ⟨D3, σ, S, hs, hr, ht, hc⟩ => ?_
  refine ⟨σ, S, _, hs, hr, ht, fun y S1 vy H1 k1 ry l1 q1 => ⟨σ, S1, _, hs.mono k1, l1, q1, fun x S2 vx H2 k2 rx l2 ⟨a, fs, e1, e2, hl, q⟩ => ?_⟩⟩
  subst e1
  cases rx
  obtain ⟨dx, ws, h1, h2⟩ := l2.obj a _ e2
  have k3 : Kp Z.z H2 (upd H2 a (.ins C dx (putF f vy ws))) := Kp.at l2 e2
  refine ⟨a, C, dx, ws, rfl, h1, c, n, by rw [← FP.len h2]; exact hl, hc.nx σ _ τ _ ((k1.trans k2).trans k3) (hs.mono ((k1.trans k2).trans k3)) (l2.put (o := .ins C (putI f y fs)) k3 (l2.notZ e2) ⟨dx, _, upd_same, ?_⟩) q⟩
  exact FP.put ((ry.mono k2).mono k3) (FP.mono k3 h2)
end
structure HasM (K : PySem.W.Frag) (C : Addr) (m q : Str) (st : Stmt) (ps : List Str) : Prop where
  ex : ∃ f fd, Fun K m q st f fd ∧ Binds K fd ps [] ∧ Meth K C m f
structure Met3 (P : Program) (w : World) (K : PySem.W.Frag) (mg : Str → Option Value) (base : Heap) (k : Nat) (C : Addr) (m : Str) (ps : List Str) (sp : Sp3) : Prop where
  ex : ∃ f fd, FnOk P w K mg base (CX1 P w) k f fd ps (lSp K sp) ∧ Binds K fd ps [] ∧ Meth K C m f
section
variable {P : Program} {w : World} {K : PySem.W.Frag} {mg : Str → Option Value} {base : Heap} {m q : Str} {C : Addr} {st : Stmt} {N ps : List Str} {k : Nat}
theorem Met3.mono {j k : Nat} {sp : Sp3} (M : Met3 P w K mg base j C m ps sp) (h : j ≤ k) : Met3 P w K mg base k C m ps sp := by
  obtain ⟨f, fd, F, r⟩ := M.ex
  exact ⟨f, fd, F.mono h, r⟩
theorem hasM_mk {f : Addr} {oc : Value} {od an : Option Addr} {osl : Array (Option Value)} {kV doc pm cdv ct : Value}
    (a : PySem.W.findIn K (.ref C) m = some (some (.ref f))) (i : PySem.W.isFn K (.ref f) = true) (l : K.lookup f = some ⟨oc, od, .func (PySem.W.fnOf m q (defArgs st) (defBody st) (defScope st) .none kV doc pm an cdv ct), osl⟩)
    (c : PySem.W.codeIn K cdv q = true) (k : PySem.W.keepIn K (.ref f) = true)
    (hb : ∀ (kV doc pm : Value) (an : Option Addr) (cdv ct : Value) (us : List Value), us.length = ps.length → bindArgs (PySem.W.fnOf m q (defArgs st) (defBody st) (defScope st) .none kV doc pm an cdv ct) ⟨us, []⟩ = pure (ps.zip us)) : HasM K C m q st ps := by
  have F := fun_mk (st := st) l c k
  exact ⟨f, _, F, F.binds hb, a, i, k⟩
theorem HasM.met3 {sp : Sp3} (h : HasM K C m q st ps) (S : FnScope N ps (defScope st)) (len : ∀ vs H Q E, sp vs H Q E → vs.length = ps.length)
    (hbody : ∀ (f : Addr) (cdv : Value) (A : Around) (outer : List Env) (s : Shared) (H : Hp) (E : XK) (ds : List D) (S : Hp3) (Q : K3) (E3 : X3), Room k (A.deeper (envOfC q (defScope st) s.heap.objs.size f cdv)) → sp ds S Q E3 →
      ∃ t, PSs3 (cxOf (CX1 P w) P w K mg base N q (defScope st) f cdv A outer s H E).nox NoX (defBody st) t ∧ t { nx := fun _ S' => Q .non S', rt := Q } (start3 N ds) S) : Met3 P w K mg base (k + 1) C m ps sp := by
  obtain ⟨f, fd, F, b, mt⟩ := h.ex
  obtain ⟨oc, od, kV, doc, pm, an, cdv, ct, osl, rfl, lk, hcd⟩ := F.ex
  refine ⟨f, _, fn_of lk hcd S (fun vs H Q E z_1 => by obtain ⟨Z, ds, S, Q3, E3, h1, _, h3, _, _⟩ := z_1; rw [← h1.len]; exact len _ _ _ _ h3) fun A outer s H vs Q E hr ⟨Z, ds, S3, Q3, E3, h1, h2, h3, h4, _⟩ => ?_, b, mt⟩
  obtain ⟨t, ht, q⟩ := hbody f cdv A outer s H E ds S3 Q3 E3 hr h3
  refine ⟨_, (ht (zx0 Z H)).nox, _, start3 N ds, S3, ?_, h2.into, q, ⟨?_, ?_, ?_, ?_⟩⟩
  · unfold start3 L2.start
    rw [h1.len]
    exact paired_append (SR.ofRps h1) (SR.nones _)
  · intro σ S' τ H' kk _ l q'
    exact h4 .non S' .non H' (kk.unhide fun _ z => z) .non (l.out h2 kk) q'
  · exact fun _ _ _ _ _ _ _ z => z
  · exact fun _ _ _ _ _ _ _ z => z
  · exact fun d S' v H' kk r l q' => h4 d S' v H' (kk.unhide fun _ z => z) r (l.out h2 kk) q'
theorem HasM.none3 {sp : Sp3} (h : HasM K C m q st ps) (no : ∀ ds S Q E, ¬ sp ds S Q E) (j : Nat) : Met3 P w K mg base j C m ps sp := by
  obtain ⟨f, fd, F, b, mt⟩ := h.ex
  exact ⟨f, fd, ⟨fun vs H Q E z_2 => by obtain ⟨_, _, _, _, _, _, _, z, _, _⟩ := z_2; exact absurd z (no _ _ _ _), fun A outer s H args us vs Q E _ _ _ _ z_3 => by obtain ⟨_, _, _, _, _, _, _, z, _, _⟩ := z_3; exact absurd z (no _ _ _ _)⟩, b, mt⟩
end
section
variable {X : Cx} {CX : CXT} {k : Nat} {f C : Addr} {fd : FuncData} {ps : List Str} {sp : Sp} {E : L2.St → XK} {x m : Str} {p pos apos : Pos} {e o : Expr} {es : List Expr} {ta : TE} {t : TA}
theorem run_fnA {pins : List (Addr × Obj)} {σ : L2.St} {H : Hp} {s : Shared} {Q : VK} {us : List Value} {vs : List V} (F : FnOk X.prog X.w X.K X.mg X.base CX k f fd ps sp) (hr : Room k X.A) (hb : Binds X.K fd ps []) (hx : ∀ τ, PassesAt CX X (E τ) τ)
    (I : Inv X pins σ H s) (r : Vals vs us) (h : sp vs H Q (E σ)) : wpAny (model X.prog X.w) X.A (call (.ref f) us) (EP X pins σ Q) X.xe s := by
  have hl : us.length = ps.length := by rw [← r.length]; exact F.len _ _ _ _ h
  have hb' := hb s us I.kIn (by rw [List.append_nil]; exact hl)
  rw [List.append_nil] at hb'
  refine wpAny_call (codeAny_mono (F.run X.A X.stack s H ⟨us, []⟩ us vs Q (E σ) hr I.env0 hb' r h) fun r s' hq => ?_)
  cases r with
  | error e => exact hx σ pins H s e s' I hq
  | ok fl =>
    cases fl with
    | ret u => exact I.after hq
    | next => exact False.elim hq
    | brk => exact False.elim hq
    | cont => exact False.elim hq
theorem pe_methA {pl : Sem Bool} (he : PE X o ta) (c : Cls X.K C) (hm : Meth X.K C m f) (F : FnOk X.prog X.w X.K X.mg X.base CX k f fd ps sp) (hr : Room k X.A) (hb : Binds X.K fd ps []) (hx : ∀ τ, PassesAt CX X (E τ) τ) (ha : PA X (e :: es) t)
    (hst : starEach (e :: es) X.env = (false, eval e X.env) :: starEach es X.env) (hpl : (backTo pos (starEach es X.env)).any (·.1) = false)
    (ht : eval (.Call (.Attribute o m apos) (e :: es) [] pos) X.env = (do
      let ov ← eval o X.env
      standAt apos.atName
      let (f, first) ← holding [ov] (getMethod ov m pl)
      callWith pos f first (backTo pos (starEach (e :: es) X.env)) (backToKw pos (keywordEach [] X.env)))) :
    PE X (.Call (.Attribute o m apos) (e :: es) [] pos) (fun τ H Q => ta τ H fun x H1 => ∃ a dx fs, x = .ref a ∧ H1 a = some (.ins C dx fs) ∧ fs.lookup m = none ∧ t τ H1 fun vs H2 => sp (.ref a :: vs) H2 Q (E τ)) := by
  intro pins s σ H Q I h
  refine PySem.W.methodCall_KW (pl := pl) (thn (he pins s σ H _ I h) fun u s1 ⟨x, H1, I1, rx, a, dx, fs, ex, ea, l, q⟩ => ?_) ht
  subst ex
  obtain rfl : u = Value.ref a := rx
  refine getmeth_ok I1 ea c hm l ?_
  refine PySem.W.callWith_K (first := [.ref a]) (h₀ := X.base) I.ok.mod.kin hm.kp (thn (ha pos pins s1 σ H1 _ I1 q) fun us s2 ⟨vs, H2, I2, r, q2⟩ => ⟨I2.kIn, ?_⟩) hst hpl
  exact run_fnA (us := .ref a :: us) (vs := .ref a :: vs) F hr hb hx I2 (.cons rfl r) q2
theorem pe_methA0 {pl : Sem Bool} (he : PE X o ta) (c : Cls X.K C) (hm : Meth X.K C m f) (F : FnOk X.prog X.w X.K X.mg X.base CX k f fd ps sp) (hr : Room k X.A) (hb : Binds X.K fd ps []) (hx : ∀ τ, PassesAt CX X (E τ) τ)
    (ht : eval (.Call (.Attribute o m apos) [] [] pos) X.env = (do
      let ov ← eval o X.env
      standAt apos.atName
      let (f, first) ← holding [ov] (getMethod ov m pl)
      callWith pos f first (backTo pos (starEach [] X.env)) (backToKw pos (keywordEach [] X.env)))) :
    PE X (.Call (.Attribute o m apos) [] [] pos) (fun τ H Q => ta τ H fun x H1 => ∃ a dx fs, x = .ref a ∧ H1 a = some (.ins C dx fs) ∧ fs.lookup m = none ∧ sp [.ref a] H1 Q (E τ)) := by
  intro pins s σ H Q I h
  refine PySem.W.methodCall_KW (pl := pl) (thn (he pins s σ H _ I h) fun u s1 ⟨x, H1, I1, rx, a, dx, fs, ex, ea, l, q⟩ => ?_) ht
  subst ex
  obtain rfl : u = Value.ref a := rx
  refine getmeth_ok I1 ea c hm l ?_
  exact PySem.W.callWith_K0 (first := [.ref a]) I1.kIn hm.kp (run_fnA (us := [.ref a]) (vs := [.ref a]) F hr hb hx I1 (.cons rfl .nil) q)
theorem pe_makeA (M : Mk X.K C f) (F : FnOk X.prog X.w X.K X.mg X.base CX k f fd ps sp) (hr : Room (k + 1) X.A) (hg : Gl X x) (hm : X.mg x = some (.ref C)) (hb : Binds X.K fd ps []) (hx : ∀ τ, PassesAt CX X (E τ) τ)
    (ha : PA X (e :: es) t) (hdb : (x == ("__debug__" : Str)) = false) (he : starEach (e :: es) X.env = (false, eval e X.env) :: starEach es X.env) (hpl : (backTo pos (starEach es X.env)).any (·.1) = false) :
    PE X (.Call (.Name x p) (e :: es) [] pos) (fun τ H Q => t τ H fun vs H1 => ∀ x dx, H1 x = none → H1 dx = none → dx ≠ x →
      sp (.ref x :: vs) (upd (upd H1 dx (.own x)) x (.ins C dx [])) (fun v H2 => v = .non ∧ Q (.ref x) H2) (E τ)) := by
  intro pins s σ H Q I h
  refine wpAny_Call_Name_kw (ld_glob I hg hm ?_ hdb)
  refine PySem.W.callWith_K (h₀ := X.base) I.ok.mod.kin M.kp (thn (ha pos pins s σ H _ I h) fun us s1 ⟨vs, H1, I1, r, q⟩ => ⟨I1.kIn, ?_⟩) he hpl
  have hq := q (s1.heap.objs.size + 1) s1.heap.objs.size (I1.hok.fresh (Nat.le_succ _)) (I1.hok.fresh (Nat.le_refl _)) (Nat.ne_of_lt (Nat.lt_succ_self _))
  have I2 := Inv.made (C := C) I1
  have r2 : Vals (V.ref (s1.heap.objs.size + 1) :: vs) (Value.ref (s1.heap.objs.size + 1) :: us) := .cons rfl r
  have hl : (Value.ref (s1.heap.objs.size + 1) :: us).length = ps.length := by
    have e := r2.length
    rw [F.len _ _ _ _ hq] at e
    exact e.symm
  have hb' := hb _ (Value.ref (s1.heap.objs.size + 1) :: us) I2.kIn (by rw [List.append_nil]; exact hl)
  rw [List.append_nil] at hb'
  refine wpAny_call (make_map (f := f) I1.kIn M.makes M.init (beq_iff_eq.mp M.fn) (codeAny_mono (F.run _ X.stack _ _ ⟨Value.ref (s1.heap.objs.size + 1) :: us, []⟩ (Value.ref (s1.heap.objs.size + 1) :: us) _ _ (E σ) (hr.make C us [])
    (I2.env0.make C us []) hb' r2 hq) fun r s' hq' => ?_))
  cases r with
  | error e => exact hx σ pins _ _ e s' I2 hq'
  | ok fl =>
    cases fl with
    | ret u =>
      obtain ⟨v, H', I3, rv, ev, q3⟩ := I2.after hq'
      subst ev
      exact ⟨rv, ⟨V.ref (s1.heap.objs.size + 1), H', I3, rfl, q3⟩⟩
    | next => exact False.elim hq'
    | brk => exact False.elim hq'
    | cont => exact False.elim hq'
end
section
variable {X : Cx} {W3 : W3T} {k : Nat} {C : Addr} {m y : Str} {ps : List Str} {sp : Sp3} {pos apos p : Pos} {o e : Expr} {es : List Expr} {ta : TE3} {t : TA3}
theorem e_meth {pl : Sem Bool} (M : Met3 X.prog X.w X.K X.mg X.base k C m ps sp) (c : Cls X.K C) (hr : Room k X.A) (he : PE3 X W3 o ta) (ha : PA3 X W3 (e :: es) t)
    (hst : starEach (e :: es) X.env = (false, eval e X.env) :: starEach es X.env := by rfl) (hpl : (backTo pos (starEach es X.env)).any (·.1) = false := by rfl)
    (ht : eval (.Call (.Attribute o m apos) (e :: es) [] pos) X.env = (do
      let ov ← eval o X.env
      standAt apos.atName
      let (f, first) ← holding [ov] (getMethod ov m pl)
      callWith pos f first (backTo pos (starEach (e :: es) X.env)) (backToKw pos (keywordEach [] X.env))) := by rfl) :
    PE3 X W3 (.Call (.Attribute o m apos) (e :: es) [] pos) (meth3 C m sp W3 ta t) := by
  obtain ⟨f, fd, F, b, mt⟩ := M.ex
  refine fun Z => PE.imp (pe_methA (he Z) c mt F hr b Z.pass (ha Z) hst hpl ht) fun τ H Q ⟨σ, S, Q3, hs, hl, ht, hc⟩ => ?_
  refine ⟨σ, S, _, hs, hl, ht, fun d S1 v H1 k1 r1 l1 ⟨a, fs, e1, e2, e3, q⟩ => ?_⟩
  subst e1
  cases r1
  obtain ⟨dx, ws, h1, h2⟩ := l1.obj a _ e2
  refine ⟨a, dx, ws, rfl, h1, FP.none h2 e3, σ, S1, _, hs.mono k1, l1, q, fun ds S2 vs H2 k2 r2 l2 q2 => ?_⟩
  exact ⟨Z.z, .ref a :: ds, S2, Q3, W3 σ, .cons (.ref a) r2, l2, q2, hc.mono (k1.trans k2), fun C' a' S3 H3 k3 l3 ha z => Z.ce σ τ C' a' S3 H3 (hs.mono ((k1.trans k2).trans k3)) l3 ha z⟩
theorem e_meth0 {pl : Sem Bool} (M : Met3 X.prog X.w X.K X.mg X.base k C m ps sp) (c : Cls X.K C) (hr : Room k X.A) (he : PE3 X W3 o ta)
    (ht : eval (.Call (.Attribute o m apos) [] [] pos) X.env = (do
      let ov ← eval o X.env
      standAt apos.atName
      let (f, first) ← holding [ov] (getMethod ov m pl)
      callWith pos f first (backTo pos (starEach [] X.env)) (backToKw pos (keywordEach [] X.env))) := by rfl) :
    PE3 X W3 (.Call (.Attribute o m apos) [] [] pos) (meth03 C m sp W3 ta) := by
  obtain ⟨f, fd, F, b, mt⟩ := M.ex
  refine fun Z => PE.imp (pe_methA0 (he Z) c mt F hr b Z.pass ht) fun τ H Q ⟨σ, S, Q3, hs, hl, ht, hc⟩ => ?_
  refine ⟨σ, S, _, hs, hl, ht, fun d S1 v H1 k1 r1 l1 ⟨a, fs, e1, e2, e3, q⟩ => ?_⟩
  subst e1
  cases r1
  obtain ⟨dx, ws, h1, h2⟩ := l1.obj a _ e2
  exact ⟨a, dx, ws, rfl, h1, FP.none h2 e3, Z.z, [.ref a], S1, Q3, W3 σ, .cons (.ref a) .nil, l1, q, hc.mono k1, fun C' a' S3 H3 k3 l3 ha z => Z.ce σ τ C' a' S3 H3 (hs.mono (k1.trans k3)) l3 ha z⟩
theorem e_make (M : Met3 X.prog X.w X.K X.mg X.base k C "__init__" ps sp) (mk : PySem.W.makesIn X.K C = true) (kp : PySem.W.keepIn X.K (.ref C) = true) (hr : Room (k + 1) X.A) (hg : Gl X y) (hm : X.mg y = some (.ref C)) (ha : PA3 X W3 (e :: es) t)
    (hdb : (y == ("__debug__" : Str)) = false := by decide) (he : starEach (e :: es) X.env = (false, eval e X.env) :: starEach es X.env := by rfl) (hpl : (backTo pos (starEach es X.env)).any (·.1) = false := by rfl) :
    PE3 X W3 (.Call (.Name y p) (e :: es) [] pos) (make3 C sp W3 t) := by
  obtain ⟨f, fd, F, b, mt⟩ := M.ex
  refine fun Z => PE.imp (pe_makeA ⟨mk, mt.at_, mt.fn, kp⟩ F hr hg hm b Z.pass (ha Z) hdb he hpl) fun τ H Q ⟨σ, S, Q3, hs, hl, ht, hc⟩ => ?_
  refine ⟨σ, S, _, hs, hl, ht, fun ds S1 vs H1 k1 r1 l1 q1 x dx hx hd hne => ?_⟩
  have l2 : Rl X.K Z.z S1 (upd H1 dx (.own x)) := l1.lay hd
  have k2 : Kp Z.z H1 (upd H1 dx (.own x)) := Kp.new hd (l1.fresh hd).2
  have hx2 : upd H1 dx (.own x) x = none := by rw [upd_ne (Ne.symm hne)]; exact hx
  have k3 : Kp Z.z (upd H1 dx (.own x)) (upd (upd H1 dx (.own x)) x (.ins C dx [])) := Kp.new hx2 (l2.fresh hx2).2
  refine ⟨Z.z, .ref x :: ds, up S1 x (.ins C []), _, W3 σ, .cons (.ref x) ((r1.mono k2).mono k3), l2.put (o := .ins C []) k3 (l2.fresh hx2).2 ⟨dx, [], upd_same, .nil⟩, q1 x (l1.fresh hx).1, ?_, fun C' a' S3 H3 k4 l3 ha z => Z.ce σ τ C' a' S3 H3 (hs.mono (((k1.trans k2).trans k3).trans k4)) l3 ha z⟩
  rintro d S2 v H2 k4 r2 l4 ⟨ed, q2⟩
  subst ed
  cases r2
  exact ⟨rfl, hc (.ref x) S2 _ H2 (((k1.trans k2).trans k3).trans k4) (.ref x) l4 q2⟩
end
section
variable {K : PySem.W.Frag} {S : Hp3} {Q : K3} {σ : St3} {f m : Str} {a C : Addr} {fs : List (Str × D)} {d y : D} {t ta tv : TE3} {W3 : W3T} {sp : Sp3}
theorem j_fld (q : t σ S fun x S1 => fldR C f x S1 Q) : fld3 C t f σ S Q := q
theorem j_fldR (hS : S a = some (.ins C fs)) (hl : fs.lookup f = some d) (q : Q d S) : fldR C f (.ref a) S Q := ⟨a, fs, d, rfl, hS, hl, q⟩
theorem j_meth {t : TA3} (q : ta σ S fun x S1 => methR C m (fun a => t σ S1 fun ds S2 => sp (.ref a :: ds) S2 Q (W3 σ)) x S1) : meth3 C m sp W3 ta t σ S Q := q
theorem j_meth0 (q : ta σ S fun x S1 => methR C m (fun a => sp [.ref a] S1 Q (W3 σ)) x S1) : meth03 C m sp W3 ta σ S Q := q
theorem j_make {t : TA3} (q : t σ S fun ds S1 => ∀ a, S1 a = none → sp (.ref a :: ds) (up S1 a (.ins C [])) (fun d S2 => d = .non ∧ Q (.ref a) S2) (W3 σ)) : make3 C sp W3 t σ S Q := q
theorem j_sfld {n b c : St3 → Hp3 → Prop} {rt : K3} (q : tv σ S fun y S1 => ta σ S1 fun x S2 => putR C f x y S2 (n σ)) : sfld3 C ta tv f ⟨n, rt, b, c⟩ σ S := q
theorem j_putR {q : Hp3 → Prop} (hS : S a = some (.ins C fs)) (hl : fs.length < 1000) (h : q (up S a (.ins C (putI f y fs)))) : putR C f (.ref a) y S q := ⟨a, fs, rfl, hS, hl, h⟩
end
end E3
namespace EE
open PySem PySem.Spec PyProof.Rows L2
end EE
namespace E3
open PySem PySem.Spec PyProof.Rows L2 EE
end E3
namespace E3
open PySem PySem.Spec PyProof.Rows L2 EE
section
variable {σ : St3} {S : Hp3} {Q : K3} {QT : Bool → Hp3 → Prop} {QA : List D → Hp3 → Prop} {ta tb te : TE3} {tA : TT3} {t u u' : TS3} {al : TA3} {r : R3} {n b c : St3 → Hp3 → Prop} {rt : K3} {i i' i'' : Nat} {d e d2 d3 : D} {D3 : Ends3} {sp : Sp3} {W3 : W3T} {f : List D → Hp3 → K3 → Prop} {ds : List D} {k : Int} {a : Addr}
theorem j_qset (h : te σ S fun x S1 => u D3 (σ.set i (some x)) S1) : seq3 (set3 i te) u D3 σ S := h
theorem j_qdrop (h : te σ S fun _ S1 => u D3 σ S1) : seq3 (drop3 te) u D3 σ S := h
theorem j_qifs (h : tA σ S fun b' S1 => if b' = true then t ⟨u' ⟨n, rt, b, c⟩, rt, b, c⟩ σ S1 else u ⟨u' ⟨n, rt, b, c⟩, rt, b, c⟩ σ S1) : seq3 (ifs3 tA t u) u' ⟨n, rt, b, c⟩ σ S := h
theorem j_qapp (h : σ[i]? = some (some (.ref a))) (hS : S a = some (.lst ds)) (q : te σ S fun y S1 => append3 (.ref a) [y] S1 fun _ S2 => u D3 σ S2) : seq3 (drop3 (bm3 "list" append3 (v3 i) (cons3 te nil3))) u D3 σ S :=
  ⟨_, h, .inr (.inl ⟨rfl, ds, .inl ⟨a, rfl, hS⟩⟩), q⟩
theorem j_ixTv (h : σ[i]? = some (some (.tup ds))) (hd : atI ds k = some d) (q : Q d S) : o3 ixT3 (v3 i) (c3 (.int k)) σ S Q := ⟨_, h, ds, k, d, rfl, rfl, hd, q⟩
theorem j_tixS {x z : Str} (h : σ[i]? = some (some (.tup ds))) (hx : atI ds k = some (.str x)) (q : QT (decide (x = z)) S) : test3 (o3 eqS3 (o3 ixT3 (v3 i) (c3 (.int k))) (c3 (.str z))) σ S QT := ⟨_, h, ds, k, _, rfl, rfl, hx, x, z, rfl, rfl, _, rfl, q⟩
theorem j_tovc (h : σ[i]? = some (some d)) (q : r d e S fun z S' => ∃ k, z = .bl k ∧ QT k S') : test3 (o3 r (v3 i) (c3 e)) σ S QT := ⟨d, h, q⟩
theorem j_tovv (h : σ[i]? = some (some d)) (h' : σ[i']? = some (some e)) (q : r d e S fun z S' => ∃ k, z = .bl k ∧ QT k S') : test3 (o3 r (v3 i) (v3 i')) σ S QT := ⟨d, h, e, h', q⟩
theorem j_txc (q : ta σ S fun x S1 => r x e S1 fun z S' => ∃ k, z = .bl k ∧ QT k S') : test3 (o3 r ta (c3 e)) σ S QT := q
theorem j_txo (q : ta σ S fun x S1 => tb σ S1 fun y S2 => r x y S2 fun z S' => ∃ k, z = .bl k ∧ QT k S') : test3 (o3 r ta tb) σ S QT := q
theorem j_ovc (h : σ[i]? = some (some d)) (q : r d e S Q) : o3 r (v3 i) (c3 e) σ S Q := ⟨d, h, q⟩
theorem j_ovv (h : σ[i]? = some (some d)) (h' : σ[i']? = some (some e)) (q : r d e S Q) : o3 r (v3 i) (v3 i') σ S Q := ⟨d, h, e, h', q⟩
theorem j_ov (h : σ[i]? = some (some d)) (q : tb σ S fun y S2 => r d y S2 Q) : o3 r (v3 i) tb σ S Q := ⟨d, h, q⟩
theorem j_oc (q : tb σ S fun y S2 => r d y S2 Q) : o3 r (c3 d) tb σ S Q := q
theorem j_xc (q : ta σ S fun x S1 => r x e S1 Q) : o3 r ta (c3 e) σ S Q := q
theorem j_kv1 (h : σ[i]? = some (some d)) (q : f [d] S Q) : cb3 f (cons3 (v3 i) nil3) σ S Q := ⟨d, h, q⟩
theorem j_ke1 (q : te σ S fun x S1 => f [x] S1 Q) : cb3 f (cons3 te nil3) σ S Q := q
theorem j_fv1 (h : σ[i]? = some (some d)) (q : sp [d] S Q (W3 σ)) : call3 sp W3 (cons3 (v3 i) nil3) σ S Q := ⟨d, h, q⟩
theorem j_fe1 (q : te σ S fun x S1 => sp [x] S1 Q (W3 σ)) : call3 sp W3 (cons3 te nil3) σ S Q := q
theorem j_fv2 (h : σ[i]? = some (some d)) (h2 : σ[i']? = some (some d2)) (q : sp [d, d2] S Q (W3 σ)) : call3 sp W3 (cons3 (v3 i) (cons3 (v3 i') nil3)) σ S Q := ⟨d, h, d2, h2, q⟩
theorem j_fv3 (h : σ[i]? = some (some d)) (h2 : σ[i']? = some (some d2)) (h3 : σ[i'']? = some (some d3)) (q : sp [d, d2, d3] S Q (W3 σ)) : call3 sp W3 (cons3 (v3 i) (cons3 (v3 i') (cons3 (v3 i'') nil3))) σ S Q := ⟨d, h, d2, h2, d3, h3, q⟩
theorem j_cvn (h : σ[i]? = some (some d)) (q : QA [d] S) : cons3 (v3 i) nil3 σ S QA := ⟨d, h, q⟩
theorem j_cv (h : σ[i]? = some (some d)) (q : al σ S fun xs S2 => QA (d :: xs) S2) : cons3 (v3 i) al σ S QA := ⟨d, h, q⟩
theorem j_ccn (q : QA [d] S) : cons3 (c3 d) nil3 σ S QA := q
theorem j_cc (q : al σ S fun xs S2 => QA (d :: xs) S2) : cons3 (c3 d) al σ S QA := q
theorem j_cen (q : te σ S fun x S1 => QA [x] S1) : cons3 te nil3 σ S QA := q
end
end E3
namespace EE
open PySem PySem.Spec PyProof.Rows L2
end EE
namespace E3
open PySem PySem.Spec PyProof.Rows L2 EE
end E3
namespace EE
open PySem PySem.Spec PyProof.Rows L2
end EE
namespace E3
open PySem PySem.Spec PyProof.Rows L2 EE
end E3
namespace EE
open PySem PySem.Spec PyProof.Rows L2 Builtin Builtin.Str
section
variable {X : Cx}
noncomputable def partS (a b : Str) : List Str := match occurrences a b 0 a.length 1 with
  | i :: _ => [strSub a 0 i, b, strSub a (i + b.length) a.length]
  | [] => [a, Str.empty, Str.empty]
def rPart : V → List V → Hp → VK → Prop := fun x vs H Q => ∃ a b, x = .str a ∧ vs = [.str b] ∧ (b.length == 0) = false ∧ a.length ≤ sizeLine ∧ ∀ T, H T = none → Q (.ref T) (upd H T (.tup ((partS a b).map V.str)))
theorem mt_str_part : MtR X "str.partition" rPart := by
  intro pins s σ H x vs v us Q I rx rv h
  obtain ⟨a, b, rfl, rfl, hb, ha, q⟩ := h
  obtain ⟨t, rfl⟩ := rx
  obtain ⟨u, rfl, ru⟩ := rv.one
  obtain ⟨t', rfl⟩ := ru
  refine call_meets PySem.F.slot_str_partition (typeIs_str _ _ _) PySem.F.entry_str_partition (PySem.F.args_str_partition_2 _ _) (meets_str_partition a b t t' hb ha) ?_
  have fr := q _ (I.hok.fresh (Nat.le_refl _))
  have mk : ∀ (xs : List Str) (us : List Value) (tk : Nat), xs.length ≤ 3 → Vals (xs.map V.str) us → partS a b = xs → EP X pins σ Q (.ref s.heap.objs.size) { s with toks := tk, heap := s.heap.push { cls := .type "tuple", data := .seq us.toArray } } := by
    intro xs us tk hl r e
    rw [e] at fr
    exact ⟨.ref s.heap.objs.size, _, I.laid (t' := tk) (fun b o e => Heap.get?_push_of_some _ e) (Nat.le_refl _) (show ObjOk X.prog X.w _ _ _ (.tup (xs.map V.str)) from ⟨by rw [List.length_map]; exact Nat.le_trans hl (by decide), us, r, IsTup.new _ _, fun o q => by rw [Heap.get?_push_size _ rfl] at q; cases q; rfl⟩), rfl, fr⟩
  show wants _ _ (.ok (.ret (.ref s.heap.objs.size))) _
  cases ho : occurrences a b 0 a.length 1 with
  | nil =>
    refine mk [a, Str.empty, Str.empty] _ _ (show 3 ≤ 3 by decide) ?_ (by unfold partS; rw [ho])
    exact .cons ⟨_, rfl⟩ (.cons ⟨_, rfl⟩ (.cons ⟨_, rfl⟩ .nil))
  | cons i r =>
    refine mk [strSub a 0 i, b, strSub a (i + b.length) a.length] _ _ (show 3 ≤ 3 by decide) ?_ (by unfold partS; rw [ho])
    exact .cons ⟨_, rfl⟩ (.cons ⟨_, rfl⟩ (.cons ⟨_, rfl⟩ .nil))
def rSplit : V → List V → Hp → VK → Prop := fun x vs H Q => ∃ a b, x = .str a ∧ vs = [.str b] ∧ (b.length == 0) = false ∧ a.length ≤ sizeLine ∧ (partsBetween a (occurrences a b 0 a.length (a.length + 1)) b.length).length ≤ sizeLine ∧ (Txt.split a b).length ≤ sizeLine ∧ ∀ T, H T = none → Q (.ref T) (upd H T (.lst ((Txt.split a b).map V.str)))
theorem vals_numbered : ∀ (xs : List Str) (tk : Nat), Vals (xs.map V.str) (strsFrom tk xs)
  | [], _ => .nil
  | x :: r, tk => .cons ⟨tk, rfl⟩ (vals_numbered r (tk + 1))
theorem mt_str_split : MtR X "str.split" rSplit := by
  intro pins s σ H x vs v us Q I rx rv h
  obtain ⟨a, b, rfl, rfl, hb, ha, hn, hz, q⟩ := h
  obtain ⟨t, rfl⟩ := rx
  obtain ⟨u, rfl, ru⟩ := rv.one
  obtain ⟨t', rfl⟩ := ru
  have fr := q _ (I.hok.fresh (Nat.le_refl _))
  have mk : ∀ (xs : List Str) (us : List Value) (tk : Nat), Vals (xs.map V.str) us → Txt.split a b = xs → EP X pins σ Q (.ref s.heap.objs.size) { s with toks := tk, heap := s.heap.push { cls := .type "list", data := .seq us.toArray } } := by
    intro xs us tk r e
    rw [e] at fr hz
    exact ⟨.ref s.heap.objs.size, _, I.laid (t' := tk) (fun b o e => Heap.get?_push_of_some _ e) (Nat.le_refl _) (show ObjOk X.prog X.w _ _ _ (.lst (xs.map V.str)) from ⟨by rw [List.length_map]; exact hz, us, 0, r, Heap.get?_push_size _ rfl⟩), rfl, fr⟩
  cases h1 : (decide (a.length < b.length) || decide (strKind a < strKind b)) with
  | false =>
    cases hf : (occurrences a b 0 a.length (a.length + 1)).isEmpty with
    | false =>
      refine call_meets PySem.F.slot_str_split (typeIs_str _ _ _) PySem.F.entry_str_split (PySem.F.args_str_split_2 _ _) (meets_str_split_sep a b t t' h1 hb hf ha hn) ?_
      exact mk _ _ _ (vals_numbered _ _) ((if_neg (ne_true_of_eq_false h1)).trans (if_neg (ne_true_of_eq_false hf)))
    | true =>
      refine call_meets PySem.F.slot_str_split (typeIs_str _ _ _) PySem.F.entry_str_split (PySem.F.args_str_split_2 _ _) (meets_str_split_not_found a b t t' h1 hb hf) ?_
      exact mk [a] _ _ (.cons ⟨_, rfl⟩ .nil) ((if_neg (ne_true_of_eq_false h1)).trans (if_pos hf))
  | true =>
    refine call_meets PySem.F.slot_str_split (typeIs_str _ _ _) PySem.F.entry_str_split (PySem.F.args_str_split_2 _ _) (meets_str_split_cannot_occur a b t t' h1) ?_
    exact mk [a] _ _ (.cons ⟨_, rfl⟩ .nil) (if_pos h1)
def rStrip : V → List V → Hp → VK → Prop := fun x vs H Q => ∃ a, x = .str a ∧ vs = [] ∧ a.length ≤ sizeLine ∧ Q (.str (Txt.strip a)) H
theorem mt_str_strip : MtR X "str.strip" rStrip := by
  intro pins s σ H x vs v us Q I rx rv h
  obtain ⟨a, rfl, rfl, ha, q⟩ := h
  obtain ⟨t, rfl⟩ := rx
  cases rv
  exact SC.strip (fun t' k => ⟨.str _, H, I.tok _, ⟨_, rfl⟩, q⟩) ha
theorem op_le_str : OpR X (compareOp .LtE) (fun x y H Q => ∃ i j, x = .str i ∧ y = .str j ∧ Q (.bl (!decide (j.cps.toList < i.cps.toList))) H) := by
  intro pins s σ H x y v u Q I rx ry h
  obtain ⟨i, j, rfl, rfl, q⟩ := h
  obtain ⟨t, rfl⟩ := rx
  obtain ⟨t', rfl⟩ := ry
  exact PySem.P.le_str (fin_bl I q rfl)
end
end EE
namespace E3
open PySem PySem.Spec PyProof.Rows L2 EE
section
variable {K : PySem.W.Frag} {S : Hp3} {Q : K3}
theorem rps_strs {H : Hp} : ∀ xs : List Str, Rps K H (xs.map D.str) (xs.map V.str)
  | [] => .nil
  | x :: xs => .cons (.str x) (rps_strs xs)
def partT3 : D → List D → Hp3 → K3 → Prop := fun x ys S Q => ∃ a b, x = .str a ∧ ys = [.str b] ∧ (b.length == 0) = false ∧ a.length ≤ sizeLine ∧ Q (.tup ((partS a b).map D.str)) S
theorem dn_part : DnM K partT3 rPart := by
  intro Z x ds S Q3 v vs H Q rx r l h c
  obtain ⟨a, b, rfl, rfl, hb, ha, q⟩ := h
  cases rx
  cases r with
  | cons r rr =>
    cases rr
    cases r
    exact ⟨a, b, rfl, rfl, hb, ha, tup.down q (rps_strs _) l c⟩
def split3 : D → List D → Hp3 → K3 → Prop := fun x ys S Q => ∃ a b, x = .str a ∧ ys = [.str b] ∧ (b.length == 0) = false ∧ a.length ≤ sizeLine ∧ (Builtin.Str.partsBetween a (Builtin.Str.occurrences a b 0 a.length (a.length + 1)) b.length).length ≤ sizeLine ∧ (Txt.split a b).length ≤ sizeLine ∧ newL S ((Txt.split a b).map D.str) Q
theorem dn_split : DnM K split3 rSplit := by
  intro Z x ds S Q3 v vs H Q rx r l h c
  obtain ⟨a, b, rfl, rfl, hb, ha, hn, hz, q⟩ := h
  cases rx
  cases r with
  | cons r rr =>
    cases rr
    cases r
    exact ⟨a, b, rfl, rfl, hb, ha, hn, hz, newL.down q (rps_strs _) l c⟩
def strip3 : D → List D → Hp3 → K3 → Prop := fun x ys S Q => ∃ a, x = .str a ∧ ys = [] ∧ a.length ≤ sizeLine ∧ Q (.str (Txt.strip a)) S
theorem dn_strip : DnM K strip3 rStrip := by
  intro Z x ds S Q3 v vs H Q rx r l h c
  obtain ⟨a, rfl, rfl, ha, q⟩ := h
  cases rx
  cases r
  exact ⟨a, rfl, rfl, ha, c _ S _ H (Kp.refl _ _) (.str _) l q⟩
def leS3 : R3 := fun x y S Q => ∃ i j, x = .str i ∧ y = .str j ∧ Q (.bl (!decide (j.cps.toList < i.cps.toList))) S
theorem dn_leS : Dn2 K leS3 (fun x y H Q => ∃ i j, x = .str i ∧ y = .str j ∧ Q (.bl (!decide (j.cps.toList < i.cps.toList))) H) := by
  intro Z x y S Q3 v w H Q rx ry l h c
  obtain ⟨i, j, rfl, rfl, q⟩ := h
  cases rx
  cases ry
  exact ⟨i, j, rfl, rfl, c _ S _ H (Kp.refl _ _) (.bl _) l q⟩
theorem j_partS {a b : Str} (hb : (b.length == 0) = false) (ha : a.length ≤ sizeLine) (q : Q (.tup ((partS a b).map D.str)) S) : partT3 (.str a) [.str b] S Q := ⟨a, b, rfl, rfl, hb, ha, q⟩
theorem j_strip {a : Str} (ha : a.length ≤ sizeLine) (q : Q (.str (Txt.strip a)) S) : strip3 (.str a) [] S Q := ⟨a, rfl, rfl, ha, q⟩
theorem j_leS {i j : Str} (q : Q (.bl (!decide (j.cps.toList < i.cps.toList))) S) : leS3 (.str i) (.str j) S Q := ⟨i, j, rfl, rfl, q⟩
end
section
variable {X : Cx} {W3 : W3T} {C : Addr} {f : Str} {o value : Expr} {ta tv : TE3} {pos tpos : Pos} {σ : St3} {S : Hp3}
def faug3 (C : Addr) (ta tv : TE3) (f : Str) : TS3 := fun D3 σ S => ta σ S fun x S1 => ∃ a fs i, x = .ref a ∧ S1 a = some (.ins C fs) ∧ fs.lookup f = some (.int i) ∧ tv σ S1 fun y S2 => ∃ j fs', y = .int j ∧ S2 a = some (.ins C fs') ∧ fs'.length < 1000 ∧ D3.nx σ (up S2 a (.ins C (putI f (.int (i + j)) fs')))
theorem s_faug (c : Cls X.K C) (n : NoAttr X.K C f) (ha : PE3 X W3 o ta) (hv : PE3 X W3 value tv) : PS3 X W3 (.AugAssign (.Attribute o f tpos) .Add value pos) (faug3 C ta tv f) := by
  refine fun Z => PS.imp (ps_fldaug (ha Z) (hv Z) in_add) fun D τ H ⟨D3, σ, S, hs, hr, ht, hc⟩ => ?_
  refine ⟨σ, S, _, hs, hr, ht, fun x S1 vx H1 k1 rx l1 ⟨a, fs, i, e1, e2, e3, q⟩ => ?_⟩
  subst e1
  cases rx
  obtain ⟨dx, ws, h1, h2⟩ := l1.obj a _ e2
  obtain ⟨v, hv1, rv⟩ := FP.look h2 e3
  cases rv
  refine ⟨a, C, dx, ws, _, rfl, h1, c, n, hv1, σ, S1, _, hs.mono k1, l1, q, fun y S2 vy H2 k2 ry l2 ⟨j, fs', e4, e5, hl, q2⟩ => ?_⟩
  subst e4
  cases ry
  obtain ⟨dx', ws', h3, h4⟩ := l2.obj a _ e5
  have k3 : Kp Z.z H2 (upd H2 a (.ins C dx' (putF f (.int (i + j)) ws'))) := Kp.at l2 e5
  refine ⟨i, j, rfl, rfl, dx', ws', h3, by rw [← FP.len h4]; exact hl, hc.nx σ _ τ _ ((k1.trans k2).trans k3) (hs.mono ((k1.trans k2).trans k3)) (l2.put (o := .ins C (putI f (.int (i + j)) fs')) k3 (l2.notZ e5) ⟨dx', _, upd_same, ?_⟩) q2⟩
  exact FP.put (.int _) (FP.mono k3 h4)
def faugA (C : Addr) (tv : TE3) (f : Str) (n : St3 → Hp3 → Prop) (σ : St3) (x : D) (S : Hp3) : Prop := ∃ a fs i, x = .ref a ∧ S a = some (.ins C fs) ∧ fs.lookup f = some (.int i) ∧ tv σ S fun y S2 => ∃ j fs', y = .int j ∧ S2 a = some (.ins C fs') ∧ fs'.length < 1000 ∧ n σ (up S2 a (.ins C (putI f (.int (i + j)) fs')))
theorem j_faug {n b c : St3 → Hp3 → Prop} {rt : K3} (q : ta σ S fun x S1 => faugA C tv f n σ x S1) : faug3 C ta tv f ⟨n, rt, b, c⟩ σ S := q
theorem j_faugA {n : St3 → Hp3 → Prop} {a : Addr} {fs : List (Str × D)} {i j : Int} (hS : S a = some (.ins C fs)) (hf : fs.lookup f = some (.int i)) (hl : fs.length < 1000) (q : n σ (up S a (.ins C (putI f (.int (i + j)) fs)))) : faugA C (c3 (.int j)) f n σ (.ref a) S := ⟨a, fs, i, rfl, hS, hf, j, fs, rfl, hS, hl, q⟩
end
noncomputable def tcs (kvs : List (Str × Str)) : List (TE × TE) := kvs.map fun kv => (tC (.str kv.1), tC (.str kv.2))
theorem pairs_con : ∀ (kvs : List (Str × Str)) (τ : L2.St) (H : Hp) (Q : List (V × V) → Hp → Prop), Q (kvs.map fun kv => (V.str kv.1, V.str kv.2)) H → tPairs (tcs kvs) τ H Q
  | [], _, _, _, h => h
  | _ :: kvs, τ, H, Q, h => pairs_con kvs τ H _ h
noncomputable def dicV (kvs : List (Str × Str)) : List (Key × V) := kvs.map fun kv => (.inr kv.1, .str kv.2)
noncomputable def dicD (kvs : List (Str × Str)) : List (Key × D) := kvs.map fun kv => (.inr kv.1, .str kv.2)
def dispC3 (kvs : List (Str × Str)) : TE3 := fun _ S Q => ∀ p, S p = none → Q (.ref p) (up S p (.dic (dicD kvs)))
theorem dic_pair {K : PySem.W.Frag} {H : Hp} : ∀ kvs : List (Str × Str), KR K H (dicD kvs) (dicV kvs)
  | [] => .nil
  | _ :: kvs => .cons ⟨rfl, .str _⟩ (dic_pair kvs)
theorem merge_new : ∀ (kvs : List (Str × Str)) (acc : List (Key × V)), (∀ kv ∈ kvs, valV acc (Sum.inr kv.1) = none) → (kvs.map Prod.fst).Nodup → mergeK acc (dicV kvs) = acc ++ dicV kvs
  | [], acc, _, _ => by simp [mergeK, dicV]
  | kv :: kvs, acc, h, nd => by
    have e : mergeK acc (dicV (kv :: kvs)) = mergeK (putK acc (Sum.inr kv.1) (V.str kv.2)) (dicV kvs) := rfl
    rw [e, putK_new _ (h kv List.mem_cons_self), merge_new kvs _ _ (List.nodup_cons.mp nd).2]
    · simp [dicV]
    · intro x hx
      have hne : x.1 ≠ kv.1 := fun z => (List.nodup_cons.mp nd).1 (z ▸ List.mem_map_of_mem hx)
      have h1 := h x (List.mem_cons_of_mem _ hx)
      unfold valV at h1 ⊢
      rw [Option.map_eq_none_iff, List.find?_eq_none] at h1 ⊢
      intro y hy
      rcases List.mem_append.mp hy with hy | hy
      · exact h1 y hy
      · rw [List.mem_singleton.mp hy]
        intro z
        have z := of_decide_eq_true z
        exact hne (Sum.inr.inj z).symm
theorem dispC_down {K : PySem.W.Frag} {Z : Zt} {kvs : List (Str × Str)} (nd : (kvs.map Prod.fst).Nodup) (h15 : kvs.length ≤ 15) {τ : L2.St} {H : Hp} {Q : VK} (h : lE K Z (dispC3 kvs) τ H Q) : tDisp (tcs kvs) τ H Q := by
  obtain ⟨σ, S, Q3, hs, hr, ht, hc⟩ := h
  intro p hp
  obtain ⟨hsp, hzp⟩ := hr.fresh hp
  refine pairs_con kvs τ _ _ ⟨upd_same, dicV kvs, ?_, by unfold dicV; rw [List.length_map]; exact h15, ?_⟩
  · unfold dicV; rw [List.map_map]; rfl
  rw [merge_new kvs [] (fun _ _ => rfl) nd, List.nil_append]
  have kp : Kp Z H (upd H p (.dK [])) := Kp.new hp hzp
  have hp2 : upd H p (HO.dK []) p = some (.dK []) := upd_same
  have kw : Kp Z (upd H p (.dK [])) (upd (upd H p (.dK [])) p (.dK (dicV kvs))) := by
    refine ⟨fun b xs e => ?_, fun b q u e => ?_, fun b z => ?_⟩
    · by_cases c : b = p
      · subst c; rw [hp2] at e; cases e
      · rw [upd_ne c]; exact e
    · by_cases c : b = p
      · subst c; rw [hp2] at e; cases e
      · rw [upd_ne c]; exact e
    · rw [upd_ne]; rintro rfl; exact hzp z
  have l0 : Rl K Z S (upd H p (.dK [])) := hr.lay hp
  exact hc (.ref p) (up S p (.dic (dicD kvs))) (.ref p) _ (kp.trans kw) (.ref p) (l0.put kw hzp ⟨_, upd_same, dic_pair kvs⟩) (ht p hsp)
theorem e_dispC {X : Cx} {W3 : W3T} {ks : List (Option Expr)} {vs : List Expr} {pos : Pos} {kvs : List (Str × Str)} (h : PPs X pos ks vs (tcs kvs)) (nd : (kvs.map Prod.fst).Nodup) (h15 : kvs.length ≤ 15) (hall : ks.all (·.isSome) = true) (hl : ks.length = vs.length) (h0 : ks ≠ []) (hk : ks.length ≤ 15) : PE3 X W3 (.Dict ks vs pos) (dispC3 kvs) := fun _ =>
  PE.imp (pe_disp h hall hl h0 hk) fun _ _ _ h => dispC_down nd h15 h
theorem dc_nil {X : Cx} {pos : Pos} : PPs X pos [] [] (tcs []) := pps_nil
theorem dc_cons {X : Cx} {pos p1 p2 : Pos} {k v : Str} {j1 j2} {ks : List (Option Expr)} {vs : List Expr} {kvs : List (Str × Str)} (h : PPs X pos ks vs (tcs kvs)) : PPs X pos (some (.Constant (.str k) j1 p1) :: ks) (.Constant (.str v) j2 p2 :: vs) (tcs ((k, v) :: kvs)) := pps_cons pe_str pe_str h
theorem j_dispC {σ : St3} {S : Hp3} {Q : K3} {kvs : List (Str × Str)} (h : ∀ p, S p = none → Q (.ref p) (up S p (.dic (dicD kvs)))) : dispC3 kvs σ S Q := h
end E3
namespace EE
open PySem PySem.Spec PyProof.Rows L2
end EE
namespace E3
open PySem PySem.Spec PyProof.Rows L2 EE
end E3
set_option maxHeartbeats 4000000
namespace LW
open PySem PySem.Spec PyProof.Rows L2 EE E3
section
variable {CR : Addr}
noncomputable abbrev rdFs (t : Str) (p : Int) : List (Str × D) := [("text", .str t), ("place", .int p)]
theorem up_gt {S : Hp3} {a b : Addr} {o u : O} (h : S b = some u) (n : b ≠ a) : up S a o b = some u := (up_ne n).trans h
theorem put_place {t : Str} {p q : Int} : putI "place" (.int q) (rdFs t p) = rdFs t q := by
  simp only [putI, rdFs]
  rfl
section
variable {S : Hp3} {a : Addr} {t : Str} {p : Int} {Q : K3}
theorem j_Rtext (h : S a = some (.ins CR (rdFs t p))) (q : Q (.str t) S) : fldR CR "text" (.ref a) S Q := j_fldR h rfl q
theorem j_Rplace (h : S a = some (.ins CR (rdFs t p))) (q : Q (.int p) S) : fldR CR "place" (.ref a) S Q := j_fldR h rfl q
theorem j_Rm {m : Str} {k : Addr → Prop} (h : S a = some (.ins CR (rdFs t p))) (hm : ∀ t p, (rdFs t p).lookup m = none) (q : k a) : methR CR m k (.ref a) S := ⟨a, _, rfl, h, hm _ _, q⟩
theorem j_Rstep {σ : St3} {n : St3 → Hp3 → Prop} (h : S a = some (.ins CR (rdFs t p))) (q : n σ (up S a (.ins CR (rdFs t (p + 1))))) : faugA CR (c3 (.int 1)) "place" n σ (.ref a) S := j_faugA h rfl (show 2 < 1000 by decide) (by rw [put_place]; exact q)
end
noncomputable def ltr (c : Nat) : Bool := decide (97 ≤ c ∧ c ≤ 122)
noncomputable def sgAt (cs : List Nat) (p : Nat) : List Nat := (cs.drop p).take 1
theorem textOf_inj {a b : List Nat} (h : textOf a = textOf b) : a = b := by
  have := congrArg (fun z : Str => z.cps.toList) h
  simpa [textOf] using this
theorem cutT_mid {cs : List Nat} {p q : Nat} (h : p ≤ q) : cutT cs (some (p : Int)) (some (q : Int)) = (cs.drop p).take (q - p) := by
  have h1 : cutT cs none (some (q : Int)) = cs.take q := by rw [cutT_to (by omega)]; rfl
  have h2 : cutT cs (some (p : Int)) none = cs.drop p := by rw [cutT_from (by omega)]; rfl
  unfold cutT at h1 h2 ⊢
  have e1 : HT.sIx cs.length 0 (some (p : Int)) = min p cs.length := by
    have := congrArg List.length h2
    simp only [List.length_take, List.length_drop] at this
    have e : HT.sIx cs.length cs.length none = cs.length := rfl
    rw [e] at this
    have hle : HT.sIx cs.length 0 (some (p : Int)) ≤ cs.length := by
      simp only [HT.sIx]
      (repeat split) <;> omega
    omega
  have e2 : HT.sIx cs.length cs.length (some (q : Int)) = min q cs.length := by
    have := congrArg List.length h1
    simp only [List.length_take, List.length_drop] at this
    have e : HT.sIx cs.length 0 none = 0 := rfl
    rw [e] at this
    have hle : HT.sIx cs.length cs.length (some (q : Int)) ≤ cs.length := by
      simp only [HT.sIx]
      (repeat split) <;> omega
    omega
  rw [e1, e2]
  by_cases c : p ≤ cs.length
  · rw [show min p cs.length = p by omega]
    apply List.ext_getElem?
    intro i
    rw [List.getElem?_take, List.getElem?_take]
    by_cases ci : i < q - p
    · rw [if_pos ci]
      by_cases cj : i < min q cs.length - p
      · rw [if_pos cj]
      · rw [if_neg cj, List.getElem?_drop, List.getElem?_eq_none (by omega)]
    · rw [if_neg ci, if_neg (by omega)]
  · rw [List.drop_eq_nil_of_le (by omega), List.drop_eq_nil_of_le (by omega)]
    simp
theorem sg_cons {pre post : List Nat} {c : Nat} : sgAt (pre ++ c :: post) pre.length = [c] := by simp [sgAt]
theorem sg_get (cs : List Nat) (p : Nat) : sgAt cs p = (cs[p]?).toList := by
  unfold sgAt
  cases e : cs[p]? with
  | none => rw [List.drop_eq_nil_of_le (by simpa using e)]; rfl
  | some c =>
    have h := List.getElem?_eq_some_iff.mp e
    rw [List.drop_eq_getElem_cons h.1, h.2]
    rfl
theorem len_text (cs : List Nat) : (textOf cs).length = cs.length := by show (textOf cs).cps.size = _; simp [textOf]
end
seal PE3 PT3 PW3 PA3 PS3 PSs3 PO3 PG3 PI3
local macro_rules | `(tactic| decreasing_trivial) => do let w := fun (s : String) => (s.splitOn " ").toArray.map fun x => Lean.mkIdent (.mkStr (.mkSimple "E3") x); let at_ ← `(tactic| (first | exact rfl | exact atI_0 | exact atI_1 | exact atI_2 | exact atI_3)); let v0 ← (w "j_tovc j_ovc j_kv1 j_fv1 j_cvn").mapM fun n => `(Lean.Parser.Tactic.tacticSeq| apply $n); let v1 ← (w "j_tovv j_ovv j_fv2").mapM fun n => `(Lean.Parser.Tactic.tacticSeq| apply $n); let v3 ← (w "j_ov j_cv j_v").mapM fun n => `(Lean.Parser.Tactic.tacticSeq| apply $n); let a1 ← (w "j_qset j_qdrop j_qifs j_txc j_txo j_oc j_xc j_ke1 j_fe1 j_ccn j_cc j_cen j_seq j_set j_c j_o j_i3 j_cons j_nil j_ifs j_test j_eb j_ei j_ret j_drop j_next j_asg j_name j_eqI j_neI j_eqS j_neS j_neg j_and j_or j_not j_andv j_truth j_tup j_lst j_cb j_call j_bm j_bm0 j_tyS j_lenT j_lenR j_toListT j_sl j_nopart j_part j_slT j_comp j_iRevL j_notinTS j_chain j_for j_iList j_iTup j_iStr j_iR1 j_iT j_iS j_dget j_setL j_fld j_sfld j_meth j_meth0 j_make j_faug j_dispC").mapM fun n => `(Lean.Parser.Tactic.tacticSeq| apply $n); let a2 ← (w "j_truL j_tyL j_lenL j_toTupL j_slL j_revL j_iL").mapM fun n => `(Lean.Parser.Tactic.tacticSeq| refine $n (by assumption) ?_); let a3 ← (w "j_truL j_tyL j_lenL j_toTupL j_slL j_revL j_iL").mapM fun n => `(Lean.Parser.Tactic.tacticSeq| refine $n up_same ?_); let al := a1 ++ a2 ++ a3; `(tactic| repeat (first | ((with_reducible apply j_qapp); (exact rfl); (first | assumption | exact up_same)) | ((with_reducible apply j_tixS); (exact rfl); $at_) | ((with_reducible apply j_ixTv); (exact rfl); $at_) | ((with_reducible first $[| $v0]*); (exact rfl)) | ((with_reducible first $[| $v1]*); (exact rfl); (exact rfl)) | ((with_reducible apply j_fv3); (exact rfl); (exact rfl); (exact rfl)) | ((with_reducible first $[| $v3]*); (exact rfl)) | (with_reducible first $[| $al]*) | (with_reducible first | refine iteD rfl ?_ | refine iteNS rfl ?_ | refine iteT ?_ | refine iteF ?_ | refine iteD (by assumption) ?_ | refine iteDN (by assumption) ?_ | refine iteN (by assumption) ?_ | refine iteNS (by assumption) ?_ | refine j_Rtext (by assumption) ?_ | refine j_Rplace (by assumption) ?_) | ((with_reducible refine j_mod ?_ ?_); (first | decide | omega)) | ((with_reducible refine j_div ?_ ?_); (first | exact ⟨by decide, by decide⟩ | omega)) | ((with_reducible refine j_pow ?_ ?_); exact ⟨by decide, by decide, by decide⟩) | ((with_reducible refine j_mul ?_ ?_); (first | exact .inl ⟨by decide, by decide⟩ | exact .inr ⟨by decide, by decide⟩)) | ((with_reducible refine j_sz ?_ ?_); exact small_le (Nat.le_of_ble_eq_true rfl)) | ((with_reducible apply j_ixT); $at_) | ((with_reducible apply j_ixL (by assumption)); $at_) | ((with_reducible apply j_ixL up_same); $at_) | ((with_reducible apply j_ixR); exact rfl) | ((with_reducible apply j_isB); (exact rfl); (exact rfl)) | ((with_reducible apply j_esL (by assumption)); (first | exact rfl | exact ixN_0 | exact ixN_1)) | ((with_reducible apply j_esL up_same); (first | exact rfl | exact ixN_0 | exact ixN_1)) | ((with_reducible refine iteBf ?_ ?_); exact rfl) | ((with_reducible refine j_rng ?_ ?_); (first | exact ⟨by decide, by decide⟩ | exact ⟨by omega, by omega⟩)) | ((with_reducible refine j_lenS ?_ ?_); assumption) | (with_reducible first | refine iteBf (by decide +kernel) ?_ | refine iteD (by omega) ?_ | refine iteDN (by omega) ?_ | refine iteN (by omega) ?_ | refine iteNS (by omega) ?_)))
noncomputable def top (i : Nat) : Stmt := PySem.Challenge.pw_errandend_k05_lines.main.body.getD i (.Pass ⟨0, 0, 0, 0⟩)
noncomputable abbrev s_shown_line : Stmt := top 7
theorem sc_shown_line : FnScope ["errand", "head"] ["errand"] (defScope s_shown_line) := ⟨rfl, rfl, rfl, by decide +kernel, rfl, by decide +kernel, by decide +kernel⟩
noncomputable abbrev s_shown_saying : Stmt := top 8
theorem sc_shown_saying : FnScope ["saying", "written", "pending", "piece", "inner"] ["saying"] (defScope s_shown_saying) := ⟨rfl, rfl, rfl, by decide +kernel, rfl, by decide +kernel, by decide +kernel⟩
noncomputable abbrev s_pieces : Stmt := top 9
theorem sc_pieces : FnScope ["saying", "kind"] ["saying"] (defScope s_pieces) := ⟨rfl, rfl, rfl, by decide +kernel, rfl, by decide +kernel, by decide +kernel⟩
noncomputable abbrev s_row_pieces : Stmt := top 10
theorem sc_row_pieces : FnScope ["opening", "sayings", "closing", "found", "saying"] ["opening", "sayings", "closing"] (defScope s_row_pieces) := ⟨rfl, rfl, rfl, by decide +kernel, rfl, by decide +kernel, by decide +kernel⟩
noncomputable abbrev s_read_line : Stmt := top 11
theorem sc_read_line : FnScope ["text", "halves", "words", "word", "params", "reader", "body"] ["text"] (defScope s_read_line) := ⟨rfl, rfl, rfl, by decide +kernel, rfl, by decide +kernel, by decide +kernel⟩
noncomputable abbrev s_refuse_unfit_name : Stmt := top 12
theorem sc_refuse_unfit_name : FnScope ["word", "fit"] ["word"] (defScope s_refuse_unfit_name) := ⟨rfl, rfl, rfl, by decide +kernel, rfl, by decide +kernel, by decide +kernel⟩
noncomputable abbrev s_is_letter : Stmt := top 13
theorem sc_is_letter : FnScope ["sign"] ["sign"] (defScope s_is_letter) := ⟨rfl, rfl, rfl, by decide +kernel, rfl, by decide +kernel, by decide +kernel⟩
noncomputable abbrev s_refuse_unfit_count : Stmt := top 14
theorem sc_refuse_unfit_count : FnScope ["row", "least", "most"] ["row", "least", "most"] (defScope s_refuse_unfit_count) := ⟨rfl, rfl, rfl, by decide +kernel, rfl, by decide +kernel, by decide +kernel⟩
noncomputable abbrev s_cell_at : Stmt := top 17
theorem sc_cell_at : FnScope ["script", "k"] ["script", "k"] (defScope s_cell_at) := ⟨rfl, rfl, rfl, by decide +kernel, rfl, by decide +kernel, by decide +kernel⟩
noncomputable abbrev s_names : Stmt := top 18
theorem sc_names : FnScope ["cell", "many", "base", "left", "k", "place", "found", "turn"] ["cell", "many"] (defScope s_names) := ⟨rfl, rfl, rfl, by decide +kernel, rfl, by decide +kernel, by decide +kernel⟩
noncomputable abbrev s_next : Stmt := top 19
theorem sc_next : FnScope ["script", "spot"] ["script", "spot"] (defScope s_next) := ⟨rfl, rfl, rfl, by decide +kernel, rfl, by decide +kernel, by decide +kernel⟩
noncomputable abbrev s_saying : Stmt := top 20
theorem sc_saying : FnScope ["script", "spot", "names", "counts", "params", "deep", "cell", "kind", "parts", "to", "row"] ["script", "spot", "names", "counts", "params", "deep"] (defScope s_saying) := ⟨rfl, rfl, rfl, by decide +kernel, rfl, by decide +kernel, by decide +kernel⟩
noncomputable abbrev s_drawn : Stmt := top 21
theorem sc_drawn : FnScope ["script", "spot", "most", "deep", "head", "many", "names", "params", "counts", "program", "k", "mine"] ["script", "spot", "most", "deep"] (defScope s_drawn) := ⟨rfl, rfl, rfl, by decide +kernel, rfl, by decide +kernel, by decide +kernel⟩
noncomputable abbrev s_text : Stmt := top 22
theorem sc_text : FnScope ["saying", "inner", "marks"] ["saying"] (defScope s_text) := ⟨rfl, rfl, rfl, by decide +kernel, rfl, by decide +kernel, by decide +kernel⟩
noncomputable abbrev s_is_saying : Stmt := top 23
theorem sc_is_saying : FnScope ["found"] ["found"] (defScope s_is_saying) := ⟨rfl, rfl, rfl, by decide +kernel, rfl, by decide +kernel, by decide +kernel⟩
noncomputable abbrev s_is_errand : Stmt := top 24
theorem sc_is_errand : FnScope ["found"] ["found"] (defScope s_is_errand) := ⟨rfl, rfl, rfl, by decide +kernel, rfl, by decide +kernel, by decide +kernel⟩
noncomputable abbrev s_deep : Stmt := top 25
theorem sc_deep : FnScope ["cell", "steps", "params", "name", "saying", "left", "k", "kind"] ["cell", "steps", "params", "name"] (defScope s_deep) := ⟨rfl, rfl, rfl, by decide +kernel, rfl, by decide +kernel, by decide +kernel⟩
noncomputable abbrev s_there_and_back : Stmt := top 26
theorem sc_there_and_back : FnScope ["errand", "line", "due", "back"] ["errand"] (defScope s_there_and_back) := ⟨rfl, rfl, rfl, by decide +kernel, rfl, by decide +kernel, by decide +kernel⟩
noncomputable abbrev s_law : Stmt := top 27
theorem sc_law : FnScope ["script", "spot", "program", "first", "cell", "errand"] ["script"] (defScope s_law) := ⟨rfl, rfl, rfl, by decide +kernel, rfl, by decide +kernel, by decide +kernel⟩
noncomputable abbrev s_R_init : Stmt := inClass (top 15) 0
theorem sc_R_init : FnScope ["self", "text"] ["self", "text"] (defScope s_R_init) := ⟨rfl, rfl, rfl, by decide +kernel, rfl, by decide +kernel, by decide +kernel⟩
noncomputable abbrev s_R_sign_here : Stmt := inClass (top 15) 1
theorem sc_R_sign_here : FnScope ["self"] ["self"] (defScope s_R_sign_here) := ⟨rfl, rfl, rfl, by decide +kernel, rfl, by decide +kernel, by decide +kernel⟩
noncomputable abbrev s_R_read_saying : Stmt := inClass (top 15) 2
theorem sc_R_read_saying : FnScope ["self", "level", "sign"] ["self", "level"] (defScope s_R_read_saying) := ⟨rfl, rfl, rfl, by decide +kernel, rfl, by decide +kernel, by decide +kernel⟩
noncomputable abbrev s_R_read_named : Stmt := inClass (top 15) 3
theorem sc_R_read_named : FnScope ["self", "level", "word"] ["self", "level"] (defScope s_R_read_named) := ⟨rfl, rfl, rfl, by decide +kernel, rfl, by decide +kernel, by decide +kernel⟩
noncomputable abbrev s_R_read_word : Stmt := inClass (top 15) 4
theorem sc_R_read_word : FnScope ["self", "first", "word"] ["self"] (defScope s_R_read_word) := ⟨rfl, rfl, rfl, by decide +kernel, rfl, by decide +kernel, by decide +kernel⟩
noncomputable abbrev s_R_read_row : Stmt := inClass (top 15) 5
theorem sc_R_read_row : FnScope ["self", "closing", "least", "most", "level", "found"] ["self", "closing", "least", "most", "level"] (defScope s_R_read_row) := ⟨rfl, rfl, rfl, by decide +kernel, rfl, by decide +kernel, by decide +kernel⟩
noncomputable abbrev s_R_refuse_rest : Stmt := inClass (top 15) 6
theorem sc_R_refuse_rest : FnScope ["self"] ["self"] (defScope s_R_refuse_rest) := ⟨rfl, rfl, rfl, by decide +kernel, rfl, by decide +kernel, by decide +kernel⟩
inductive Ex2 {α0 α1 : Type} (p : α0 → α1 → Prop) : Prop where
  | mk (a0 : α0) (a1 : α1) (h : p a0 a1)
inductive Ex3 {α0 α1 α2 : Type} (p : α0 → α1 → α2 → Prop) : Prop where
  | mk (a0 : α0) (a1 : α1) (a2 : α2) (h : p a0 a1 a2)
inductive Ex4 {α0 α1 α2 α3 : Type} (p : α0 → α1 → α2 → α3 → Prop) : Prop where
  | mk (a0 : α0) (a1 : α1) (a2 : α2) (a3 : α3) (h : p a0 a1 a2 a3)
inductive Ex5 {α0 α1 α2 α3 α4 : Type} (p : α0 → α1 → α2 → α3 → α4 → Prop) : Prop where
  | mk (a0 : α0) (a1 : α1) (a2 : α2) (a3 : α3) (a4 : α4) (h : p a0 a1 a2 a3 a4)
theorem lnS {us : List Value} {n : Nat} (h : us.length = n + 1) : ∃ a t, us = a :: t ∧ t.length = n := by
  cases us with
  | nil => cases h
  | cons a t => exact ⟨a, t, rfl, Nat.succ.inj h⟩
theorem ln0 {us : List Value} (h : us.length = 0) : us = [] := List.eq_nil_of_length_eq_zero h
theorem ln1 {us : List Value} (h : us.length = 1) : ∃ a0, us = [a0] := by
  obtain ⟨a0, t, rfl, g⟩ := lnS h
  obtain rfl := ln0 g
  exact ⟨a0, rfl⟩
theorem ln2 {us : List Value} (h : us.length = 2) : ∃ a0 a1, us = [a0, a1] := by
  obtain ⟨a0, t, rfl, g⟩ := lnS h
  obtain ⟨a1, rfl⟩ := ln1 g
  exact ⟨a0, a1, rfl⟩
theorem ln3 {us : List Value} (h : us.length = 3) : ∃ a0 a1 a2, us = [a0, a1, a2] := by
  obtain ⟨a0, t, rfl, g⟩ := lnS h
  obtain ⟨a1, a2, rfl⟩ := ln2 g
  exact ⟨a0, a1, a2, rfl⟩
theorem ln4 {us : List Value} (h : us.length = 4) : ∃ a0 a1 a2 a3, us = [a0, a1, a2, a3] := by
  obtain ⟨a0, t, rfl, g⟩ := lnS h
  obtain ⟨a1, a2, a3, rfl⟩ := ln3 g
  exact ⟨a0, a1, a2, a3, rfl⟩
theorem ln5 {us : List Value} (h : us.length = 5) : ∃ a0 a1 a2 a3 a4, us = [a0, a1, a2, a3, a4] := by
  obtain ⟨a0, t, rfl, g⟩ := lnS h
  obtain ⟨a1, a2, a3, a4, rfl⟩ := ln4 g
  exact ⟨a0, a1, a2, a3, a4, rfl⟩
theorem ln6 {us : List Value} (h : us.length = 6) : ∃ a0 a1 a2 a3 a4 a5, us = [a0, a1, a2, a3, a4, a5] := by
  obtain ⟨a0, t, rfl, g⟩ := lnS h
  obtain ⟨a1, a2, a3, a4, a5, rfl⟩ := ln5 g
  exact ⟨a0, a1, a2, a3, a4, a5, rfl⟩
structure Gs (K : PySem.W.Frag) (mg : Str → Option Value) : Prop where
  len : mg "len" = none
  range : mg "range" = none
  isinstance : mg "isinstance" = none
  str : mg "str" = none
  tuple : mg "tuple" = none
  list : mg "list" = none
  reversed : mg "reversed" = none
  all : mg "all" = none
  MOST_LETTERS : ∃ t, mg "MOST_LETTERS" = some (.int 8 t)
  MOST_IN_ROW : ∃ t, mg "MOST_IN_ROW" = some (.int 4 t)
  MOST_DEEP : ∃ t, mg "MOST_DEEP" = some (.int 12 t)
structure RunT (K : PySem.W.Frag) (mg : Str → Option Value) (CR : Addr) : Prop where
  cl : Cls K CR
  mks : PySem.W.makesIn K CR = true
  kc : PySem.W.keepIn K (.ref CR) = true
  at_ : mg "SayingReader" = some (.ref CR)
  n_text : NoAttr K CR "text"
  n_place : NoAttr K CR "place"
section
variable {P : Program} {w : World} {K : PySem.W.Frag} {mg : Str → Option Value} {base : Heap} {adr : Rf → Addr} {CR : Addr}
noncomputable def ltrs : List Nat → Bool
  | [c] => ltr c
  | _ => false
theorem s_a : ("a" : Str) = textOf [97] := by decide +kernel
theorem s_z : ("z" : Str) = textOf [122] := by decide +kernel
inductive P_is_letter  (ds : List D) (q : D → Prop) : Prop where
  | mk (cs : List Nat) (_ : cs.length ≤ 1) (_ : ds = [.str (textOf cs)]) (_ : q (.bl (ltrs cs)))
def sp_is_letter  : Sp3 := vS P_is_letter
theorem ok_is_letter {k : Nat} (h : Has K mg "is_letter" s_is_letter ["sign"]) (G : Gs K mg) : Cal3 P w K mg base (k + 1) "is_letter" ["sign"] sp_is_letter := by
  refine h.val sc_is_letter (by rintro ds q ⟨_, _, e, _⟩; rw [e]; rfl) fun f cdv A outer s0 H E ds q hr hA => ?_
  obtain ⟨cs, hl, rfl, hq⟩ := hA
  refine ⟨_, (s_one (s_ret (e_chain op_le_str dn_leS op_le_str dn_leS e_str (e_v 0) e_str))), ?_⟩
  decreasing_trivial
  refine j_leS ?_
  rw [s_a, textOf_codes, textOf_codes]
  match cs, hl with
  | [], _ =>
    have e : (!decide (([] : List Nat) < [97])) = false := by decide
    rw [e]
    decreasing_trivial
    exact hq
  | [c], _ =>
    have lt : ∀ x y : Nat, (([x] : List Nat) < [y]) ↔ x < y := fun x y => by simp [List.cons_lt_cons_iff]
    by_cases c1 : 97 ≤ c
    · have e : (!decide (([c] : List Nat) < [97])) = true := by rw [decide_eq_false (by rw [lt]; omega)]; rfl
      rw [e]
      decreasing_trivial
      refine j_leS ?_
      rw [s_z, textOf_codes, textOf_codes]
      by_cases c2 : c ≤ 122
      · have e2 : (!decide (([122] : List Nat) < [c])) = true := by rw [decide_eq_false (by rw [lt]; omega)]; rfl
        have e3 : ltrs [c] = true := decide_eq_true ⟨c1, c2⟩
        rw [e2]
        rw [e3] at hq
        exact hq
      · have e2 : (!decide (([122] : List Nat) < [c])) = false := by rw [decide_eq_true (by rw [lt]; omega)]; rfl
        have e3 : ltrs [c] = false := decide_eq_false (by omega)
        rw [e2]
        rw [e3] at hq
        exact hq
    · have e : (!decide (([c] : List Nat) < [97])) = false := by rw [decide_eq_true (by rw [lt]; omega)]; rfl
      have e3 : ltrs [c] = false := decide_eq_false (by omega)
      rw [e]
      rw [e3] at hq
      decreasing_trivial
      exact hq
  | _ :: _ :: _, hl => simp at hl
structure Wd5 (w : List Nat) : Prop where
  l1 : 1 ≤ w.length
  l8 : w.length ≤ 8
  ok : ∀ c ∈ w, ltr c = true
inductive P_refuse_unfit_name  (ds : List D) (q : D → Prop) : Prop where
  | mk (w : List Nat) (_ : ds = [.str (textOf w)]) (_ : Wd5 w) (_ : q .non)
def sp_refuse_unfit_name  : Sp3 := vS P_refuse_unfit_name
theorem ok_refuse_unfit_name {k : Nat} (h : Has K mg "refuse_unfit_name" s_refuse_unfit_name ["word"]) (G : Gs K mg) (C_is_letter : Cal3 P w K mg base k "is_letter" ["sign"] sp_is_letter) : Cal3 P w K mg base (k + 1) "refuse_unfit_name" ["word"] sp_refuse_unfit_name := by
  refine h.val sc_refuse_unfit_name (by rintro ds q ⟨_, e, _⟩; rw [e]; rfl) fun f cdv A outer s0 H E ds q hr hA => ?_
  obtain ⟨w, rfl, hw, hq⟩ := hA
  have l1 := hw.l1
  have l8 := hw.l8
  refine ⟨_, (s_cons (s_set (i := 1) sc_refuse_unfit_name.nd rfl (Or.inl rfl) (e_callB (call_allL rfl) (dn_all (f := fun bs => bs.all id)) rfl G.all boot_all (a_cons (e_comp (osc := defScope s_refuse_unfit_name) (N := ["word", "fit"]) (M := []) (js := []) ⟨rfl, by decide +kernel, by decide +kernel, rfl, by decide +kernel, by decide +kernel, by decide +kernel⟩ (by decide +kernel) rfl (i_str (e_v 0)) (fun _ _ _ _ _ => (e_call C_is_letter hr rfl (a_cons (e_v 0) a_nil)))) a_nil)))
 (s_one (s_if (PW3.pt (w_or (t_not (t_val (e_v 1))) (w_or (t_cmp op_lt dn_intB (e_callB call_len_str dn_lenS rfl G.len PySem.boot_len (a_cons (e_v 0) a_nil)) e_int (nomark _)) (w_or1 (t_cmp op_gt dn_intB (e_callB call_len_str dn_lenS rfl G.len PySem.boot_len (a_cons (e_v 0) a_nil)) (e_globI G.MOST_LETTERS rfl) (nomark _)))))) ss_never s_nil))), ?_⟩
  decreasing_trivial
  have es : E3.signs (textOf w) = w.map fun c => D.str (textOf [c]) := by unfold E3.signs; rw [textOf_codes]; rfl
  rw [es]
  refine comp_map (fun _ => .bl true) (by rw [List.length_map]; omega) trivial ?_ ?_
  · intro i d hd P hP
    rw [List.getElem?_map] at hd
    obtain ⟨c, hc, rfl⟩ := Option.map_eq_some_iff.mp hd
    decreasing_trivial
    refine ⟨[c], by simp, rfl, ?_⟩
    rw [show ltrs [c] = ltr c from rfl, hw.ok c (List.mem_of_getElem? hc)]
    exact hP
  intro pl hpl
  decreasing_trivial
  have eb : ((List.range (w.map fun c => D.str (textOf [c])).length).map fun _ => D.bl true) = ((List.range (w.map fun c => D.str (textOf [c])).length).map fun _ => true).map D.bl := by rw [List.map_map]; rfl
  rw [eb]
  refine j_all up_same ?_
  have et : (((List.range (w.map fun c => D.str (textOf [c])).length).map fun _ => true).all id) = true := by
    rw [List.all_eq_true]
    intro x hx
    obtain ⟨_, _, rfl⟩ := List.mem_map.mp hx
    rfl
  rw [et]
  have el : ((textOf w).length : Int) = (w.length : Nat) := by rw [len_text]
  have el2 : (textOf w).length ≤ sizeLine := by rw [len_text]; exact small_le (by omega)
  decreasing_trivial
  exact hq
inductive P_refuse_unfit_count  (ds : List D) (S : Hp3) (q : D → Prop) : Prop where
  | mk (x : D) (xs : List D) (l m : Int) (_ : ds = [x, .int l, .int m]) (_ : (x = .tup xs ∨ ∃ a, x = .ref a ∧ S a = some (.lst xs))) (_ : l ≤ xs.length) (_ : (xs.length : Int) ≤ m) (_ : q .non)
def sp_refuse_unfit_count  : Sp3 := rdV P_refuse_unfit_count
theorem ok_refuse_unfit_count {k : Nat} (h : Has K mg "refuse_unfit_count" s_refuse_unfit_count ["row", "least", "most"]) (G : Gs K mg) : Cal3 P w K mg base (k + 1) "refuse_unfit_count" ["row", "least", "most"] sp_refuse_unfit_count := by
  refine h.rdV sc_refuse_unfit_count (by rintro ds S q ⟨_, _, _, _, e, _⟩; rw [e]; rfl) fun f cdv A outer s0 H E ds S q hr hA => ?_
  obtain ⟨x, xs, l, m, rfl, hx, h1, h2, hq⟩ := hA
  refine ⟨_, (s_one (s_if (PW3.pt (w_or (t_cmp op_lt dn_intB (e_callB call_len_seq dn_len rfl G.len PySem.boot_len (a_cons (e_v 0) a_nil)) (e_v 1) (nomark _)) (w_or1 (t_cmp op_gt dn_intB (e_callB call_len_seq dn_len rfl G.len PySem.boot_len (a_cons (e_v 0) a_nil)) (e_v 2) (nomark _))))) ss_never s_nil)), ?_⟩
  rcases hx with rfl | ⟨a, rfl, hS⟩
  · decreasing_trivial
    exact ⟨Sub.refl _, hq⟩
  · decreasing_trivial
    exact ⟨Sub.refl _, hq⟩
inductive P_init (CR : Addr) (ds : List D) (S : Hp3) (Q : K3) (_ : X3) : Prop where
  | mk (a : Addr) (t : Str) (_ : ds = [.ref a, .str t]) (_ : S a = some (.ins CR [])) (_ : ∀ S', Px a S S' → S' a = some (.ins CR (rdFs t 0)) → Q .non S')
def sp_init (CR : Addr) : Sp3 :=  (P_init CR)
theorem ok_R_init {k : Nat} (h : HasM K CR "__init__" "SayingReader.__init__" s_R_init ["self", "text"]) (G : Gs K mg) (T : RunT K mg CR) : Met3 P w K mg base (k + 1) CR "__init__" ["self", "text"] (sp_init CR) := by
  refine h.met3 sc_R_init (by rintro ds S Q E ⟨_, _, e, _⟩; rw [e]; rfl) fun f cdv A0 outer s0 H E ds S Q W hr hA => ?_
  obtain ⟨a, t, rfl, ha, hq⟩ := hA
  refine ⟨_, (s_cons (s_fld T.cl T.n_text (e_v 0) (e_v 1) rfl)
 (s_one (s_fld T.cl T.n_place (e_v 0) e_int rfl))), ?_⟩
  have put : ∀ (gs : List (Str × D)) (S : Hp3) (fs : List (Str × D)) (f : Str) (d : D) (n : Hp3 → Prop), S a = some (.ins CR fs) → fs.length < 1000 → putI f d fs = gs → n (up S a (.ins CR gs)) → putR CR f (.ref a) d S n := fun gs S fs f d n hS hl e q => j_putR hS hl (by rw [e]; exact q)
  decreasing_trivial
  refine put [("text", .str t)] _ _ _ _ _ ha (by decide) rfl ?_
  decreasing_trivial
  refine put [("text", .str t), ("place", .int 0)] _ _ _ _ _ up_same (show 1 < 1000 by decide) rfl ?_
  decreasing_trivial
  rw [up_up]
  exact hq _ (Px.refl a S).at up_same
inductive P_sign_here (CR : Addr) (ds : List D) (S : Hp3) (Q : K3) (_ : X3) : Prop where
  | mk (a : Addr) (cs : List Nat) (p : Nat) (_ : ds = [.ref a]) (_ : S a = some (.ins CR (rdFs (textOf cs) p))) (_ : cs.length ≤ 100000) (_ : Q (.str (textOf (sgAt cs p))) S)
def sp_sign_here (CR : Addr) : Sp3 :=  (P_sign_here CR)
theorem ok_R_sign_here {k : Nat} (h : HasM K CR "sign_here" "SayingReader.sign_here" s_R_sign_here ["self"]) (G : Gs K mg) (T : RunT K mg CR) : Met3 P w K mg base (k + 1) CR "sign_here" ["self"] (sp_sign_here CR) := by
  refine h.met3 sc_R_sign_here (by rintro ds S Q E ⟨_, _, _, e, _⟩; rw [e]; rfl) fun f cdv A0 outer s0 H E ds S Q W hr hA => ?_
  obtain ⟨a, cs, p, rfl, hS, hl, hq⟩ := hA
  refine ⟨_, (s_one (s_ret (e_slice sl_str dn_slS (e_fld T.cl T.n_text (e_v 0) rfl) (p_some (e_fld T.cl T.n_place (e_v 0) rfl)) (p_some (e_op op_add dn_int (e_fld T.cl T.n_place (e_v 0) rfl) e_int))))), ?_⟩
  decreasing_trivial
  refine j_slS (small_le (by show (textOf cs).cps.size ≤ _; simp only [textOf, List.size_toArray]; omega)) ?_
  rw [textOf_codes, show (p : Int) + 1 = ((p + 1 : Nat) : Int) by omega, cutT_mid (by omega), show p + 1 - p = 1 by omega]
  exact hq
def NoLtr (post : List Nat) : Prop := ∀ c r, post = c :: r → ltr c = false
inductive P_read_word (CR : Addr) (ds : List D) (S : Hp3) (Q : K3) (_ : X3) : Prop where
  | mk (a : Addr) (pre w post : List Nat) (_ : ds = [.ref a]) (_ : S a = some (.ins CR (rdFs (textOf (pre ++ w ++ post)) pre.length))) (_ : (pre ++ w ++ post).length ≤ 100000) (_ : Wd5 w) (_ : NoLtr post) (_ : ∀ S', Px a S S' → S' a = some (.ins CR (rdFs (textOf (pre ++ w ++ post)) (pre.length + w.length : Nat))) → Q (.str (textOf w)) S')
def sp_read_word (CR : Addr) : Sp3 :=  (P_read_word CR)
theorem ok_R_read_word {k : Nat} (h : HasM K CR "read_word" "SayingReader.read_word" s_R_read_word ["self"]) (G : Gs K mg) (T : RunT K mg CR) (M_sign_here : Met3 P w K mg base k CR "sign_here" ["self"] (sp_sign_here CR)) (C_is_letter : Cal3 P w K mg base k "is_letter" ["sign"] sp_is_letter) (C_refuse_unfit_name : Cal3 P w K mg base k "refuse_unfit_name" ["word"] sp_refuse_unfit_name) : Met3 P w K mg base (k + 1) CR "read_word" ["self"] (sp_read_word CR) := by
  refine h.met3 sc_R_read_word (by rintro ds S Q E ⟨_, _, _, _, e, _⟩; rw [e]; rfl) fun f cdv A0 outer s0 H E ds S Q W hr hA => ?_
  obtain ⟨a, pre, w, post, rfl, hS, hl, hw, hp, hq⟩ := hA
  refine ⟨_, (s_cons (s_set (i := 1) sc_R_read_word.nd rfl (Or.inl rfl) (e_fld T.cl T.n_place (e_v 0) rfl))
 (s_cons (s_while PassesOwn.never (t_val (e_call C_is_letter hr rfl (a_cons (e_meth0 M_sign_here T.cl hr (e_v 0)) a_nil))) (s_one (s_faug T.cl T.n_place (e_v 0) e_int)))
 (s_cons (s_set (i := 2) sc_R_read_word.nd rfl (Or.inl rfl) (e_slice sl_str dn_slS (e_fld T.cl T.n_text (e_v 0) rfl) (p_some (e_v 1)) (p_some (e_fld T.cl T.n_place (e_v 0) rfl))))
 (s_cons (s_expr (e_call C_refuse_unfit_name hr rfl (a_cons (e_v 2) a_nil)))
 (s_one (s_ret (e_v 2))))))), ?_⟩
  decreasing_trivial
  refine j_while (fun m σ S' => Ex2 fun (i : Nat) (x2 : Option D) => i + m = w.length ∧ σ = [some (.ref a), some (.int pre.length), x2] ∧ Px a S S' ∧ S' a = some (.ins CR (rdFs (textOf (pre ++ w ++ post)) (pre.length + i : Nat)))) w.length ⟨0, none, by omega, rfl, Px.refl _ _, hS⟩ ?_
  rintro m σ S1 ⟨i, x2, him, rfl, px, h1⟩
  decreasing_trivial
  refine j_Rm h1 (fun _ _ => rfl) ?_
  refine ⟨a, _, _, rfl, h1, hl, ?_⟩
  decreasing_trivial
  rw [sg_get]
  by_cases ci : i < w.length
  · have e : (pre ++ w ++ post)[pre.length + i]? = some w[i] := by
      rw [List.append_assoc, List.getElem?_append_right (by omega), show pre.length + i - pre.length = i by omega, List.getElem?_append_left ci, List.getElem?_eq_getElem ci]
    rw [e]
    refine ⟨[w[i]], by simp, rfl, ?_⟩
    rw [show ltrs [w[i]] = ltr w[i] from rfl, hw.ok _ (List.getElem_mem ci)]
    decreasing_trivial
    refine j_Rstep h1 ?_
    refine ⟨m - 1, by omega, i + 1, _, by omega, rfl, px.at, ?_⟩
    rw [up_same, show ((pre.length + i : Nat) : Int) + 1 = ((pre.length + (i + 1) : Nat) : Int) by omega]
  · have ei : i = w.length := by omega
    have e : (pre ++ w ++ post)[pre.length + i]? = post.head? := by
      rw [List.getElem?_append_right (by rw [List.length_append]; omega), List.length_append, show pre.length + i - (pre.length + w.length) = 0 by omega]
      cases post <;> rfl
    rw [e]
    have hn : ltrs post.head?.toList = false := by
      cases post with
      | nil => rfl
      | cons c r => exact hp c r rfl
    refine ⟨_, by cases post <;> simp, rfl, ?_⟩
    rw [hn]
    decreasing_trivial
    refine j_slS (small_le (by rw [len_text]; omega)) ?_
    rw [textOf_codes, cutT_mid (by omega), show pre.length + i - pre.length = w.length by omega, List.append_assoc, List.drop_left, List.take_left]
    decreasing_trivial
    refine ⟨w, rfl, hw, ?_⟩
    decreasing_trivial
    refine hq S1 px ?_
    rw [h1, ei]
mutual
noncomputable def tx : Sy → List Nat
  | .name x => x.cps.toList
  | .bud => [45]
  | .left a => 60 :: tx a
  | .right a => 62 :: tx a
  | .pair a b => 91 :: ((tx a ++ (32 :: (tx b ++ []))) ++ [93])
  | .fork a b c => 123 :: ((tx a ++ (32 :: (tx b ++ (32 :: (tx c ++ []))))) ++ [125])
  | .send x [] => x.cps.toList ++ 40 :: [41]
  | .send x (a :: as) => x.cps.toList ++ 40 :: ((tx a ++ txt as) ++ [41])
noncomputable def txt : List Sy → List Nat
  | [] => []
  | a :: as => 32 :: (tx a ++ txt as)
end
mutual
def okS : Sy → Prop
  | .name x => NameOk x
  | .bud => True
  | .left a => okS a
  | .right a => okS a
  | .pair a b => okS a ∧ okS b
  | .fork a b c => okS a ∧ okS b ∧ okS c
  | .send x as => NameOk x ∧ 1 ≤ as.length ∧ as.length ≤ 4 ∧ okSs as
def okSs : List Sy → Prop
  | [] => True
  | a :: as => okS a ∧ okSs as
end
theorem okSs_mem : ∀ {as : List Sy}, okSs as → ∀ a ∈ as, okS a
  | b :: as, h, a, ha => by
    rcases List.mem_cons.mp ha with rfl | ha
    · exact h.1
    · exact okSs_mem h.2 a ha
theorem name_wd {x : Str} (h : NameOk x) : x = textOf x.cps.toList ∧ Wd5 x.cps.toList := by
  obtain ⟨cs, rfl, h1, h8, h⟩ := h
  rw [textOf_codes]
  exact ⟨rfl, h1, h8, fun c hc => decide_eq_true (h c hc)⟩
def Stop5 (post : List Nat) : Prop := ∀ c r, post = c :: r → ltr c = false ∧ c ≠ 40
theorem Stop5.no {post : List Nat} (h : Stop5 post) : NoLtr post := fun c r e => (h c r e).1
theorem stop_cons {c : Nat} {r : List Nat} (h : ltr c = false) (h' : c ≠ 40) : Stop5 (c :: r) := fun d r' e => by cases e; exact ⟨h, h'⟩
structure Here (CR : Addr) (S : Hp3) (a : Addr) (pre z post : List Nat) : Prop where
  at_ : S a = some (.ins CR (rdFs (textOf (pre ++ z ++ post)) pre.length))
  len : (pre ++ z ++ post).length ≤ 100000
theorem Here.next {CR : Addr} {S S' : Hp3} {a : Addr} {pre z post : List Nat} (h : Here CR S a pre z post) (e : S' a = some (.ins CR (rdFs (textOf (pre ++ z ++ post)) (pre.length + z.length : Nat)))) {z' post' : List Nat} (hp : post = z' ++ post') : Here CR S' a (pre ++ z) z' post' := by
  subst hp
  have e1 : pre ++ z ++ (z' ++ post') = pre ++ z ++ z' ++ post' := by simp only [List.append_assoc]
  refine ⟨?_, by rw [← e1]; exact h.len⟩
  rw [e, e1, List.length_append]
inductive P_read_saying (CR : Addr) (n : Nat) (ds : List D) (S : Hp3) (Q : K3) (_ : X3) : Prop where
  | mk (a : Addr) (lv : Int) (s : Sy) (pre post : List Nat) (_ : ds = [.ref a, .int lv]) (_ : Here CR S a pre (tx s) post) (_ : okS s) (_ : Stop5 post) (_ : lv + s.deep ≤ 13) (_ : 3 * s.deep + 6 ≤ n) (_ : ∀ S', Px a S S' → S' a = some (.ins CR (rdFs (textOf (pre ++ tx s ++ post)) (pre.length + (tx s).length : Nat))) → Q s.d S')
def sp_read_saying (CR : Addr) (n : Nat) : Sp3 :=  (P_read_saying CR n)
noncomputable def isNamed : Sy → Bool
  | .name _ => true
  | .send _ _ => true
  | _ => false
inductive P_read_named (CR : Addr) (n : Nat) (ds : List D) (S : Hp3) (Q : K3) (_ : X3) : Prop where
  | mk (a : Addr) (lv : Int) (s : Sy) (pre post : List Nat) (_ : ds = [.ref a, .int lv]) (_ : Here CR S a pre (tx s) post) (_ : okS s) (_ : isNamed s = true) (_ : Stop5 post) (_ : lv + s.deep ≤ 13) (_ : 3 * s.deep + 6 ≤ n + 1) (_ : ∀ S', Px a S S' → S' a = some (.ins CR (rdFs (textOf (pre ++ tx s ++ post)) (pre.length + (tx s).length : Nat))) → Q s.d S')
def sp_read_named (CR : Addr) (n : Nat) : Sp3 :=  (P_read_named CR n)
inductive P_read_row (CR : Addr) (n : Nat) (ds : List D) (S : Hp3) (Q : K3) (_ : X3) : Prop where
  | mk (a : Addr) (lv least most : Int) (cl : Nat) (s : Sy) (as : List Sy) (pre post : List Nat) (_ : ds = [.ref a, .str (textOf [cl]), .int least, .int most, .int lv]) (_ : Here CR S a pre ((tx s ++ txt as) ++ [cl]) post) (_ : (cl = 93 ∨ cl = 125 ∨ cl = 41)) (_ : (∀ x ∈ s :: as, okS x ∧ lv + x.deep ≤ 13 ∧ 3 * x.deep + 7 ≤ n)) (_ : as.length ≤ 10) (_ : least ≤ as.length + 1) (_ : (as.length : Int) + 1 ≤ most) (_ : ∀ S', Px a S S' → S' a = some (.ins CR (rdFs (textOf (pre ++ ((tx s ++ txt as) ++ [cl]) ++ post)) (pre.length + ((tx s ++ txt as) ++ [cl]).length : Nat))) → Q (.tup ((s :: as).map Sy.d)) S')
def sp_read_row (CR : Addr) (n : Nat) : Sp3 :=  (P_read_row CR n)
theorem t_45 : textOf [45] = "-" := by decide +kernel
theorem t_60 : textOf [60] = "<" := by decide +kernel
theorem t_62 : textOf [62] = ">" := by decide +kernel
theorem t_91 : textOf [91] = "[" := by decide +kernel
theorem t_123 : textOf [123] = "{" := by decide +kernel
theorem t_93 : textOf [93] = "]" := by decide +kernel
theorem t_125 : textOf [125] = "}" := by decide +kernel
theorem t_41 : textOf [41] = ")" := by decide +kernel
theorem t_40 : textOf [40] = "(" := by decide +kernel
theorem t_32 : textOf [32] = " " := by decide +kernel
theorem _root_.E3.Px.trans {st : Addr} {A B C : Hp3} (h : Px st A B) (h' : Px st B C) : Px st A C := fun a u n e => h' a u n (h a u n e)
noncomputable abbrev marks5 : List Str := ["-", "<", ">", "[", "{"]
theorem mark_in {x : Str} (h : x = "-" ∨ x = "<" ∨ x = ">" ∨ x = "[" ∨ x = "{") : decide (x ∈ marks5) = true := by
  rcases h with rfl | rfl | rfl | rfl | rfl <;> decide +kernel
theorem mark_no {c : Nat} (h : ltr c = true) : decide (textOf [c] ∈ marks5) = false := by
  have hc : 97 ≤ c ∧ c ≤ 122 := of_decide_eq_true h
  refine decide_eq_false fun z => ?_
  simp only [marks5, List.mem_cons, List.not_mem_nil, or_false] at z
  rcases z with z | z | z | z | z
  · have := textOf_inj (z.trans t_45.symm); simp at this; omega
  · have := textOf_inj (z.trans t_60.symm); simp at this; omega
  · have := textOf_inj (z.trans t_62.symm); simp at this; omega
  · have := textOf_inj (z.trans t_91.symm); simp at this; omega
  · have := textOf_inj (z.trans t_123.symm); simp at this; omega
theorem j_marks {S : Hp3} {Q : K3} {x : Str} (q : Q (.bl (!decide (x ∈ marks5))) S) : in3 true (.str x) (.tup [.str "-", .str "<", .str ">", .str "[", .str "{"]) S Q := j_notinTS (xs := marks5) q
theorem named_first {s : Sy} (h : isNamed s = true) (ok : okS s) : ∃ c r, tx s = c :: r ∧ ltr c = true := by
  have key : ∀ x : Str, NameOk x → ∃ c r, x.cps.toList = c :: r ∧ ltr c = true := fun x hx => by
    obtain ⟨_, hw⟩ := name_wd hx
    cases e : x.cps.toList with
    | nil => rw [e] at hw; exact absurd hw.l1 (by simp)
    | cons c r => rw [e] at hw; exact ⟨c, r, rfl, hw.ok c List.mem_cons_self⟩
  cases s with
  | name x => rw [tx]; exact key x ok
  | send x as =>
    obtain ⟨c, r, e, hc⟩ := key x ok.1
    cases as with
    | nil => rw [tx, e]; exact ⟨c, _, rfl, hc⟩
    | cons a as => rw [tx, e]; exact ⟨c, _, rfl, hc⟩
  | _ => simp [isNamed] at h
theorem txt_append : ∀ as bs : List Sy, txt (as ++ bs) = txt as ++ txt bs
  | [], bs => by rw [List.nil_append, txt, List.nil_append]
  | a :: as, bs => by rw [List.cons_append, txt, txt, txt_append as bs, List.cons_append, List.append_assoc]
theorem range_at {α β : Type} (l : List α) (z : α) (f : α → β) : (List.range l.length).map (fun i => f (l.getD i z)) = l.map f := by
  apply List.ext_getElem
  · simp
  · intro i h1 h2
    have : i < l.length := by simpa using h2
    rw [List.getElem_map, List.getElem_map, List.getElem_range, List.getD_eq_getElem?_getD, List.getElem?_eq_getElem this]
    rfl
theorem ok_R_read_saying {n : Nat} (h : HasM K CR "read_saying" "SayingReader.read_saying" s_R_read_saying ["self", "level"]) (G : Gs K mg) (T : RunT K mg CR) (M_sign_here : Met3 P w K mg base n CR "sign_here" ["self"] (sp_sign_here CR)) (M_read_named : Met3 P w K mg base n CR "read_named" ["self", "level"] (sp_read_named CR n))
    (M_read_saying : Met3 P w K mg base n CR "read_saying" ["self", "level"] (sp_read_saying CR n)) (M_read_row : Met3 P w K mg base n CR "read_row" ["self", "closing", "least", "most", "level"] (sp_read_row CR n)) : Met3 P w K mg base (n + 1) CR "read_saying" ["self", "level"] (sp_read_saying CR (n + 1)) := by
  refine h.met3 sc_R_read_saying (by rintro ds S Q E ⟨_, _, _, _, _, e, _⟩; rw [e]; rfl) fun f cdv A0 outer s0 H E ds S Q W hr hA => ?_
  obtain ⟨a, lv, s, pre, post, rfl, hH, ok, stop, hlv, hn, hq⟩ := hA
  have hd : 1 ≤ s.deep := by cases s <;> simp only [Sy.deep] <;> omega
  have hS := hH.at_
  refine ⟨_, (s_cons (s_if (t_cmp op_gt dn_intB (e_v 1) (e_globI G.MOST_DEEP rfl) (nomark _)) ss_never s_nil)
 (s_cons (s_set (i := 2) sc_R_read_saying.nd rfl (Or.inl rfl) (e_meth0 M_sign_here T.cl hr (e_v 0)))
 (s_cons (s_if (t_cmp op_notIn_seq dn_in (e_v 2) (e_tup (a_cons e_str (a_cons e_str (a_cons e_str (a_cons e_str (a_cons e_str a_nil)))))) (by with_unfolding_all rfl)) (s_one (s_ret (e_meth M_read_named T.cl hr (e_v 0) (a_cons (e_v 1) a_nil)))) s_nil)
 (s_cons (s_faug T.cl T.n_place (e_v 0) e_int)
 (s_cons (s_if (t_cmp op_eq dn_eqS (e_v 2) e_str (nomark _)) (s_one (s_ret (e_tup (a_cons e_str a_nil)))) s_nil)
 (s_cons (s_if (t_cmp op_eq dn_eqS (e_v 2) e_str (nomark _)) (s_one (s_ret (e_tup (a_cons e_str (a_cons (e_meth M_read_saying T.cl hr (e_v 0) (a_cons (e_op op_add dn_int (e_v 1) e_int) a_nil)) a_nil))))) s_nil)
 (s_cons (s_if (t_cmp op_eq dn_eqS (e_v 2) e_str (nomark _)) (s_one (s_ret (e_tup (a_cons e_str (a_cons (e_meth M_read_saying T.cl hr (e_v 0) (a_cons (e_op op_add dn_int (e_v 1) e_int) a_nil)) a_nil))))) s_nil)
 (s_cons (s_if (t_cmp op_eq dn_eqS (e_v 2) e_str (nomark _)) (s_one (s_ret (e_op op_catT dn_catT (e_tup (a_cons e_str a_nil)) (e_meth M_read_row T.cl hr (e_v 0) (a_cons e_str (a_cons e_int (a_cons e_int (a_cons (e_op op_add dn_int (e_v 1) e_int) a_nil)))))))) s_nil)
 (s_one (s_ret (e_op op_catT dn_catT (e_tup (a_cons e_str a_nil)) (e_meth M_read_row T.cl hr (e_v 0) (a_cons e_str (a_cons e_int (a_cons e_int (a_cons (e_op op_add dn_int (e_v 1) e_int) a_nil)))))))))))))))), ?_⟩
  decreasing_trivial
  refine j_Rm hS (fun _ _ => rfl) ?_
  refine ⟨a, _, _, rfl, hS, hH.len, ?_⟩
  decreasing_trivial
  have named : isNamed s = true → in3 true (.str (textOf (sgAt (pre ++ tx s ++ post) pre.length))) (.tup [.str "-", .str "<", .str ">", .str "[", .str "{"]) S (fun z S' => z = .bl true ∧ S' = S) := fun hz => by
    obtain ⟨c, r, e, hc⟩ := named_first hz ok
    refine j_marks ?_
    rw [e, List.append_assoc, show pre ++ (c :: r ++ post) = pre ++ c :: (r ++ post) from rfl, sg_cons, mark_no hc]
    exact ⟨rfl, rfl⟩
  have sign : ∀ (c : Nat) (r : List Nat), tx s = c :: r → sgAt (pre ++ tx s ++ post) pre.length = [c] := fun c r e => by
    rw [e, List.append_assoc]
    exact sg_cons
  have step : ∀ (c : Nat) (r : List Nat), tx s = c :: r → Px a S (up S a (.ins CR (rdFs (textOf (pre ++ tx s ++ post)) (pre.length + 1)))) ∧ ∀ z post', r ++ post = z ++ post' → Here CR (up S a (.ins CR (rdFs (textOf (pre ++ tx s ++ post)) (pre.length + 1)))) a (pre ++ [c]) z post' := fun c r e => by
    refine ⟨(Px.refl a S).at, fun z post' e2 => ⟨?_, ?_⟩⟩
    · rw [up_same, e, show pre ++ (c :: r) ++ post = pre ++ [c] ++ z ++ post' by rw [List.append_assoc pre, List.cons_append, e2]; simp only [List.append_assoc, List.cons_append, List.nil_append]]
      congr 4
      rw [List.length_append]
      rfl
    · have := hH.len
      rw [e] at this
      have e3 := congrArg List.length e2
      simp only [List.length_append, List.length_cons, List.length_nil] at this e3 ⊢
      omega
  cases s with
  | bud =>
    have ez : tx Sy.bud = [45] := by rw [tx]
    rw [sign 45 [] ez, t_45]
    refine j_marks ?_
    rw [mark_in (.inl rfl)]
    decreasing_trivial
    refine j_Rstep hS ?_
    decreasing_trivial
    refine hq _ (step 45 [] ez).1 ?_
    rw [up_same, ez]
    rfl
  | left b =>
    have ez : tx (Sy.left b) = 60 :: tx b := by rw [tx]
    have hs := step 60 (tx b) ez
    rw [sign 60 _ ez, t_60]
    refine j_marks ?_
    rw [mark_in (.inr (.inl rfl))]
    decreasing_trivial
    refine j_Rstep hS ?_
    have h1 := hs.2 (tx b) post rfl
    have px := hs.1
    generalize up S a (.ins CR (rdFs (textOf (pre ++ tx (Sy.left b) ++ post)) (pre.length + 1))) = S1 at h1 px ⊢
    decreasing_trivial
    refine j_Rm h1.at_ (fun _ _ => rfl) ?_
    decreasing_trivial
    refine ⟨a, lv + 1, b, pre ++ [60], post, rfl, h1, ok, stop, by simp only [Sy.deep] at hlv; omega, by simp only [Sy.deep] at hn; omega, fun S2 p2 e2 => ?_⟩
    decreasing_trivial
    refine hq S2 (px.trans p2) ?_
    rw [e2, ez]
    simp only [List.length_append, List.length_cons, List.length_nil, List.append_assoc, List.cons_append, List.nil_append]
    congr 4
    omega
  | right b =>
    have ez : tx (Sy.right b) = 62 :: tx b := by rw [tx]
    have hs := step 62 (tx b) ez
    rw [sign 62 _ ez, t_62]
    refine j_marks ?_
    rw [mark_in (.inr (.inr (.inl rfl)))]
    decreasing_trivial
    refine j_Rstep hS ?_
    have h1 := hs.2 (tx b) post rfl
    have px := hs.1
    generalize up S a (.ins CR (rdFs (textOf (pre ++ tx (Sy.right b) ++ post)) (pre.length + 1))) = S1 at h1 px ⊢
    decreasing_trivial
    refine j_Rm h1.at_ (fun _ _ => rfl) ?_
    decreasing_trivial
    refine ⟨a, lv + 1, b, pre ++ [62], post, rfl, h1, ok, stop, by simp only [Sy.deep] at hlv; omega, by simp only [Sy.deep] at hn; omega, fun S2 p2 e2 => ?_⟩
    decreasing_trivial
    refine hq S2 (px.trans p2) ?_
    rw [e2, ez]
    simp only [List.length_append, List.length_cons, List.length_nil, List.append_assoc, List.cons_append, List.nil_append]
    congr 4
    omega
  | pair b c =>
    have ez : tx (Sy.pair b c) = 91 :: ((tx b ++ txt [c]) ++ [93]) := by rw [tx]; simp only [txt]
    have hs := step 91 _ ez
    rw [sign 91 _ ez, t_91]
    refine j_marks ?_
    rw [mark_in (.inr (.inr (.inr (.inl rfl))))]
    decreasing_trivial
    refine j_Rstep hS ?_
    have h1 := hs.2 ((tx b ++ txt [c]) ++ [93]) post rfl
    have px := hs.1
    generalize up S a (.ins CR (rdFs (textOf (pre ++ tx (Sy.pair b c) ++ post)) (pre.length + 1))) = S1 at h1 px ⊢
    simp only [Sy.deep] at hlv hn
    decreasing_trivial
    refine j_Rm h1.at_ (fun _ _ => rfl) ?_
    decreasing_trivial
    refine ⟨a, lv + 1, 2, 2, 93, b, [c], pre ++ [91], post, by rw [t_93], h1, by decide, fun x hx => ?_, by simp, by simp, by simp, fun S2 p2 e2 => ?_⟩
    · simp only [List.mem_cons, List.not_mem_nil, or_false] at hx
      rcases hx with rfl | rfl
      · exact ⟨ok.1, by omega, by omega⟩
      · exact ⟨ok.2, by omega, by omega⟩
    decreasing_trivial
    refine j_catT (by simp) (small_le (by simp)) ?_
    refine hq S2 (px.trans p2) ?_
    rw [e2, ez]
    simp only [List.length_append, List.length_cons, List.length_nil, List.append_assoc, List.cons_append, List.nil_append]
    congr 4
    omega
  | fork b c d =>
    have ez : tx (Sy.fork b c d) = 123 :: ((tx b ++ txt [c, d]) ++ [125]) := by rw [tx]; simp only [txt]
    have hs := step 123 _ ez
    rw [sign 123 _ ez, t_123]
    refine j_marks ?_
    rw [mark_in (.inr (.inr (.inr (.inr rfl))))]
    decreasing_trivial
    refine j_Rstep hS ?_
    have h1 := hs.2 ((tx b ++ txt [c, d]) ++ [125]) post rfl
    have px := hs.1
    generalize up S a (.ins CR (rdFs (textOf (pre ++ tx (Sy.fork b c d) ++ post)) (pre.length + 1))) = S1 at h1 px ⊢
    simp only [Sy.deep] at hlv hn
    decreasing_trivial
    refine j_Rm h1.at_ (fun _ _ => rfl) ?_
    decreasing_trivial
    refine ⟨a, lv + 1, 3, 3, 125, b, [c, d], pre ++ [123], post, by rw [t_125], h1, by decide, fun x hx => ?_, by simp, by simp, by simp, fun S2 p2 e2 => ?_⟩
    · simp only [List.mem_cons, List.not_mem_nil, or_false] at hx
      rcases hx with rfl | rfl | rfl
      · exact ⟨ok.1, by omega, by omega⟩
      · exact ⟨ok.2.1, by omega, by omega⟩
      · exact ⟨ok.2.2, by omega, by omega⟩
    decreasing_trivial
    refine j_catT (by simp) (small_le (by simp)) ?_
    refine hq S2 (px.trans p2) ?_
    rw [e2, ez]
    simp only [List.length_append, List.length_cons, List.length_nil, List.append_assoc, List.cons_append, List.nil_append]
    congr 4
    omega
  | name x =>
    obtain ⟨ds2, hx1, hx2, hx3, hx4⟩ := named rfl
    refine ⟨ds2, hx1, hx2, hx3, ?_⟩
    rw [hx4.1]
    decreasing_trivial
    refine j_Rm hS (fun _ _ => rfl) ?_
    decreasing_trivial
    exact ⟨a, lv, .name x, pre, post, rfl, hH, ok, rfl, stop, hlv, by omega, hq⟩
  | send x as =>
    obtain ⟨ds2, hx1, hx2, hx3, hx4⟩ := named rfl
    refine ⟨ds2, hx1, hx2, hx3, ?_⟩
    rw [hx4.1]
    decreasing_trivial
    refine j_Rm hS (fun _ _ => rfl) ?_
    decreasing_trivial
    exact ⟨a, lv, .send x as, pre, post, rfl, hH, ok, rfl, stop, hlv, by omega, hq⟩
theorem ok_R_read_named {n : Nat} (hn1 : 1 ≤ n) (h : HasM K CR "read_named" "SayingReader.read_named" s_R_read_named ["self", "level"]) (G : Gs K mg) (T : RunT K mg CR) (M_sign_here : Met3 P w K mg base n CR "sign_here" ["self"] (sp_sign_here CR)) (M_read_word : Met3 P w K mg base n CR "read_word" ["self"] (sp_read_word CR))
    (M_read_row : Met3 P w K mg base n CR "read_row" ["self", "closing", "least", "most", "level"] (sp_read_row CR n)) : Met3 P w K mg base (n + 1) CR "read_named" ["self", "level"] (sp_read_named CR (n + 1)) := by
  refine h.met3 sc_R_read_named (by rintro ds S Q E ⟨_, _, _, _, _, e, _⟩; rw [e]; rfl) fun f cdv A0 outer s0 H E ds S Q W hr hA => ?_
  obtain ⟨a, lv, s, pre, post, rfl, hH, ok, nmd, stop, hlv, hn, hq⟩ := hA
  have hS := hH.at_
  have sgn : ∀ (S1 : Hp3) (pre z post : List Nat), Here CR S1 a pre z post → sgAt (pre ++ z ++ post) (pre.length) = (z ++ post).head?.toList := fun S1 pre z post _ => by
    rw [sg_get, List.append_assoc, List.getElem?_append_right (Nat.le_refl _), Nat.sub_self]
    cases z ++ post <;> rfl
  refine ⟨_, (s_cons (s_set (i := 2) sc_R_read_named.nd rfl (Or.inl rfl) (e_meth0 M_read_word T.cl hr (e_v 0)))
 (s_cons (s_if (t_cmp op_ne dn_neS (e_meth0 M_sign_here T.cl hr (e_v 0)) e_str (nomark _)) (s_one (s_ret (e_tup (a_cons e_str (a_cons (e_v 2) a_nil))))) s_nil)
 (s_cons (s_faug T.cl T.n_place (e_v 0) e_int)
 (s_one (s_ret (e_tup (a_cons e_str (a_cons (e_v 2) (a_cons (e_meth M_read_row T.cl hr (e_v 0) (a_cons e_str (a_cons e_int (a_cons (e_globI G.MOST_IN_ROW rfl) (a_cons (e_op op_add dn_int (e_v 1) e_int) a_nil))))) a_nil))))))))), ?_⟩
  decreasing_trivial
  refine j_Rm hS (fun _ _ => rfl) ?_
  cases s with
  | name x =>
    obtain ⟨ex, hw⟩ := name_wd ok
    have ez : tx (.name x) = x.cps.toList := by rw [tx]
    have hH2 := hH
    rw [ez] at hH2 hq
    refine ⟨a, pre, x.cps.toList, post, rfl, hH2.at_, hH2.len, hw, stop.no, fun S1 px e1 => ?_⟩
    have h1 := hH2.next (z' := []) (post' := post) e1 rfl
    decreasing_trivial
    refine j_Rm h1.at_ (fun _ _ => rfl) ?_
    refine ⟨a, _, _, rfl, h1.at_, h1.len, ?_⟩
    rw [sgn S1 _ _ _ h1, List.nil_append]
    have hne : textOf post.head?.toList ≠ ("(" : Str) := by
      rw [← t_40]
      intro e
      have := textOf_inj e
      cases post with
      | nil => simp at this
      | cons c r => simp at this; exact (stop c r rfl).2 this
    decreasing_trivial
    rw [← ex]
    exact hq S1 px e1
  | send x as =>
    obtain ⟨okx, l1, l4, oks⟩ := ok
    obtain ⟨ex, hw⟩ := name_wd okx
    cases as with
    | nil => simp at l1
    | cons b as =>
      have ez : tx (.send x (b :: as)) = x.cps.toList ++ 40 :: ((tx b ++ txt as) ++ [41]) := by rw [tx]
      have e0 : pre ++ tx (.send x (b :: as)) ++ post = pre ++ x.cps.toList ++ (40 :: ((tx b ++ txt as) ++ [41]) ++ post) := by rw [ez]; simp only [List.append_assoc, List.cons_append]
      have hH2 : Here CR S a pre x.cps.toList (40 :: ((tx b ++ txt as) ++ [41]) ++ post) := ⟨by rw [← e0]; exact hS, by rw [← e0]; exact hH.len⟩
      refine ⟨a, pre, x.cps.toList, _, rfl, hH2.at_, hH2.len, hw, fun c r e => by cases e; decide, fun S1 px e1 => ?_⟩
      have h1 := hH2.next (z' := [40]) (post' := ((tx b ++ txt as) ++ [41]) ++ post) e1 rfl
      decreasing_trivial
      refine j_Rm h1.at_ (fun _ _ => rfl) ?_
      refine ⟨a, _, _, rfl, h1.at_, h1.len, ?_⟩
      have eh : ([40] ++ ((tx b ++ txt as) ++ [41] ++ post) : List Nat).head?.toList = [40] := rfl
      rw [sgn S1 _ _ _ h1, eh, t_40]
      decreasing_trivial
      refine j_Rstep h1.at_ ?_
      have px2 : Px a S (up S1 a (.ins CR (rdFs (textOf (pre ++ x.cps.toList ++ [40] ++ (((tx b ++ txt as) ++ [41]) ++ post))) ((pre ++ x.cps.toList).length + 1)))) := px.at
      have h2 : Here CR (up S1 a (.ins CR (rdFs (textOf (pre ++ x.cps.toList ++ [40] ++ (((tx b ++ txt as) ++ [41]) ++ post))) ((pre ++ x.cps.toList).length + 1)))) a (pre ++ x.cps.toList ++ [40]) ((tx b ++ txt as) ++ [41]) post := by
        refine h1.next ?_ rfl
        rw [up_same]
        rfl
      generalize up S1 a (.ins CR (rdFs (textOf (pre ++ x.cps.toList ++ [40] ++ (((tx b ++ txt as) ++ [41]) ++ post))) ((pre ++ x.cps.toList).length + 1))) = S2 at px2 h2 ⊢
      decreasing_trivial
      refine j_Rm h2.at_ (fun _ _ => rfl) ?_
      simp only [Sy.deep] at hlv hn
      simp only [List.length_cons] at l4
      decreasing_trivial
      refine ⟨a, lv + 1, 1, 4, 41, b, as, _, post, by rw [t_41], h2, by decide, fun y hy => ⟨okSs_mem oks y hy, ?_, ?_⟩, by omega, by omega, by omega, fun S3 p3 e3 => ?_⟩
      · have := Sy.deeps_mem hy
        omega
      · have := Sy.deeps_mem hy
        omega
      decreasing_trivial
      rw [← ex]
      have eres : Sy.d (.send x (b :: as)) = .tup [.str "send", .str x, .tup ((b :: as).map Sy.d)] := by rw [Sy.d, Sy.ds_map]
      rw [← eres]
      refine hq S3 (px2.trans p3) ?_
      rw [e3, ez]
      simp only [List.length_append, List.length_cons, List.length_nil, List.append_assoc, List.cons_append, List.nil_append]
      congr 4
      omega
  | _ => simp [isNamed] at nmd
theorem ok_R_read_row {n : Nat} (h : HasM K CR "read_row" "SayingReader.read_row" s_R_read_row ["self", "closing", "least", "most", "level"]) (G : Gs K mg) (T : RunT K mg CR) (M_sign_here : Met3 P w K mg base n CR "sign_here" ["self"] (sp_sign_here CR)) (M_read_saying : Met3 P w K mg base n CR "read_saying" ["self", "level"] (sp_read_saying CR n))
    (C_refuse_unfit_count : Cal3 P w K mg base n "refuse_unfit_count" ["row", "least", "most"] sp_refuse_unfit_count) : Met3 P w K mg base (n + 1) CR "read_row" ["self", "closing", "least", "most", "level"] (sp_read_row CR (n + 1)) := by
  refine h.met3 sc_R_read_row (by rintro ds S Q E ⟨_, _, _, _, _, _, _, _, _, e, _⟩; rw [e]; rfl) fun f cdv A0 outer s0 H E ds S Q W hr hA => ?_
  obtain ⟨a, lv, least, most, cl, s, as, pre, post, rfl, hH, hcl, hall, hlen, hle, hmo, hq⟩ := hA
  have sgn : ∀ (S1 : Hp3) (pre z post : List Nat), Here CR S1 a pre z post → sgAt (pre ++ z ++ post) (pre.length) = (z ++ post).head?.toList := fun S1 pre z post _ => by
    rw [sg_get, List.append_assoc, List.getElem?_append_right (Nat.le_refl _), Nat.sub_self]
    cases z ++ post <;> rfl
  have stopc : Stop5 (cl :: post) := by rcases hcl with rfl | rfl | rfl <;> exact stop_cons (by decide) (by decide)
  have stopt : ∀ bs : List Sy, Stop5 (txt bs ++ (cl :: post)) := fun bs => by
    cases bs with
    | nil => rw [txt]; exact stopc
    | cons b bs => rw [txt]; exact stop_cons (by decide) (by decide)
  refine ⟨_, (s_cons (s_set (i := 5) sc_R_read_row.nd rfl (Or.inl rfl) (e_lst (a_cons (e_meth M_read_saying T.cl hr (e_v 0) (a_cons (e_v 4) a_nil)) a_nil)))
 (s_cons (s_while PassesOwn.never (t_cmp op_eq dn_eqS (e_meth0 M_sign_here T.cl hr (e_v 0)) e_str (nomark _)) (s_cons (s_faug T.cl T.n_place (e_v 0) e_int)
 (s_one (s_expr (e_bm PySem.F.plainAttrs_list PySem.F.slot_list_append PySem.F.type_list_append mt_append dn_append (e_v 5) (a_cons (e_meth M_read_saying T.cl hr (e_v 0) (a_cons (e_v 4) a_nil)) a_nil))))))
 (s_cons (s_if (t_cmp op_ne dn_neS (e_meth0 M_sign_here T.cl hr (e_v 0)) (e_v 1) (nomark _)) ss_never s_nil)
 (s_cons (s_faug T.cl T.n_place (e_v 0) e_int)
 (s_cons (s_expr (e_call C_refuse_unfit_count hr rfl (a_cons (e_v 5) (a_cons (e_v 2) (a_cons (e_v 3) a_nil)))))
 (s_one (s_ret (e_callTy call_tuple_of dn_toTup rfl G.tuple boot_tuple (a_cons (e_v 5) a_nil))))))))), ?_⟩
  have e0 : pre ++ ((tx s ++ txt as) ++ [cl]) ++ post = pre ++ tx s ++ (txt as ++ (cl :: post)) := by simp only [List.append_assoc, List.cons_append, List.nil_append]
  have h0 : Here CR S a pre (tx s) (txt as ++ (cl :: post)) := ⟨by rw [← e0]; exact hH.at_, by rw [← e0]; exact hH.len⟩
  have hs := hall s List.mem_cons_self
  decreasing_trivial
  refine j_Rm h0.at_ (fun _ _ => rfl) ?_
  decreasing_trivial
  refine ⟨a, lv, s, pre, _, rfl, h0, hs.1, stopt as, hs.2.1, by omega, fun S1 px e1 => ?_⟩
  decreasing_trivial
  intro pl hpl
  have np : pl ≠ a := fun e => by rw [e, e1] at hpl; cases hpl
  have fpl : S pl = none := px.free hpl np
  have a1 := up_get (o := .lst [s.d]) e1 hpl
  have a2 : up S1 pl (.lst [s.d]) pl = some (.lst [s.d]) := up_same
  have p1 : Px a S (up S1 pl (.lst [s.d])) := px.new hpl
  generalize up S1 pl (.lst [s.d]) = S2 at a1 a2 p1 ⊢
  decreasing_trivial
  refine j_while (fun m σ S' => Ex2 fun (dn rs : List Sy) => as = dn ++ rs ∧ m = rs.length ∧ σ = [some (.ref a), some (.str (textOf [cl])), some (.int least), some (.int most), some (.int lv), some (.ref pl)] ∧ Px a S S' ∧ S' pl = some (.lst ((s :: dn).map Sy.d)) ∧ S' a = some (.ins CR (rdFs (textOf (pre ++ tx s ++ (txt as ++ (cl :: post)))) ((pre ++ tx s ++ txt dn).length : Nat)))) as.length ⟨[], as, rfl, rfl, rfl, p1, a2, ?_⟩ ?_
  · rw [a1, txt, List.append_nil, List.length_append]
  rintro m σ S3 ⟨dn, rs, eas, rfl, rfl, p3, k2, k1⟩
  have h3 : ∀ z post', txt rs ++ (cl :: post) = z ++ post' → Here CR S3 a (pre ++ tx s ++ txt dn) z post' := fun z post' e => by
    have e4 : pre ++ tx s ++ (txt as ++ (cl :: post)) = pre ++ tx s ++ txt dn ++ z ++ post' := by rw [eas, txt_append, List.append_assoc (txt dn), e]; simp only [List.append_assoc]
    exact ⟨by rw [k1, e4], by rw [← e4]; exact h0.len⟩
  decreasing_trivial
  refine j_Rm k1 (fun _ _ => rfl) ?_
  refine ⟨a, _, _, rfl, k1, h0.len, ?_⟩
  have hT : pre ++ tx s ++ (txt as ++ (cl :: post)) = pre ++ tx s ++ txt dn ++ [] ++ (txt rs ++ (cl :: post)) := by rw [eas, txt_append]; simp only [List.append_assoc, List.append_nil, List.nil_append]
  rw [hT, sgn S3 _ _ _ (h3 [] (txt rs ++ (cl :: post)) rfl), List.nil_append, ← hT]
  cases rs with
  | nil =>
    rw [List.append_nil] at eas
    subst eas
    have eh : (txt [] ++ (cl :: post) : List Nat).head?.toList = [cl] := by rw [txt]; rfl
    rw [eh]
    have hne : textOf [cl] ≠ (" " : Str) := by
      rw [← t_32]
      intro e
      have := textOf_inj e
      rcases hcl with rfl | rfl | rfl <;> simp at this
    decreasing_trivial
    refine j_Rm k1 (fun _ _ => rfl) ?_
    refine ⟨a, _, _, rfl, k1, h0.len, ?_⟩
    rw [hT, sgn S3 _ _ _ (h3 [] (txt [] ++ (cl :: post)) rfl), List.nil_append, eh]
    decreasing_trivial
    refine j_Rstep k1 ?_
    have k4 : up S3 a (.ins CR (rdFs (textOf (pre ++ tx s ++ (txt as ++ (cl :: post)))) (((pre ++ tx s ++ txt as).length : Nat) + 1))) pl = some (.lst ((s :: as).map Sy.d)) := up_gt k2 np
    have p4 : Px a S (up S3 a (.ins CR (rdFs (textOf (pre ++ tx s ++ (txt as ++ (cl :: post)))) (((pre ++ tx s ++ txt as).length : Nat) + 1)))) := p3.at
    have k5 : up S3 a (.ins CR (rdFs (textOf (pre ++ tx s ++ (txt as ++ (cl :: post)))) (((pre ++ tx s ++ txt as).length : Nat) + 1))) a = _ := up_same
    generalize up S3 a (.ins CR (rdFs (textOf (pre ++ tx s ++ (txt as ++ (cl :: post)))) (((pre ++ tx s ++ txt as).length : Nat) + 1))) = S4 at k4 p4 k5 ⊢
    decreasing_trivial
    refine ⟨_, (s :: as).map Sy.d, least, most, rfl, .inr ⟨pl, rfl, k4⟩, by rw [List.length_map, List.length_cons]; omega, by rw [List.length_map, List.length_cons]; omega, ?_⟩
    decreasing_trivial
    refine hq S4 p4 ?_
    rw [k5, e0]
    congr 4
    simp only [List.length_append, List.length_cons, List.length_nil]
    omega
  | cons b rs =>
    have eh : (txt (b :: rs) ++ (cl :: post) : List Nat).head?.toList = [32] := by rw [txt]; rfl
    rw [eh, t_32]
    decreasing_trivial
    refine j_Rstep k1 ?_
    have hb := hall b (by rw [eas]; simp)
    have h4 := h3 [32] (tx b ++ (txt rs ++ (cl :: post))) (by rw [txt]; simp only [List.append_assoc, List.cons_append, List.nil_append])
    have p4 : Px a S (up S3 a (.ins CR (rdFs (textOf (pre ++ tx s ++ (txt as ++ (cl :: post)))) (((pre ++ tx s ++ txt dn).length : Nat) + 1)))) := p3.at
    have k4 : up S3 a (.ins CR (rdFs (textOf (pre ++ tx s ++ (txt as ++ (cl :: post)))) (((pre ++ tx s ++ txt dn).length : Nat) + 1))) pl = some (.lst ((s :: dn).map Sy.d)) := up_gt k2 np
    have e5 : pre ++ tx s ++ (txt as ++ (cl :: post)) = pre ++ tx s ++ txt dn ++ [32] ++ (tx b ++ (txt rs ++ (cl :: post))) := by rw [eas, txt_append, txt]; simp only [List.append_assoc, List.cons_append, List.nil_append]
    have h5 : Here CR (up S3 a (.ins CR (rdFs (textOf (pre ++ tx s ++ (txt as ++ (cl :: post)))) (((pre ++ tx s ++ txt dn).length : Nat) + 1)))) a (pre ++ tx s ++ txt dn ++ [32]) (tx b) (txt rs ++ (cl :: post)) := by
      refine h4.next ?_ rfl
      rw [up_same, e5]
      rfl
    generalize up S3 a (.ins CR (rdFs (textOf (pre ++ tx s ++ (txt as ++ (cl :: post)))) (((pre ++ tx s ++ txt dn).length : Nat) + 1))) = S4 at p4 k4 h5 ⊢
    decreasing_trivial
    refine j_Rm h5.at_ (fun _ _ => rfl) ?_
    decreasing_trivial
    refine ⟨a, lv, b, _, _, rfl, h5, hb.1, stopt rs, hb.2.1, by omega, fun S5 p5 e6 => ?_⟩
    have k6 := p5 pl _ np k4
    have ldn : dn.length ≤ 10 := by have := congrArg List.length eas; rw [List.length_append] at this; omega
    decreasing_trivial
    refine j_append k6 (small_lt (by rw [List.length_map, List.length_cons]; omega)) ?_
    decreasing_trivial
    refine ⟨_, Nat.lt_succ_self _, dn ++ [b], rs, by rw [eas]; simp, rfl, rfl, ?_, ?_, ?_⟩
    · exact (p4.trans p5).fresh fpl
    · rw [up_same]
      simp
    · rw [up_gt e6 (Ne.symm np)]
      congr 3
      · congr 1
        rw [e5]
        simp only [List.append_assoc]
      · congr 2
        rw [txt_append, txt, txt]
        simp only [List.length_append, List.length_cons, List.length_nil]
        omega
inductive P_refuse_rest (CR : Addr) (ds : List D) (S : Hp3) (Q : K3) (_ : X3) : Prop where
  | mk (a : Addr) (cs : List Nat) (_ : ds = [.ref a]) (_ : S a = some (.ins CR (rdFs (textOf cs) cs.length))) (_ : cs.length ≤ 100000) (_ : Q .non S)
def sp_refuse_rest (CR : Addr) : Sp3 :=  (P_refuse_rest CR)
theorem ok_R_refuse_rest {k : Nat} (h : HasM K CR "refuse_rest" "SayingReader.refuse_rest" s_R_refuse_rest ["self"]) (G : Gs K mg) (T : RunT K mg CR) : Met3 P w K mg base (k + 1) CR "refuse_rest" ["self"] (sp_refuse_rest CR) := by
  refine h.met3 sc_R_refuse_rest (by rintro ds S Q E ⟨_, _, e, _⟩; rw [e]; rfl) fun f cdv A0 outer s0 H E ds S Q W hr hA => ?_
  obtain ⟨a, cs, rfl, hS, hl, hq⟩ := hA
  have el : ((textOf cs).length : Int) = (cs.length : Nat) := by rw [len_text]
  have el2 : (textOf cs).length ≤ sizeLine := by rw [len_text]; exact small_le (by omega)
  refine ⟨_, (s_one (s_if (t_cmp op_lt dn_intB (e_fld T.cl T.n_place (e_v 0) rfl) (e_callB call_len_str dn_lenS rfl G.len PySem.boot_len (a_cons (e_fld T.cl T.n_text (e_v 0) rfl) a_nil)) (nomark _)) ss_never s_nil)), ?_⟩
  decreasing_trivial
  exact hq
theorem deep_pos (s : Sy) : 1 ≤ s.deep := by cases s <;> simp only [Sy.deep] <;> omega
theorem rd_all (h1 : HasM K CR "read_saying" "SayingReader.read_saying" s_R_read_saying ["self", "level"]) (h2 : HasM K CR "read_named" "SayingReader.read_named" s_R_read_named ["self", "level"]) (h3 : HasM K CR "read_row" "SayingReader.read_row" s_R_read_row ["self", "closing", "least", "most", "level"]) (G : Gs K mg) (T : RunT K mg CR)
    (M_sign : Met3 P w K mg base 1 CR "sign_here" ["self"] (sp_sign_here CR)) (M_word : Met3 P w K mg base 3 CR "read_word" ["self"] (sp_read_word CR)) (C_count : Cal3 P w K mg base 1 "refuse_unfit_count" ["row", "least", "most"] sp_refuse_unfit_count) :
    ∀ n, Met3 P w K mg base n CR "read_saying" ["self", "level"] (sp_read_saying CR n) ∧ Met3 P w K mg base n CR "read_named" ["self", "level"] (sp_read_named CR n) ∧ Met3 P w K mg base n CR "read_row" ["self", "closing", "least", "most", "level"] (sp_read_row CR n) := by
  have none : ∀ n, n ≤ 7 → Met3 P w K mg base n CR "read_saying" ["self", "level"] (sp_read_saying CR n) ∧ Met3 P w K mg base n CR "read_named" ["self", "level"] (sp_read_named CR n) ∧ Met3 P w K mg base n CR "read_row" ["self", "closing", "least", "most", "level"] (sp_read_row CR n) := fun n hn =>
    ⟨h1.none3 (by rintro ds S Q E ⟨_, _, s, _, _, _, _, _, _, _, z, _⟩; have := deep_pos s; omega) n, h2.none3 (by rintro ds S Q E ⟨_, _, s, _, _, _, _, _, _, _, _, z, _⟩; have := deep_pos s; omega) n,
      h3.none3 (by rintro ds S Q E ⟨_, _, _, _, _, s, _, _, _, _, _, _, z, _⟩; have := deep_pos s; have := (z s List.mem_cons_self).2.2; omega) n⟩
  intro n
  induction n with
  | zero => exact none 0 (by decide)
  | succ n ih =>
    by_cases c : n + 1 ≤ 7
    · exact none _ c
    · exact ⟨ok_R_read_saying h1 G T (M_sign.mono (by omega)) ih.2.1 ih.1 ih.2.2, ok_R_read_named (by omega) h2 G T (M_sign.mono (by omega)) (M_word.mono (by omega)) ih.2.2, ok_R_read_row h3 G T (M_sign.mono (by omega)) ih.1 (C_count.mono (by omega))⟩
open PySem.Builtin.Str PySem.StrLaws in
theorem occ_full (s sub : Str) (hi limit : Nat) : ∀ (l : List Nat) (st : Array Nat × Nat), limit ≤ st.fst.size → (forIn l st (occBody s sub hi limit)).run.fst = st.fst
  | [], st, h => rfl
  | a :: l, st, h => by
    rw [List.forIn_cons]
    unfold occBody
    rw [if_neg (fun z => by omega)]
    exact occ_full s sub hi limit l st h
open PySem.Builtin.Str PySem.StrLaws in
theorem occ_skip (s sub : Str) (hi limit : Nat) : ∀ (l l' : List Nat) (st : Array Nat × Nat), (∀ i ∈ l, ¬ (i + sub.length ≤ hi ∧ subAt s sub i = true)) → (forIn (l ++ l') st (occBody s sub hi limit)).run.fst = (forIn l' st (occBody s sub hi limit)).run.fst
  | [], l', st, h => rfl
  | a :: l, l', st, h => by
    rw [List.cons_append, List.forIn_cons]
    unfold occBody
    rw [if_neg (fun z => h a List.mem_cons_self ⟨z.1.2, z.2⟩)]
    exact occ_skip s sub hi limit l l' st fun i hi' => h i (List.mem_cons_of_mem _ hi')
open PySem.Builtin.Str PySem.StrLaws in
theorem occ_first {s sub : Str} {p : Nat} (h1 : p + sub.length ≤ s.length) (h2 : subAt s sub p = true) (h3 : ∀ i, i < p → subAt s sub i = false) : occurrences s sub 0 s.length 1 = [p] := by
  rw [occ_eq]
  have er : List.range' 0 (s.length + 1 - 0) = List.range' 0 p ++ p :: List.range' (p + 1) (s.length - p) := by
    rw [show s.length + 1 - 0 = p + (1 + (s.length - p)) by omega, ← List.range'_append_1, Nat.zero_add, show 1 + (s.length - p) = (s.length - p) + 1 by omega, List.range'_succ]
  rw [er, occ_skip _ _ _ _ _ _ _ (fun i hi z => by rw [List.mem_range'_1] at hi; rw [h3 i (by omega)] at z; cases z.2), List.forIn_cons]
  unfold occBody
  rw [if_pos ⟨⟨⟨show (#[] : Array Nat).size < 1 by simp, Nat.zero_le _⟩, h1⟩, h2⟩]
  have hf := occ_full s sub s.length 1 (List.range' (p + 1) (s.length - p)) (#[].push p, p + sub.length) (by simp)
  unfold occBody at hf
  exact congrArg Array.toList hf
open PySem.Builtin.Str PySem.StrLaws in
theorem occ_all {s : Str} {c : Nat} (limit : Nat) : ∀ (n lo free : Nat) (arr : Array Nat), free ≤ lo → arr.size ≤ lo → lo + n ≤ limit → (forIn (List.range' lo n) (arr, free) (occBody s ⟨#[c]⟩ s.length limit)).run.fst.toList = arr.toList ++ (List.range' lo n).filter fun i => decide (s.cps.toList[i]? = some c)
  | 0, lo, free, arr, _, _, _ => by simp
  | n + 1, lo, free, arr, h1, h2, h3 => by
    rw [List.range'_succ, List.forIn_cons]
    have hm := subAt_one s c lo
    by_cases hc : s.cps.toList[lo]? = some c
    · have hm' := hm.mpr hc
      have e : occBody s ⟨#[c]⟩ s.length limit lo (arr, free) = pure (.yield (arr.push lo, lo + 1)) := by
        unfold occBody
        rw [if_pos ⟨⟨⟨by show arr.size < limit; omega, h1⟩, hm'.1⟩, hm'.2⟩]
        rfl
      rw [e, List.filter_cons_of_pos (by simpa using hc)]
      show (forIn (List.range' (lo + 1) n) (arr.push lo, lo + 1) (occBody s ⟨#[c]⟩ s.length limit)).run.fst.toList = _
      rw [occ_all limit n (lo + 1) (lo + 1) _ (Nat.le_refl _) (by rw [Array.size_push]; omega) (by omega)]
      simp
    · have e : occBody s ⟨#[c]⟩ s.length limit lo (arr, free) = pure (.yield (arr, free)) := by
        unfold occBody
        rw [if_neg (fun z => hc (hm.mp ⟨z.1.2, z.2⟩))]
      rw [e, List.filter_cons_of_neg (by simpa using hc)]
      show (forIn (List.range' (lo + 1) n) (arr, free) (occBody s ⟨#[c]⟩ s.length limit)).run.fst.toList = _
      exact occ_all limit n (lo + 1) free arr (by omega) (by omega) (by omega)
noncomputable def spots (c : Nat) : Nat → List Nat → List Nat
  | _, [] => []
  | o, d :: r => if d = c then o :: spots c (o + 1) r else spots c (o + 1) r
theorem spots_range (c : Nat) : ∀ (pre cs : List Nat), (List.range' pre.length cs.length).filter (fun i => decide ((pre ++ cs)[i]? = some c)) = spots c pre.length cs
  | pre, [] => rfl
  | pre, d :: r => by
    rw [List.length_cons, List.range'_succ, spots]
    have e : (pre ++ d :: r)[pre.length]? = some d := by simp
    have ih := spots_range c (pre ++ [d]) r
    rw [List.length_append, List.length_cons, List.length_nil, Nat.zero_add, List.append_assoc, List.cons_append, List.nil_append] at ih
    by_cases h : d = c
    · rw [if_pos h, List.filter_cons_of_pos (by rw [e, h]; simp), ih]
    · rw [if_neg h, List.filter_cons_of_neg (by rw [e]; simpa using h), ih]
open PySem.Builtin.Str PySem.StrLaws in
theorem occ_spots (cs : List Nat) (c : Nat) : occurrences (textOf cs) ⟨#[c]⟩ 0 (textOf cs).length ((textOf cs).length + 1) = spots c 0 cs := by
  rw [occ_eq, occ_all (s := textOf cs) (c := c) ((textOf cs).length + 1) ((textOf cs).length + 1 - 0) 0 0 #[] (Nat.le_refl _) (by simp) (by omega), len_text, textOf_codes, Nat.sub_zero]
  have h := spots_range c [] cs
  rw [List.nil_append, List.length_nil] at h
  rw [← h, ← List.range'_append_1 (s := 0) (m := cs.length) (n := 1), List.filter_append]
  simp
noncomputable def cutAt (cs : List Nat) : Nat → List Nat → List (List Nat)
  | o, [] => [(cs.drop o).take (cs.length - o)]
  | o, p :: r => ((cs.drop o).take (p - o)) :: cutAt cs (p + 1) r
open PySem.Builtin.Str PySem.StrLaws in
theorem strSub_text (cs : List Nat) (i j : Nat) : strSub (EE.textOf cs) i j = EE.textOf ((cs.drop i).take (j - i)) := by
  exact PyProof.Rows.strSub_mk _ _ _ |>.trans (by rw [E3.textOf_codes]; rfl)
open PySem.Builtin.Str PySem.StrLaws in
theorem parts_cut (cs : List Nat) : ∀ (o : Nat) (cuts : List Nat), ((o :: cuts.map (· + 1)).zip (cuts ++ [cs.length])).map (fun p : Nat × Nat => strSub (EE.textOf cs) p.1 p.2) = (cutAt cs o cuts).map EE.textOf
  | o, [] => by simp [cutAt, strSub_text]
  | o, p :: r => by
    have ih := parts_cut cs (p + 1) r
    rw [List.map_cons, List.cons_append, List.zip_cons_cons, List.map_cons, ih, cutAt, List.map_cons, strSub_text]
noncomputable def glue (c : Nat) : List Nat → List (List Nat) → List Nat
  | w, [] => w
  | w, v :: r => w ++ c :: glue c v r
theorem spots_app (c : Nat) : ∀ (w r : List Nat) (o : Nat), (∀ d ∈ w, d ≠ c) → spots c o (w ++ r) = spots c (o + w.length) r
  | [], r, o, _ => rfl
  | d :: w, r, o, h => by
    rw [List.cons_append, spots, if_neg (h d List.mem_cons_self), spots_app c w r (o + 1) fun x hx => h x (List.mem_cons_of_mem _ hx), List.length_cons]
    congr 1
    omega
theorem cut_glue (c : Nat) : ∀ (ws : List (List Nat)) (w pre : List Nat), (∀ v ∈ w :: ws, ∀ d ∈ v, d ≠ c) → cutAt (pre ++ glue c w ws) pre.length (spots c pre.length (glue c w ws)) = w :: ws
  | [], w, pre, h => by
    have e : spots c pre.length w = [] := by
      have := spots_app c w [] pre.length (h w List.mem_cons_self)
      rw [List.append_nil] at this
      rw [this]
      rfl
    rw [glue, e, cutAt, List.drop_left]
    simp
  | v :: ws, w, pre, h => by
    rw [glue, spots_app c w _ pre.length (h w List.mem_cons_self), spots, if_pos rfl, cutAt]
    have e1 : pre ++ (w ++ c :: glue c v ws) = pre ++ w ++ [c] ++ glue c v ws := by simp
    have ih := cut_glue c ws v (pre ++ w ++ [c]) fun x hx => h x (List.mem_cons_of_mem _ hx)
    rw [List.length_append, List.length_append, List.length_cons, List.length_nil, Nat.zero_add] at ih
    rw [e1, ih]
    congr 1
    rw [List.append_assoc, List.append_assoc, List.drop_left, show pre.length + w.length - pre.length = w.length by omega, List.take_left]
open PySem.Builtin.Str PySem.StrLaws in
theorem split_glue (w : List Nat) (ws : List (List Nat)) (h : ∀ v ∈ w :: ws, ∀ d ∈ v, d ≠ 32) (hk : ∀ d ∈ glue 32 w ws, d < 256) : Txt.split (EE.textOf (glue 32 w ws)) (EE.textOf [32]) = (w :: ws).map EE.textOf := by
  have hy : EE.textOf [32] = ⟨#[32]⟩ := rfl
  have hocc := occ_spots (glue 32 w ws) 32
  have hk1 : strKind (EE.textOf [32]) = 1 := by decide +kernel
  have hk2 : 1 ≤ strKind (EE.textOf (glue 32 w ws)) := by
    have : ∀ p q : Bool, 1 ≤ (if p = true then 1 else if q = true then 2 else 4) := by decide
    exact this _ _
  have hcut := cut_glue 32 ws w [] h
  rw [List.nil_append, List.length_nil] at hcut
  have hp := parts_cut (glue 32 w ws) 0 (spots 32 0 (glue 32 w ws))
  rw [hcut] at hp
  unfold Txt.split
  rw [len_text] at hocc
  rw [hk1, len_text, len_text, hy, hocc]
  cases ws with
  | nil =>
    have e : spots 32 0 (glue 32 w []) = [] := by
      have := spots_app 32 w [] 0 (h w List.mem_cons_self)
      rw [List.append_nil] at this
      rw [glue, this]
      rfl
    rw [e, glue]
    simp
  | cons v r =>
    have hl : 1 ≤ (glue 32 w (v :: r)).length := by rw [glue, List.length_append, List.length_cons]; omega
    have hne : (spots 32 0 (glue 32 w (v :: r))).isEmpty = false := by
      rw [glue, spots_app 32 w _ 0 (h w List.mem_cons_self), spots, if_pos rfl]
      rfl
    have hc : (decide ((glue 32 w (v :: r)).length < [32].length) || decide (Builtin.Str.strKind (EE.textOf (glue 32 w (v :: r))) < 1)) = false := by rw [decide_eq_false (by show ¬ _ < 1; omega), decide_eq_false (by omega)]; rfl
    rw [hc, if_neg Bool.false_ne_true, if_neg (by rw [hne]; exact Bool.false_ne_true)]
    unfold partsBetween
    rw [len_text]
    exact hp
theorem part_line {hd bd : List Nat} (h : ∀ d ∈ hd, d ≠ 58) : partS (EE.textOf (hd ++ 58 :: 32 :: bd)) (EE.textOf [58, 32]) = [EE.textOf hd, EE.textOf [58, 32], EE.textOf bd] := by
  have hs : ∀ i, Builtin.Str.subAt (EE.textOf (hd ++ 58 :: 32 :: bd)) (EE.textOf [58, 32]) i = (((hd ++ 58 :: 32 :: bd).drop i).take 2 == [58, 32]) := fun i => by
    rw [PySem.StrLaws.subAt_eq, E3.textOf_codes, E3.textOf_codes, len_text]
    rfl
  have ho := occ_first (s := EE.textOf (hd ++ 58 :: 32 :: bd)) (sub := EE.textOf [58, 32]) (p := hd.length) (by rw [len_text, len_text, List.length_append]; simp) (by rw [hs, List.drop_left]; rfl) (fun i hi => by
    rw [hs]
    have e : ((hd ++ 58 :: 32 :: bd).drop i) = hd[i] :: (hd ++ 58 :: 32 :: bd).drop (i + 1) := by
      rw [List.drop_eq_getElem_cons (by rw [List.length_append]; omega)]
      rw [List.getElem_append_left hi]
    rw [e]
    have := h hd[i] (List.getElem_mem hi)
    simp [List.take_succ_cons, this])
  unfold partS
  rw [ho]
  simp only [strSub_text, len_text]
  have e1 : (hd ++ 58 :: 32 :: bd).drop (hd.length + [58, 32].length) = bd := by
    rw [show hd ++ 58 :: 32 :: bd = (hd ++ [58, 32]) ++ bd by simp, ← List.length_append, List.drop_left]
  have e2 : ((hd ++ 58 :: 32 :: bd).drop 0).take (hd.length - 0) = hd := by simp
  have e3 : bd.take ((hd ++ 58 :: 32 :: bd).length - (hd.length + [58, 32].length)) = bd := List.take_of_length_le (by simp only [List.length_append, List.length_cons, List.length_nil]; omega)
  rw [e2, e1, e3]
noncomputable def headT (e : Er) : List Nat := glue 32 e.name.cps.toList (e.ps.map fun p => p.cps.toList)
noncomputable def lineT (e : Er) : List Nat := headT e ++ 58 :: 32 :: tx e.body
structure LnOk (e : Er) : Prop where
  nm : NameOk e.name
  ps : ∀ p ∈ e.ps, NameOk p
  l1 : 1 ≤ e.ps.length
  l4 : e.ps.length ≤ 4
  ok : okS e.body
  deep : e.body.deep ≤ 12
  len : (lineT e).length ≤ 100000
theorem t_58 : textOf [58, 32] = ": " := by decide +kernel
theorem name_signs {x : Str} (h : NameOk x) : ∀ d ∈ x.cps.toList, 97 ≤ d ∧ d ≤ 122 := by
  obtain ⟨cs, rfl, _, _, h⟩ := h
  rw [textOf_codes]
  exact h
theorem glue_mem {c : Nat} : ∀ {ws : List (List Nat)} {w : List Nat} {d : Nat}, d ∈ glue c w ws → d = c ∨ ∃ v ∈ w :: ws, d ∈ v
  | [], w, d, h => .inr ⟨w, List.mem_cons_self, h⟩
  | v :: ws, w, d, h => by
    rw [glue] at h
    rcases List.mem_append.mp h with h | h
    · exact .inr ⟨w, List.mem_cons_self, h⟩
    · rcases List.mem_cons.mp h with h | h
      · exact .inl h
      · rcases glue_mem h with h | ⟨u, hu, hd⟩
        · exact .inl h
        · exact .inr ⟨u, List.mem_cons_of_mem _ hu, hd⟩
theorem LnOk.word {e : Er} (h : LnOk e) : ∀ v ∈ e.name.cps.toList :: e.ps.map fun p => p.cps.toList, ∀ d ∈ v, 97 ≤ d ∧ d ≤ 122 := fun v hv => by
  rcases List.mem_cons.mp hv with rfl | hv
  · exact name_signs h.nm
  · obtain ⟨p, hp, rfl⟩ := List.mem_map.mp hv
    exact name_signs (h.ps p hp)
theorem LnOk.head {e : Er} (h : LnOk e) : ∀ d ∈ headT e, d ≠ 58 ∧ d < 256 := fun d hd => by
  rcases glue_mem hd with rfl | ⟨v, hv, hd⟩
  · exact ⟨by decide, by decide⟩
  · have := h.word v hv d hd
    omega
inductive P_read_line  (ds : List D) (q : D → Prop) : Prop where
  | mk (e : Er) (_ : ds = [.str (textOf (lineT e))]) (_ : LnOk e) (_ : q e.d)
def sp_read_line  : Sp3 := vS P_read_line
theorem ok_read_line {k n : Nat} (hn : 42 ≤ n) (hk : n ≤ k) (h : Has K mg "read_line" s_read_line ["text"]) (G : Gs K mg) (T : RunT K mg CR) (C_refuse_unfit_name : Cal3 P w K mg base (k + 1) "refuse_unfit_name" ["word"] sp_refuse_unfit_name) (C_refuse_unfit_count : Cal3 P w K mg base (k + 1) "refuse_unfit_count" ["row", "least", "most"] sp_refuse_unfit_count)
    (M_init : Met3 P w K mg base k CR "__init__" ["self", "text"] (sp_init CR)) (M_read_saying : Met3 P w K mg base (k + 1) CR "read_saying" ["self", "level"] (sp_read_saying CR n)) (M_refuse_rest : Met3 P w K mg base (k + 1) CR "refuse_rest" ["self"] (sp_refuse_rest CR)) : Cal3 P w K mg base (k + 1 + 1) "read_line" ["text"] sp_read_line := by
  refine h.val sc_read_line (by rintro ds q ⟨_, e, _⟩; rw [e]; rfl) fun f cdv A outer s0 H E ds q hr hA => ?_
  obtain ⟨e, rfl, he, hq⟩ := hA
  have hlen := he.len
  have hll : (textOf (lineT e)).length ≤ sizeLine := by rw [len_text]; exact small_le (by omega)
  have hpt : partS (textOf (lineT e)) ": " = [textOf (headT e), textOf [58, 32], textOf (tx e.body)] := by rw [← t_58]; exact part_line fun d hd => (he.head d hd).1
  have hsp : Txt.split (textOf (headT e)) " " = (e.name.cps.toList :: e.ps.map fun p => p.cps.toList).map textOf := by rw [← t_32]; exact split_glue _ _ (fun v hv d hd => by have := he.word v hv d hd; omega) fun d hd => (he.head d hd).2
  refine ⟨_, (s_cons (s_set (i := 1) sc_read_line.nd rfl (Or.inl rfl) (e_bm PySem.F.plainAttrs_str PySem.F.slot_str_partition PySem.F.type_str_partition mt_str_part dn_part (e_v 0) (a_cons e_str a_nil)))
 (s_cons (s_if (t_cmp op_eq dn_eqS (e_ix ix_tup dn_ixT (e_v 1) e_int (fun _ _ => rfl)) e_str (nomark _)) ss_never s_nil)
 (s_cons (s_set (i := 2) sc_read_line.nd rfl (Or.inl rfl) (e_bm PySem.F.plainAttrs_str PySem.F.slot_str_split PySem.F.type_str_split mt_str_split dn_split (e_ix ix_tup dn_ixT (e_v 1) e_int (fun _ _ => rfl)) (a_cons e_str a_nil)))
 (s_cons (s_for PassesOwn.never rfl (i_list (e_v 2)) (g_name (i := 3) sc_read_line.nd rfl (Or.inl rfl)) (s_one (s_expr (e_call C_refuse_unfit_name hr rfl (a_cons (e_v 3) a_nil)))))
 (s_cons (s_set (i := 4) sc_read_line.nd rfl (Or.inl rfl) (e_callTy call_tuple_of dn_toTup rfl G.tuple boot_tuple (a_cons (e_slice sl_list dn_slL (e_v 2) (p_some e_int) p_none) a_nil)))
 (s_cons (s_expr (e_call C_refuse_unfit_count hr rfl (a_cons (e_v 4) (a_cons e_int (a_cons (e_globI G.MOST_IN_ROW rfl) a_nil)))))
 (s_cons (s_set (i := 5) sc_read_line.nd rfl (Or.inl rfl) (e_make M_init T.mks T.kc hr rfl T.at_ (a_cons (e_ix ix_tup dn_ixT (e_v 1) e_int (fun _ _ => rfl)) a_nil)))
 (s_cons (s_set (i := 6) sc_read_line.nd rfl (Or.inl rfl) (e_meth M_read_saying T.cl hr (e_v 5) (a_cons e_int a_nil)))
 (s_cons (s_expr (e_meth0 M_refuse_rest T.cl hr (e_v 5)))
 (s_one (s_ret (e_tup (a_cons (e_ix ix_list dn_ixL (e_v 2) e_int (fun _ _ => rfl)) (a_cons (e_v 4) (a_cons (e_v 6) a_nil))))))))))))))), ?_⟩
  have hws : ((e.name.cps.toList :: e.ps.map fun p => p.cps.toList).map textOf).map D.str = (e.name :: e.ps).map D.str := by
    rw [List.map_cons, List.map_cons, List.map_cons, ← (name_wd he.nm).1, List.map_map, List.map_map]
    congr 1
  have hne : textOf [58, 32] ≠ ("" : Str) := by rw [t_58]; decide +kernel
  have hhl : (headT e).length ≤ 100000 := by unfold lineT at hlen; rw [List.length_append] at hlen; omega
  have hbl : (tx e.body).length ≤ 100000 := by unfold lineT at hlen; rw [List.length_append, List.length_cons, List.length_cons] at hlen; omega
  have hl4 := he.l4
  have hl1 := he.l1
  decreasing_trivial
  refine j_partS (by decide +kernel) hll ?_
  rw [hpt]
  simp only [List.map_cons, List.map_nil]
  decreasing_trivial
  refine ⟨_, _, rfl, rfl, by decide +kernel, by rw [len_text]; exact small_le (by omega), ?_, ?_, ?_⟩
  · have h1 := PySem.StrLaws.occ_length_le (textOf (headT e)) " " 0 (textOf (headT e)).length ((textOf (headT e)).length + 1)
    rw [len_text] at h1
    unfold Builtin.Str.partsBetween
    simp only [List.length_map, List.length_zip, List.length_cons, List.length_append, List.length_nil]
    rw [len_text]
    exact small_le (by omega)
  · rw [hsp]
    exact small_le (by simp only [List.length_map, List.length_cons]; omega)
  rw [hsp, hws]
  intro pw hpw
  have a1 : up emp pw (.lst ((e.name :: e.ps).map D.str)) pw = some (.lst ((e.name :: e.ps).map D.str)) := up_same
  generalize up emp pw (.lst ((e.name :: e.ps).map D.str)) = S1 at a1 ⊢
  decreasing_trivial
  refine ⟨fun i σ S' => ∃ x3, σ = [some (.str (textOf (lineT e))), some (.tup [.str (textOf (headT e)), .str (textOf [58, 32]), .str (textOf (tx e.body))]), some (.ref pw), x3, none, none, none] ∧ S' = S1, ⟨none, rfl, rfl⟩, fun _ _ _ ⟨_, _, z⟩ => by rw [z]; exact a1, ?_, ?_⟩
  · rintro i d σ S' hd ⟨x3, rfl, rfl⟩
    rw [List.getElem?_map] at hd
    obtain ⟨x, hx, rfl⟩ := Option.map_eq_some_iff.mp hd
    have hxo : NameOk x := by
      rcases List.mem_cons.mp (List.mem_of_getElem? hx) with rfl | h
      · exact he.nm
      · exact he.ps x h
    obtain ⟨ex, hw⟩ := name_wd hxo
    decreasing_trivial
    refine ⟨x.cps.toList, by rw [← ex], hw, ?_⟩
    decreasing_trivial
    exact ⟨_, rfl, rfl⟩
  rintro σ S' ⟨x3, rfl, rfl⟩
  decreasing_trivial
  rw [cutD_from (by decide)]
  have ec : ((e.name :: e.ps).map D.str).drop (Int.toNat 1) = e.ps.map D.str := rfl
  rw [ec]
  intro pc hpc
  have a2 := up_get (o := .lst (e.ps.map D.str)) a1 hpc
  have a3 : up S' pc (.lst (e.ps.map D.str)) pc = some (.lst (e.ps.map D.str)) := up_same
  generalize up S' pc (.lst (e.ps.map D.str)) = S2 at a2 a3 ⊢
  decreasing_trivial
  refine ⟨_, e.ps.map D.str, 1, 4, rfl, .inl rfl, by rw [List.length_map]; omega, by rw [List.length_map]; omega, ?_⟩
  decreasing_trivial
  intro a ha
  have b2 := up_get (o := .ins CR []) a2 ha
  refine ⟨a, _, rfl, up_same, fun S3 p3 e3 => ⟨rfl, ?_⟩⟩
  have npa : pw ≠ a := ne3 a2 ha
  have c2 := p3 pw _ npa b2
  have hH : Here CR S3 a [] (tx e.body) [] := ⟨by rw [e3, List.nil_append, List.append_nil]; rfl, by rw [List.nil_append, List.append_nil]; exact hbl⟩
  decreasing_trivial
  refine j_Rm e3 (fun _ _ => rfl) ?_
  decreasing_trivial
  refine ⟨a, 1, e.body, [], [], rfl, hH, he.ok, fun c r z => (nomatch z), by have := he.deep; omega, by have := he.deep; omega, fun S4 p4 e4 => ?_⟩
  have c3 := p4 pw _ npa c2
  rw [List.nil_append, List.append_nil, List.length_nil, Nat.zero_add] at e4
  decreasing_trivial
  refine j_Rm e4 (fun _ _ => rfl) ?_
  refine ⟨a, _, rfl, e4, hbl, ?_⟩
  decreasing_trivial
  exact hq
noncomputable def bodyP : List D → List D
  | [] => []
  | d :: r => d :: (r.map fun x => [D.str " ", x]).flatten
noncomputable def rowP (o : Str) (ds : List D) (c : Str) : List D := .str o :: (bodyP ds ++ [.str c])
theorem bodyP_snoc (xs : List D) (d : D) (h : xs ≠ []) : bodyP (xs ++ [d]) = bodyP xs ++ [.str " ", d] := by
  cases xs with
  | nil => exact absurd rfl h
  | cons x r => simp [bodyP]
theorem bodyP_len : ∀ xs : List D, xs ≠ [] → (bodyP xs).length + 1 = 2 * xs.length
  | [], h => absurd rfl h
  | x :: r, _ => by
    have : ((r.map fun x => [D.str " ", x]).flatten).length = 2 * r.length := by
      induction r with
      | nil => rfl
      | cons a r ih => simp [ih]; omega
    rw [bodyP, List.length_cons, List.length_cons, this]
    omega
inductive P_row_pieces  (ds : List D) (q : List D → Prop) : Prop where
  | mk (o c : Str) (xs : List D) (_ : ds = [.str o, .tup xs, .str c]) (_ : xs.length ≤ 10) (_ : q (rowP o xs c))
def sp_row_pieces  : Sp3 := lSt P_row_pieces
theorem ok_row_pieces {k : Nat} (h : Has K mg "row_pieces" s_row_pieces ["opening", "sayings", "closing"]) (G : Gs K mg) : Cal3 P w K mg base (k + 1) "row_pieces" ["opening", "sayings", "closing"] sp_row_pieces := by
  refine h.lst sc_row_pieces (by rintro ds q ⟨_, _, _, e, _⟩; rw [e]; rfl) fun f cdv A outer s0 H E ds q hr hA => ?_
  obtain ⟨o, c, xs, rfl, hl, hq⟩ := hA
  refine ⟨_, (s_cons (s_set (i := 3) sc_row_pieces.nd rfl (Or.inl rfl) (e_lst (a_cons (e_v 0) a_nil)))
 (s_cons (s_for PassesOwn.never rfl (i_tup (e_v 1)) (g_name (i := 4) sc_row_pieces.nd rfl (Or.inl rfl)) (s_cons (s_if (t_cmp op_gt dn_intB (e_callB call_len_seq dn_len rfl G.len PySem.boot_len (a_cons (e_v 3) a_nil)) e_int (nomark _)) (s_one (s_expr (e_bm PySem.F.plainAttrs_list PySem.F.slot_list_append PySem.F.type_list_append mt_append dn_append (e_v 3) (a_cons e_str a_nil)))) s_nil)
 (s_one (s_expr (e_bm PySem.F.plainAttrs_list PySem.F.slot_list_append PySem.F.type_list_append mt_append dn_append (e_v 3) (a_cons (e_v 4) a_nil))))))
 (s_cons (s_expr (e_bm PySem.F.plainAttrs_list PySem.F.slot_list_append PySem.F.type_list_append mt_append dn_append (e_v 3) (a_cons (e_v 2) a_nil)))
 (s_one (s_ret (e_v 3)))))), ?_⟩
  decreasing_trivial
  intro pf hpf
  decreasing_trivial
  refine ⟨fun i σ S' => ∃ x4, σ = [some (.str o), some (.tup xs), some (.str c), some (.ref pf), x4] ∧ i ≤ xs.length ∧ S' pf = some (.lst (.str o :: bodyP (xs.take i))), ⟨none, rfl, Nat.zero_le _, up_same⟩, fun _ _ _ _ => trivial, ?_, ?_⟩
  · rintro i d σ S' hd ⟨x4, rfl, hi, g⟩
    have hi2 := (List.getElem?_eq_some_iff.mp hd).1
    have htk : xs.take (i + 1) = xs.take i ++ [d] := by rw [List.take_succ, hd]; rfl
    have hlt : (xs.take i).length = i := by rw [List.length_take]; omega
    decreasing_trivial
    by_cases c0 : i = 0
    · subst c0
      rw [List.take_zero] at g
      have e1 : (((D.str o :: bodyP []).length : Nat) : Int) = 1 := rfl
      decreasing_trivial
      refine j_append g (small_lt (by simp [bodyP])) ?_
      decreasing_trivial
      refine ⟨_, rfl, hi2, ?_⟩
      rw [up_same, htk, List.take_zero]
      rfl
    · have hne : xs.take i ≠ [] := fun z => by rw [z] at hlt; simp at hlt; omega
      have hbl := bodyP_len _ hne
      have e1 : (1 : Int) < ((D.str o :: bodyP (xs.take i)).length : Nat) := by rw [List.length_cons]; omega
      decreasing_trivial
      refine j_append g (small_lt (by rw [List.length_cons]; omega)) ?_
      decreasing_trivial
      refine j_append up_same (small_lt (by simp only [List.length_append, List.length_cons, List.length_nil]; omega)) ?_
      rw [up_up]
      decreasing_trivial
      refine ⟨_, rfl, hi2, ?_⟩
      rw [up_same, htk, bodyP_snoc _ _ hne]
      simp
  rintro σ S' ⟨x4, rfl, hi, g⟩
  rw [List.take_length] at g
  have hbl : (bodyP xs).length ≤ 20 := by
    by_cases hne : xs = []
    · rw [hne]; simp [bodyP]
    · have := bodyP_len xs hne
      omega
  decreasing_trivial
  refine j_append g (small_lt (by rw [List.length_cons]; omega)) ?_
  decreasing_trivial
  exact ⟨pf, _, rfl, up_same, hq⟩
noncomputable def piecesD : Sy → List D
  | .name x => [.str x]
  | .bud => [.str "-"]
  | .left a => [.str "<", a.d]
  | .right a => [.str ">", a.d]
  | .pair a b => rowP "[" [a.d, b.d] "]"
  | .fork a b c => rowP "{" [a.d, b.d, c.d] "}"
  | .send x as => rowP (x ++ "(") (as.map Sy.d) ")"
inductive P_pieces  (ds : List D) (q : List D → Prop) : Prop where
  | mk (s : Sy) (_ : ds = [s.d]) (_ : okS s) (_ : q (piecesD s))
def sp_pieces  : Sp3 := lSt P_pieces
theorem ok_pieces {k : Nat} (h : Has K mg "pieces" s_pieces ["saying"]) (G : Gs K mg) (C_row_pieces : Cal3 P w K mg base k "row_pieces" ["opening", "sayings", "closing"] sp_row_pieces) : Cal3 P w K mg base (k + 1) "pieces" ["saying"] sp_pieces := by
  refine h.lst sc_pieces (by rintro ds q ⟨_, e, _⟩; rw [e]; rfl) fun f cdv A outer s0 H E ds q hr hA => ?_
  obtain ⟨s, rfl, ok, hq⟩ := hA
  refine ⟨_, (s_cons (s_set (i := 1) sc_pieces.nd rfl (Or.inl rfl) (e_ix ix_tup dn_ixT (e_v 0) e_int (fun _ _ => rfl)))
 (s_cons (s_if (t_cmp op_eq dn_eqS (e_v 1) e_str (nomark _)) (s_one (s_ret (e_lst (a_cons (e_ix ix_tup dn_ixT (e_v 0) e_int (fun _ _ => rfl)) a_nil)))) s_nil)
 (s_cons (s_if (t_cmp op_eq dn_eqS (e_v 1) e_str (nomark _)) (s_one (s_ret (e_lst (a_cons e_str a_nil)))) s_nil)
 (s_cons (s_if (t_cmp op_eq dn_eqS (e_v 1) e_str (nomark _)) (s_one (s_ret (e_lst (a_cons e_str (a_cons (e_ix ix_tup dn_ixT (e_v 0) e_int (fun _ _ => rfl)) a_nil))))) s_nil)
 (s_cons (s_if (t_cmp op_eq dn_eqS (e_v 1) e_str (nomark _)) (s_one (s_ret (e_lst (a_cons e_str (a_cons (e_ix ix_tup dn_ixT (e_v 0) e_int (fun _ _ => rfl)) a_nil))))) s_nil)
 (s_cons (s_if (t_cmp op_eq dn_eqS (e_v 1) e_str (nomark _)) (s_one (s_ret (e_call C_row_pieces hr rfl (a_cons e_str (a_cons (e_slice sl_tupA dn_slT (e_v 0) (p_some e_int) p_none) (a_cons e_str a_nil)))))) s_nil)
 (s_cons (s_if (t_cmp op_eq dn_eqS (e_v 1) e_str (nomark _)) (s_one (s_ret (e_call C_row_pieces hr rfl (a_cons e_str (a_cons (e_slice sl_tupA dn_slT (e_v 0) (p_some e_int) p_none) (a_cons e_str a_nil)))))) s_nil)
 (s_one (s_ret (e_call C_row_pieces hr rfl (a_cons (e_op op_add_str dn_addS (e_ix ix_tup dn_ixT (e_v 0) e_int (fun _ _ => rfl)) e_str) (a_cons (e_ix ix_tup dn_ixT (e_v 0) e_int (fun _ _ => rfl)) (a_cons e_str a_nil))))))))))))), ?_⟩
  cases s with
  | name x =>
    simp only [Sy.d]
    decreasing_trivial
    intro p hp
    exact ⟨p, _, rfl, up_same, hq⟩
  | bud =>
    simp only [Sy.d]
    decreasing_trivial
    intro p hp
    exact ⟨p, _, rfl, up_same, hq⟩
  | left a =>
    simp only [Sy.d]
    decreasing_trivial
    intro p hp
    exact ⟨p, _, rfl, up_same, hq⟩
  | right a =>
    simp only [Sy.d]
    decreasing_trivial
    intro p hp
    exact ⟨p, _, rfl, up_same, hq⟩
  | pair a b =>
    simp only [Sy.d]
    decreasing_trivial
    refine ⟨"[", "]", [a.d, b.d], rfl, by simp, ?_⟩
    intro p hp
    exact ⟨p, _, rfl, up_same, hq⟩
  | fork a b c =>
    simp only [Sy.d]
    decreasing_trivial
    refine ⟨"{", "}", [a.d, b.d, c.d], rfl, by simp, ?_⟩
    intro p hp
    exact ⟨p, _, rfl, up_same, hq⟩
  | send x as =>
    obtain ⟨okx, l1, l4, oks⟩ := ok
    obtain ⟨ex, hw⟩ := name_wd okx
    have hxl : x.length ≤ 8 := by rw [ex, len_text]; exact hw.l8
    have e40 : ("(" : Str).length = 1 := by decide +kernel
    simp only [Sy.d]
    decreasing_trivial
    refine j_addS (Nat.le_trans (show x.length + ("(" : Str).length ≤ 100 by rw [e40]; omega) (by decide)) ?_
    decreasing_trivial
    refine ⟨x ++ "(", ")", as.map Sy.d, by rw [Sy.ds_map], by rw [List.length_map]; omega, ?_⟩
    intro p hp
    exact ⟨p, _, rfl, up_same, hq⟩
inductive Pc where
  | txt (cs : List Nat)
  | say (s : Sy)
noncomputable def Pc.codes : Pc → List Nat
  | .txt cs => cs
  | .say s => tx s
noncomputable def Pc.d : Pc → D
  | .txt cs => .str (textOf cs)
  | .say s => s.d
noncomputable def Pc.wt : Pc → Nat
  | .txt _ => 1
  | .say s => 6 * s.pre.length
def Pc.ok : Pc → Prop
  | .txt _ => True
  | .say s => okS s
noncomputable def toCome (ps : List Pc) : List Nat := ps.reverse.flatMap Pc.codes
noncomputable def weight (ps : List Pc) : Nat := (ps.map Pc.wt).sum
theorem toCome_snoc (ps : List Pc) (p : Pc) : toCome (ps ++ [p]) = p.codes ++ toCome ps := by simp [toCome]
theorem toCome_rev (ps qs : List Pc) : toCome (ps ++ qs.reverse) = qs.flatMap Pc.codes ++ toCome ps := by simp [toCome]
theorem weight_snoc (ps : List Pc) (p : Pc) : weight (ps ++ [p]) = weight ps + p.wt := by simp [weight]
theorem weight_app (ps qs : List Pc) : weight (ps ++ qs) = weight ps + weight qs := by simp [weight]
theorem weight_rev (qs : List Pc) : weight qs.reverse = weight qs := by simp [weight, List.sum_reverse]
theorem pre_pos5 (s : Sy) : 1 ≤ s.pre.length := by rw [Sy.pre_parts]; simp
theorem wt_pos (p : Pc) : 1 ≤ p.wt := by
  cases p with
  | txt cs => exact Nat.le_refl _
  | say s => have := pre_pos5 s; simp only [Pc.wt]; omega
theorem weight_len (ps : List Pc) : ps.length ≤ weight ps := by
  induction ps with
  | nil => simp [weight]
  | cons p r ih =>
    have := wt_pos p
    simp only [weight, List.map_cons, List.sum_cons, List.length_cons] at ih ⊢
    omega
noncomputable def tailP (as : List Sy) : List Pc := (as.map fun a => [Pc.txt [32], .say a]).flatten
noncomputable def pcs : Sy → List Pc
  | .name x => [.txt x.cps.toList]
  | .bud => [.txt [45]]
  | .left a => [.txt [60], .say a]
  | .right a => [.txt [62], .say a]
  | .pair a b => [.txt [91], .say a, .txt [32], .say b, .txt [93]]
  | .fork a b c => [.txt [123], .say a, .txt [32], .say b, .txt [32], .say c, .txt [125]]
  | .send x [] => [.txt (x.cps.toList ++ [40]), .txt [41]]
  | .send x (a :: as) => .txt (x.cps.toList ++ [40]) :: .say a :: (tailP as ++ [.txt [41]])
theorem tail_codes : ∀ as : List Sy, (tailP as).flatMap Pc.codes = txt as
  | [] => by simp [tailP, txt]
  | a :: as => by
    have ih := tail_codes as
    simp only [tailP, List.map_cons, List.flatten_cons] at ih ⊢
    rw [List.flatMap_append, ih, txt]
    simp [Pc.codes]
theorem tail_wt : ∀ as : List Sy, weight (tailP as) = as.length + 6 * (Sy.pres as).length
  | [] => by simp [tailP, weight, Sy.pres]
  | a :: as => by
    have ih := tail_wt as
    have e : tailP (a :: as) = [Pc.txt [32], .say a] ++ tailP as := by simp [tailP]
    rw [e, weight_app, ih]
    simp only [weight, List.map_cons, List.map_nil, List.sum_cons, List.sum_nil, Pc.wt, List.length_cons, Sy.pres, List.length_append]
    omega
theorem pcs_codes (s : Sy) : (pcs s).flatMap Pc.codes = tx s := by
  cases s with
  | send x as =>
    cases as with
    | nil => simp [pcs, tx, Pc.codes]
    | cons a as =>
      rw [pcs, tx, List.flatMap_cons, List.flatMap_cons, List.flatMap_append, tail_codes]
      simp [Pc.codes]
  | _ => simp [pcs, tx, Pc.codes]
theorem pcs_wt {s : Sy} (h : okS s) : weight (pcs s) < 6 * s.pre.length := by
  cases s with
  | send x as =>
    obtain ⟨_, l1, l4, _⟩ := h
    cases as with
    | nil => simp at l1
    | cons a as =>
      have e : pcs (.send x (a :: as)) = [.txt (x.cps.toList ++ [40]), .say a] ++ (tailP as ++ [.txt [41]]) := rfl
      rw [e, weight_app, weight_app, tail_wt]
      simp only [List.length_cons] at l4
      simp only [weight, List.map_cons, List.map_nil, List.sum_cons, List.sum_nil, Pc.wt, Sy.pre, Sy.pres, List.length_cons, List.length_append]
      omega
  | _ => simp only [pcs, weight, List.map_cons, List.map_nil, List.sum_cons, List.sum_nil, Pc.wt, Sy.pre, List.length_cons, List.length_append, List.length_nil]; omega
theorem pcs_ok {s : Sy} (h : okS s) : ∀ p ∈ pcs s, p.ok := by
  have tl : ∀ as : List Sy, okSs as → ∀ p ∈ tailP as, p.ok := by
    intro as
    induction as with
    | nil => intro _ p hp; simp [tailP] at hp
    | cons a as ih =>
      intro h p hp
      have e : tailP (a :: as) = [Pc.txt [32], .say a] ++ tailP as := by simp [tailP]
      rw [e] at hp
      rcases List.mem_append.mp hp with hp | hp
      · simp only [List.mem_cons, List.not_mem_nil, or_false] at hp
        rcases hp with rfl | rfl
        · trivial
        · exact h.1
      · exact ih h.2 p hp
  intro p hp
  cases s with
  | send x as =>
    cases as with
    | nil => simp only [pcs, List.mem_cons, List.not_mem_nil, or_false] at hp; rcases hp with rfl | rfl <;> trivial
    | cons a as =>
      simp only [pcs, List.mem_cons, List.mem_append, List.not_mem_nil, or_false] at hp
      rcases hp with rfl | rfl | hp | rfl
      · trivial
      · exact h.2.2.2.1
      · exact tl as h.2.2.2.2 p hp
      · trivial
  | name x => simp only [pcs, List.mem_cons, List.not_mem_nil, or_false] at hp; subst hp; trivial
  | bud => simp only [pcs, List.mem_cons, List.not_mem_nil, or_false] at hp; subst hp; trivial
  | left a => simp only [pcs, List.mem_cons, List.not_mem_nil, or_false] at hp; rcases hp with rfl | rfl; trivial; exact h
  | right a => simp only [pcs, List.mem_cons, List.not_mem_nil, or_false] at hp; rcases hp with rfl | rfl; trivial; exact h
  | pair a b => simp only [pcs, List.mem_cons, List.not_mem_nil, or_false] at hp; rcases hp with rfl | rfl | rfl | rfl | rfl <;> first | trivial | exact h.1 | exact h.2
  | fork a b c => simp only [pcs, List.mem_cons, List.not_mem_nil, or_false] at hp; rcases hp with rfl | rfl | rfl | rfl | rfl | rfl | rfl <;> first | trivial | exact h.1 | exact h.2.1 | exact h.2.2
theorem pcs_d {s : Sy} (h : okS s) : piecesD s = (pcs s).map Pc.d := by
  have tl : ∀ as : List Sy, (tailP as).map Pc.d = ((as.map Sy.d).map fun x => [D.str " ", x]).flatten := by
    intro as
    induction as with
    | nil => rfl
    | cons a as ih =>
      have e : tailP (a :: as) = [Pc.txt [32], .say a] ++ tailP as := by simp [tailP]
      rw [e, List.map_append, ih]
      simp [Pc.d, t_32]
  cases s with
  | send x as =>
    have ex := (name_wd h.1).1
    have e1 : x ++ ("(" : Str) = textOf (x.cps.toList ++ [40]) := by
      rw [← t_40]
      conv => lhs; rw [ex]
      show (⟨(textOf x.cps.toList).cps ++ (textOf [40]).cps⟩ : Str) = _
      simp only [textOf]
      congr 1
      exact Array.ext' (by simp)
    cases as with
    | nil => exact absurd h.2.1 (by simp)
    | cons a as =>
      rw [piecesD, rowP, List.map_cons, bodyP, pcs, List.map_cons, List.map_cons, List.map_append, tl, e1]
      simp [Pc.d, t_41]
  | name x => simp [piecesD, pcs, Pc.d, ← (name_wd h).1]
  | bud => simp [piecesD, pcs, Pc.d, t_45]
  | left a => simp [piecesD, pcs, Pc.d, t_60]
  | right a => simp [piecesD, pcs, Pc.d, t_62]
  | pair a b => simp [piecesD, pcs, Pc.d, rowP, bodyP, t_91, t_93, t_32]
  | fork a b c => simp [piecesD, pcs, Pc.d, rowP, bodyP, t_123, t_125, t_32]
theorem join_texts_aux (css : List (List Nat)) : ∀ acc : Array Nat, (css.map textOf).foldl (fun a (p : Str) => a ++ (textOf []).cps ++ p.cps) acc = acc ++ css.flatten.toArray := by
  induction css with
  | nil => intro acc; simp
  | cons c r ih =>
    intro acc
    rw [List.map_cons, List.foldl_cons, ih]
    simp [textOf]
theorem join_texts (css : List (List Nat)) : Txt.join (textOf []) (css.map textOf) = textOf css.flatten := by
  cases css with
  | nil => rfl
  | cons c r =>
    show Builtin.Str.glued (textOf []) ((c :: r).map textOf) = textOf (c :: r).flatten
    unfold Builtin.Str.glued
    rw [List.map_cons, List.drop_one, List.tail_cons, join_texts_aux]
    simp [textOf]
theorem sum_texts (css : List (List Nat)) : ((css.map textOf).map (·.length)).sum = css.flatten.length := by
  induction css with
  | nil => rfl
  | cons c r ih => rw [List.map_cons, List.map_cons, List.sum_cons, ih, len_text, List.flatten_cons, List.length_append]
inductive P_shown_saying  (ds : List D) (q : D → Prop) : Prop where
  | mk (s : Sy) (_ : ds = [s.d]) (_ : okS s) (_ : s.pre.length ≤ 10000) (_ : (tx s).length ≤ 100000) (_ : q (.str (textOf (tx s))))
def sp_shown_saying  : Sp3 := vS P_shown_saying
theorem ok_shown_saying {k : Nat} (h : Has K mg "shown_saying" s_shown_saying ["saying"]) (G : Gs K mg) (C_pieces : Cal3 P w K mg base k "pieces" ["saying"] sp_pieces) : Cal3 P w K mg base (k + 1) "shown_saying" ["saying"] sp_shown_saying := by
  refine h.val sc_shown_saying (by rintro ds q ⟨_, e, _⟩; rw [e]; rfl) fun f cdv A outer s0 H E ds q hr hA => ?_
  obtain ⟨s, rfl, ok, hz, hl, hq⟩ := hA
  refine ⟨_, (s_cons (s_set (i := 1) sc_shown_saying.nd rfl (Or.inl rfl) (e_lst a_nil))
 (s_cons (s_set (i := 2) sc_shown_saying.nd rfl (Or.inl rfl) (e_lst (a_cons (e_v 0) a_nil)))
 (s_cons (s_while PassesOwn.never (t_truth (e_v 2) (fun _ => rfl)) (s_cons (s_set (i := 3) sc_shown_saying.nd rfl (Or.inl rfl) (e_bm0 PySem.F.plainAttrs_list PySem.F.slot_list_pop PySem.F.type_list_pop mt_popS dn_pop (e_v 2)))
 (s_one (s_if (t_val (e_callB call_isB dn_isB rfl G.isinstance boot_isinstance (a_cons (e_v 3) (a_cons (e_bltn (n := "str") rfl G.str boot_str) a_nil)))) (s_one (s_expr (e_bm PySem.F.plainAttrs_list PySem.F.slot_list_append PySem.F.type_list_append mt_append dn_append (e_v 1) (a_cons (e_v 3) a_nil)))) (s_one (s_for PassesOwn.never rfl (i_revL rfl G.reversed (a_cons (e_call C_pieces hr rfl (a_cons (e_v 3) a_nil)) a_nil)) (g_name (i := 4) sc_shown_saying.nd rfl (Or.inl rfl)) (s_one (s_expr (e_bm PySem.F.plainAttrs_list PySem.F.slot_list_append PySem.F.type_list_append mt_append dn_append (e_v 2) (a_cons (e_v 4) a_nil))))))))))
 (s_one (s_ret (e_bm PySem.F.plainAttrs_str PySem.F.slot_str_join PySem.F.type_str_join mt_str_join dn_join e_str (a_cons (e_v 1) a_nil))))))), ?_⟩
  decreasing_trivial
  intro wa hwa
  decreasing_trivial
  intro p hp
  have hpw : wa ≠ p := ne3 up_same hp
  decreasing_trivial
  refine j_while (fun m σ S => Ex4 fun (css : List (List Nat)) (ps : List Pc) (x3 x4 : Option D) => σ = [some s.d, some (.ref wa), some (.ref p), x3, x4] ∧ S wa = some (.lst ((css.map textOf).map D.str)) ∧ S p = some (.lst (ps.map Pc.d)) ∧ css.flatten ++ toCome ps = tx s ∧ m = weight ps ∧ css.length + weight ps ≤ 6 * s.pre.length ∧ ∀ q ∈ ps, q.ok) (6 * s.pre.length)
    ⟨[], [.say s], none, none, rfl, by rw [up_ne hpw]; exact up_same, up_same, by simp [toCome, Pc.codes], by simp [weight, Pc.wt], by simp [weight, Pc.wt], fun q hq => by rw [List.mem_singleton.mp hq]; exact ok⟩ ?_
  rintro m σ S ⟨css, ps, x3, x4, rfl, hw, hl2, hcs, hm, hmb, hok⟩
  decreasing_trivial
  rcases snoc_cases ps with rfl | ⟨ps, pc, rfl⟩
  · have e : css.flatten = tx s := by simpa [toCome] using hcs
    decreasing_trivial
    refine ⟨textOf [], _, css.map textOf, congrArg D.str s_none, rfl, .inl ⟨wa, rfl, hw⟩, ?_, ?_⟩
    · rw [sum_texts, e, len_text]
      simp only [List.length_nil]
      omega
    · rw [join_texts, e]
      exact hq
  · rw [weight_snoc] at hm hmb
    have hwl := weight_len ps
    have hpos := wt_pos pc
    have eb : (!((ps ++ [pc]).map Pc.d).isEmpty) = true := by simp
    rw [eb]
    refine iteT ?_
    rw [List.map_append] at hl2
    rw [toCome_snoc] at hcs
    decreasing_trivial
    refine j_pop hl2 ?_
    have g1 : up S p (.lst (ps.map Pc.d)) wa = some (.lst ((css.map textOf).map D.str)) := up_gt hw hpw
    have g2 : up S p (.lst (ps.map Pc.d)) p = some (.lst (ps.map Pc.d)) := up_same
    generalize up S p (.lst (ps.map Pc.d)) = S1 at g1 g2 ⊢
    have okps : ∀ q ∈ ps, q.ok := fun q hq => hok q (List.mem_append_left _ hq)
    decreasing_trivial
    cases pc with
    | txt cs =>
      simp only [Pc.d]
      decreasing_trivial
      refine j_append g1 (small_lt (by rw [List.length_map, List.length_map]; omega)) ?_
      decreasing_trivial
      refine ⟨weight ps, by simp only [Pc.wt] at hm; omega, css ++ [cs], ps, _, _, rfl, ?_, ?_, ?_, rfl, ?_, okps⟩
      · rw [up_same, List.map_append, List.map_append]
        rfl
      · exact up_gt g2 (Ne.symm hpw)
      · rw [← hcs]
        simp [Pc.codes]
      · rw [List.length_append]
        simp only [Pc.wt, List.length_cons, List.length_nil] at hmb ⊢
        omega
    | say u =>
      have oku : okS u := hok (.say u) (by simp)
      obtain ⟨ts2, hts⟩ : ∃ ts, u.d = .tup ts := by cases u <;> exact ⟨_, by rw [Sy.d]⟩
      have hwt := pcs_wt oku
      have hwl2 := weight_len (pcs u)
      simp only [Pc.wt] at hm hmb
      simp only [Pc.d]
      rw [hts]
      decreasing_trivial
      refine ⟨u, by rw [hts], oku, ?_⟩
      rw [pcs_d oku]
      intro pl hpl
      have k1 := up_get (o := .lst ((pcs u).map Pc.d)) g1 hpl
      have k2 := up_get (o := .lst ((pcs u).map Pc.d)) g2 hpl
      have k3 : up S1 pl (.lst ((pcs u).map Pc.d)) pl = some (.lst ((pcs u).map Pc.d)) := up_same
      have nl : pl ≠ p := (ne3 g2 hpl).symm
      generalize up S1 pl (.lst ((pcs u).map Pc.d)) = S2 at k1 k2 k3 ⊢
      decreasing_trivial
      refine ⟨fun i σ S' => ∃ x4, σ = [some s.d, some (.ref wa), some (.ref p), some (.tup ts2), x4] ∧ S' wa = some (.lst ((css.map textOf).map D.str)) ∧ S' pl = some (.lst ((pcs u).map Pc.d)) ∧ S' p = some (.lst ((ps ++ (pcs u).reverse.take i).map Pc.d)), ⟨_, rfl, k1, k3, by rw [List.take_zero, List.append_nil]; exact k2⟩, fun _ _ _ ⟨_, _, _, z, _⟩ => z, ?_, ?_⟩
      · rintro i d σ S' hd ⟨x5, rfl, j1, j3, j2⟩
        rw [← List.map_reverse, List.getElem?_map] at hd
        obtain ⟨q2, hq2, rfl⟩ := Option.map_eq_some_iff.mp hd
        have hi := (List.getElem?_eq_some_iff.mp hq2).1
        rw [List.length_reverse] at hi
        decreasing_trivial
        refine j_append j2 (small_lt (by rw [List.length_map, List.length_append, List.length_take]; omega)) ?_
        decreasing_trivial
        refine ⟨_, rfl, up_gt j1 hpw, up_gt j3 nl, ?_⟩
        rw [up_same, List.take_succ, hq2, ← List.append_assoc, List.map_append (l₂ := (some q2).toList)]
        rfl
      · rintro σ S' ⟨x5, rfl, j1, j3, j2⟩
        rw [List.length_reverse, List.length_map, ← List.length_reverse, List.take_length] at j2
        refine ⟨weight (ps ++ (pcs u).reverse), ?_, css, ps ++ (pcs u).reverse, _, _, rfl, j1, j2, ?_, rfl, ?_, ?_⟩
        · rw [weight_app, weight_rev]
          omega
        · rw [toCome_rev, pcs_codes, ← hcs]
          rfl
        · rw [weight_app, weight_rev]
          omega
        · intro q2 hq2
          rcases List.mem_append.mp hq2 with h | h
          · exact okps q2 h
          · exact pcs_ok oku q2 (List.mem_reverse.mp h)
theorem join_glue (w : List Nat) (ws : List (List Nat)) : Txt.join (textOf [32]) ((w :: ws).map textOf) = textOf (glue 32 w ws) := by
  have aux : ∀ (ws : List (List Nat)) (w : List Nat), (ws.map textOf).foldl (fun a (p : Str) => a ++ (textOf [32]).cps ++ p.cps) w.toArray = (glue 32 w ws).toArray := by
    intro ws
    induction ws with
    | nil => intro w; rfl
    | cons v r ih =>
      intro w
      rw [List.map_cons, List.foldl_cons]
      have e : w.toArray ++ (textOf [32]).cps ++ (textOf v).cps = (w ++ 32 :: v).toArray := by simp [textOf]
      rw [e, ih (w ++ 32 :: v), glue]
      congr 1
      cases r with
      | nil => simp [glue]
      | cons u r => simp [glue]
  show Builtin.Str.glued (textOf [32]) ((w :: ws).map textOf) = textOf (glue 32 w ws)
  unfold Builtin.Str.glued
  rw [List.map_cons, List.drop_one, List.tail_cons]
  exact congrArg Str.mk (aux ws w)
theorem text_app (a b : List Nat) : textOf a ++ textOf b = textOf (a ++ b) := by
  show (⟨(textOf a).cps ++ (textOf b).cps⟩ : Str) = _
  simp [textOf]
theorem glue_len : ∀ (ws : List (List Nat)) (w : List Nat), (w :: ws).flatten.length ≤ (glue 32 w ws).length
  | [], w => by simp [glue]
  | v :: r, w => by
    have := glue_len r v
    rw [glue, List.flatten_cons, List.length_append, List.length_append, List.length_cons]
    omega
theorem LnOk.words {e : Er} (he : LnOk e) : ((e.name.cps.toList :: e.ps.map fun p => p.cps.toList).map textOf).map D.str = (e.name :: e.ps).map D.str := by
  rw [List.map_cons, List.map_cons, List.map_cons, ← (name_wd he.nm).1, List.map_map, List.map_map]
  congr 1
inductive P_shown_line  (ds : List D) (q : D → Prop) : Prop where
  | mk (e : Er) (_ : ds = [e.d]) (_ : LnOk e) (_ : e.body.pre.length ≤ 10000) (_ : q (.str (textOf (lineT e))))
def sp_shown_line  : Sp3 := vS P_shown_line
theorem ok_shown_line {k : Nat} (h : Has K mg "shown_line" s_shown_line ["errand"]) (G : Gs K mg) (C_shown_saying : Cal3 P w K mg base k "shown_saying" ["saying"] sp_shown_saying) : Cal3 P w K mg base (k + 1) "shown_line" ["errand"] sp_shown_line := by
  refine h.val sc_shown_line (by rintro ds q ⟨_, e, _⟩; rw [e]; rfl) fun f cdv A outer s0 H E ds q hr hA => ?_
  obtain ⟨e, rfl, he, hz, hq⟩ := hA
  have hlen := he.len
  refine ⟨_, (s_cons (s_set (i := 1) sc_shown_line.nd rfl (Or.inl rfl) (e_bm PySem.F.plainAttrs_str PySem.F.slot_str_join PySem.F.type_str_join mt_str_join dn_join e_str (a_cons (e_op op_cat dn_catL (e_lst (a_cons (e_ix ix_tup dn_ixT (e_v 0) e_int (fun _ _ => rfl)) a_nil)) (e_callTy call_list_of dn_toList rfl G.list boot_list (a_cons (e_ix ix_tup dn_ixT (e_v 0) e_int (fun _ _ => rfl)) a_nil))) a_nil)))
 (s_one (s_ret (e_op op_add_str dn_addS (e_op op_add_str dn_addS (e_v 1) e_str) (e_call C_shown_saying hr rfl (a_cons (e_ix ix_tup dn_ixT (e_v 0) e_int (fun _ _ => rfl)) a_nil)))))), ?_⟩
  rw [show e.d = .tup [.str e.name, .tup (e.ps.map D.str), e.body.d] from rfl]
  have hhl : (headT e).length ≤ 100000 := by unfold lineT at hlen; rw [List.length_append] at hlen; omega
  have hbl : (tx e.body).length ≤ 100000 := by unfold lineT at hlen; rw [List.length_append, List.length_cons, List.length_cons] at hlen; omega
  have hl4 := he.l4
  have hgl := glue_len (e.ps.map fun p => p.cps.toList) e.name.cps.toList
  have h32 : (textOf [32]).length = 1 := by rw [len_text]; rfl
  decreasing_trivial
  intro p1 hp1
  have a1 : up emp p1 (.lst [.str e.name]) p1 = some (.lst [.str e.name]) := up_same
  generalize up emp p1 (.lst [.str e.name]) = S1 at a1 ⊢
  decreasing_trivial
  intro p2 hp2
  have a2 := up_get (o := .lst (e.ps.map D.str)) a1 hp2
  have a3 : up S1 p2 (.lst (e.ps.map D.str)) p2 = some (.lst (e.ps.map D.str)) := up_same
  generalize up S1 p2 (.lst (e.ps.map D.str)) = S2 at a2 a3 ⊢
  refine j_catL a2 a3 (small_le (by rw [List.length_map]; simp only [List.length_cons, List.length_nil]; omega)) ?_
  have ec : [D.str e.name] ++ e.ps.map D.str = ((e.name.cps.toList :: e.ps.map fun p => p.cps.toList).map textOf).map D.str := by rw [he.words]; rfl
  rw [ec]
  intro p3 hp3
  refine ⟨textOf [32], _, _, congrArg D.str t_32.symm, rfl, .inl ⟨p3, rfl, up_same⟩, ?_, ?_⟩
  · rw [sum_texts, h32]
    unfold headT at hhl
    simp only [List.length_map, List.length_cons] at hgl ⊢
    omega
  rw [join_glue]
  decreasing_trivial
  refine j_addS (Nat.le_trans (show (textOf (glue 32 e.name.cps.toList (e.ps.map fun p => p.cps.toList))).length + (": " : Str).length ≤ 200000 by rw [← t_58, len_text, len_text]; unfold headT at hhl; simp only [List.length_cons, List.length_nil]; omega) (by decide)) ?_
  decreasing_trivial
  refine ⟨e.body, rfl, he.ok, hz, hbl, ?_⟩
  rw [← t_58, text_app]
  refine j_addS (Nat.le_trans (show _ + _ ≤ 400000 by rw [len_text, len_text, List.length_append]; unfold headT at hhl; simp only [List.length_cons, List.length_nil]; omega) (by decide)) ?_
  rw [text_app]
  have el : glue 32 e.name.cps.toList (e.ps.map fun p => p.cps.toList) ++ [58, 32] ++ tx e.body = lineT e := by unfold lineT headT; simp
  rw [el]
  exact hq
structure Mkd (s : Sy) (kw mk : Str) (a : Sy) (as : List Sy) (c1 c2 : Nat) (cl : List Nat) : Prop where
  d : s.d = .tup (.str kw :: (a :: as).map Sy.d)
  n1 : ¬ kw = "name"
  n2 : ¬ kw = "bud"
  n3 : ¬ kw = "send"
  val : valD (dicD [("left", "< "), ("right", "> "), ("pair", "[]"), ("fork", "{}")]) (.inr kw) = some (.str mk)
  mk_ : mk = textOf [c1, c2]
  cl_ : Txt.strip (textOf [c2]) = textOf cl
  cl1 : cl.length ≤ 1
  t : tx s = c1 :: ((tx a ++ txt as) ++ cl)
  len : as.length ≤ 2
  deep : ∀ x ∈ a :: as, x.deep < s.deep
theorem strip_32 : Txt.strip (textOf [32]) = textOf [] := by decide +kernel
theorem strip_93 : Txt.strip (textOf [93]) = textOf [93] := by decide +kernel
theorem strip_125 : Txt.strip (textOf [125]) = textOf [125] := by decide +kernel
theorem mkd_left (a : Sy) : Mkd (.left a) "left" "< " a [] 60 32 [] := by
  refine ⟨rfl, by decide +kernel, by decide +kernel, by decide +kernel, by kernel_rfl, by decide +kernel, strip_32, by decide, by simp [tx, txt], by simp, fun x hx => ?_⟩
  rw [List.mem_singleton.mp hx, Sy.deep]; omega
theorem mkd_right (a : Sy) : Mkd (.right a) "right" "> " a [] 62 32 [] := by
  refine ⟨rfl, by decide +kernel, by decide +kernel, by decide +kernel, by kernel_rfl, by decide +kernel, strip_32, by decide, by simp [tx, txt], by simp, fun x hx => ?_⟩
  rw [List.mem_singleton.mp hx, Sy.deep]; omega
theorem mkd_pair (a b : Sy) : Mkd (.pair a b) "pair" "[]" a [b] 91 93 [93] := by
  refine ⟨rfl, by decide +kernel, by decide +kernel, by decide +kernel, by kernel_rfl, by decide +kernel, strip_93, by decide, by simp [tx, txt], by simp, fun x hx => ?_⟩
  simp only [List.mem_cons, List.not_mem_nil, or_false] at hx
  rcases hx with rfl | rfl <;> rw [Sy.deep] <;> omega
theorem mkd_fork (a b c : Sy) : Mkd (.fork a b c) "fork" "{}" a [b, c] 123 125 [125] := by
  refine ⟨rfl, by decide +kernel, by decide +kernel, by decide +kernel, by kernel_rfl, by decide +kernel, strip_125, by decide, by simp [tx, txt], by simp, fun x hx => ?_⟩
  simp only [List.mem_cons, List.not_mem_nil, or_false] at hx
  rcases hx with rfl | rfl | rfl <;> rw [Sy.deep] <;> omega
theorem glue_txt : ∀ (as : List Sy) (a : Sy), glue 32 (tx a) (as.map tx) = tx a ++ txt as
  | [], a => by simp [glue, txt]
  | b :: as, a => by rw [List.map_cons, glue, glue_txt as b, txt]
theorem deeps_mem : ∀ {as : List Sy} {a : Sy}, a ∈ as → a.deep ≤ Sy.deeps as
  | b :: as, a, h => by
    rw [Sy.deeps]
    rcases List.mem_cons.mp h with rfl | h
    · omega
    · have := deeps_mem h; omega
theorem txt_mem : ∀ {as : List Sy} {a : Sy}, a ∈ as → (tx a).length ≤ (txt as).length
  | b :: as, a, h => by
    rw [txt, List.length_cons, List.length_append]
    rcases List.mem_cons.mp h with rfl | h
    · omega
    · have := txt_mem h; omega
theorem all_mem {a : Sy} {as : List Sy} {x : Sy} (h : x ∈ a :: as) : (tx x).length ≤ (tx a ++ txt as).length := by
  rw [List.length_append]
  rcases List.mem_cons.mp h with rfl | h
  · omega
  · have := txt_mem h; omega
inductive P_text (n : Nat) (ds : List D) (q : D → Prop) : Prop where
  | mk (s : Sy) (_ : ds = [s.d]) (_ : okS s) (_ : s.deep ≤ n) (_ : (tx s).length ≤ 100000) (_ : q (.str (textOf (tx s))))
def sp_text (n : Nat) : Sp3 := vS (P_text n)
theorem ok_text (h : Has K mg "_law_text" s_text ["saying"]) (G : Gs K mg) : ∀ n : Nat, Cal3 P w K mg base n "_law_text" ["saying"] (sp_text n)
  | 0 => h.none3 (by rintro ds S Q E ⟨s, _, _, z, _⟩; cases s <;> simp [Sy.deep] at z) 0
  | n + 1 => by
    have C_text := ok_text h G n
    refine h.val sc_text (by rintro ds q ⟨t, e, _⟩; rw [e]; rfl) fun f cdv A outer s0 H E ds q hr hA => ?_
    have hu := hu_of hr
    obtain ⟨s, rfl, ok, hd, hl, hq⟩ := hA
    refine ⟨_, (s_cons (s_if (t_cmp op_eq dn_eqS (e_ix ix_tup dn_ixT (e_v 0) e_int (fun _ _ => rfl)) e_str (nomark _)) (s_one (s_ret (e_ix ix_tup dn_ixT (e_v 0) e_int (fun _ _ => rfl)))) s_nil)
 (s_cons (s_if (t_cmp op_eq dn_eqS (e_ix ix_tup dn_ixT (e_v 0) e_int (fun _ _ => rfl)) e_str (nomark _)) (s_one (s_ret e_str)) s_nil)
 (s_cons (s_if (t_cmp op_eq dn_eqS (e_ix ix_tup dn_ixT (e_v 0) e_int (fun _ _ => rfl)) e_str (nomark _)) (s_one (s_ret (e_op op_add_str dn_addS (e_op op_add_str dn_addS (e_op op_add_str dn_addS (e_ix ix_tup dn_ixT (e_v 0) e_int (fun _ _ => rfl)) e_str) (e_bm PySem.F.plainAttrs_str PySem.F.slot_str_join PySem.F.type_str_join mt_str_join dn_join e_str (a_cons (e_comp (osc := defScope s_text) (N := ["saying", "inner", "marks"]) (M := []) (js := []) ⟨rfl, by decide +kernel, by decide +kernel, rfl, by decide +kernel, by decide +kernel, by decide +kernel⟩ (by decide +kernel) rfl (i_tup (e_ix ix_tup dn_ixT (e_v 0) e_int (fun _ _ => rfl))) (fun _ _ _ _ _ => (e_call C_text hr rfl (a_cons (e_v 0) a_nil)))) a_nil))) e_str))) s_nil)
 (s_cons (s_set (i := 1) sc_text.nd rfl (Or.inl rfl) (e_bm PySem.F.plainAttrs_str PySem.F.slot_str_join PySem.F.type_str_join mt_str_join dn_join e_str (a_cons (e_comp (osc := defScope s_text) (N := ["saying", "inner", "marks"]) (M := []) (js := []) ⟨rfl, by decide +kernel, by decide +kernel, rfl, by decide +kernel, by decide +kernel, by decide +kernel⟩ (by decide +kernel) rfl (i_tup (e_slice sl_tupA dn_slT (e_v 0) (p_some e_int) p_none)) (fun _ _ _ _ _ => (e_call C_text hr rfl (a_cons (e_v 0) a_nil)))) a_nil)))
 (s_cons (s_set (i := 2) sc_text.nd rfl (Or.inl rfl) (e_dget hu (e_dispC (dc_cons (dc_cons (dc_cons (dc_cons dc_nil)))) (by decide +kernel) (by decide) rfl rfl (fun z => nomatch z) (by decide)) (e_ix ix_tup dn_ixT (e_v 0) e_int (fun _ _ => rfl)) (fun _ _ => rfl)))
 (s_one (s_ret (e_op op_add_str dn_addS (e_op op_add_str dn_addS (e_ix ix_str dn_ixS (e_v 2) e_int (fun _ _ => rfl)) (e_v 1)) (e_bm0 PySem.F.plainAttrs_str PySem.F.slot_str_strip PySem.F.type_str_strip mt_str_strip dn_strip (e_ix ix_str dn_ixS (e_v 2) e_int (fun _ _ => rfl))))))))))), ?_⟩
    have h32 : (textOf [32]).length = 1 := by rw [len_text]; rfl
    have row : ∀ (a : Sy) (as : List Sy), Txt.join (textOf [32]) (((a :: as).map tx).map textOf) = textOf (tx a ++ txt as) := fun a as => by
      rw [List.map_cons, ← glue_txt]
      exact join_glue _ _
    have big : ∀ (a : Sy) (as : List Sy), (((a :: as).map tx).flatten).length ≤ (tx a ++ txt as).length := fun a as => by
      rw [← glue_txt, List.map_cons]
      exact glue_len _ _
    have texts : ∀ as : List Sy, ((List.range (as.map Sy.d).length).map fun i => D.str (textOf (tx (as.getD i .bud)))) = ((as.map tx).map textOf).map D.str := fun as => by
      rw [List.length_map, range_at as .bud fun x => D.str (textOf (tx x)), List.map_map, List.map_map]
      rfl
    have cs : (∃ x, s = .name x) ∨ s = .bud ∨ (∃ x as, s = .send x as) ∨ ∃ (kw mk : Str) (a : Sy) (as : List Sy) (c1 c2 : Nat) (cl : List Nat), Mkd s kw mk a as c1 c2 cl ∧ ∀ x ∈ a :: as, okS x := by
      cases s with
      | name x => exact .inl ⟨x, rfl⟩
      | bud => exact .inr (.inl rfl)
      | send x as => exact .inr (.inr (.inl ⟨x, as, rfl⟩))
      | left a => exact .inr (.inr (.inr ⟨_, _, _, _, _, _, _, mkd_left a, fun x hx => by rw [List.mem_singleton.mp hx]; exact ok⟩))
      | right a => exact .inr (.inr (.inr ⟨_, _, _, _, _, _, _, mkd_right a, fun x hx => by rw [List.mem_singleton.mp hx]; exact ok⟩))
      | pair a b =>
        refine .inr (.inr (.inr ⟨_, _, _, _, _, _, _, mkd_pair a b, fun x hx => ?_⟩))
        simp only [List.mem_cons, List.not_mem_nil, or_false] at hx
        rcases hx with rfl | rfl
        · exact ok.1
        · exact ok.2
      | fork a b c =>
        refine .inr (.inr (.inr ⟨_, _, _, _, _, _, _, mkd_fork a b c, fun x hx => ?_⟩))
        simp only [List.mem_cons, List.not_mem_nil, or_false] at hx
        rcases hx with rfl | rfl | rfl
        · exact ok.1
        · exact ok.2.1
        · exact ok.2.2
    rcases cs with ⟨x, rfl⟩ | rfl | ⟨x, as, rfl⟩ | ⟨kw, mk, a, as, c1, c2, cl, hm, hk⟩
    · simp only [Sy.d]
      rw [tx, ← (name_wd ok).1] at hq
      decreasing_trivial
      exact hq
    · simp only [Sy.d]
      rw [tx, t_45] at hq
      decreasing_trivial
      exact hq
    · obtain ⟨okx, l1, l4, oks⟩ := ok
      obtain ⟨ex, hw⟩ := name_wd okx
      have hxl : x.length ≤ 8 := by rw [ex, len_text]; exact hw.l8
      cases as with
      | nil => simp at l1
      | cons a as =>
      rw [tx] at hl hq
      simp only [List.length_append, List.length_cons, List.length_nil] at hl
      have hb := big a as
      have hda : ∀ y ∈ a :: as, y.deep ≤ n := fun y hy => by have := deeps_mem hy; rw [Sy.deep] at hd; omega
      obtain ⟨cx, ecx⟩ : ∃ cx, cx = x.cps.toList := ⟨_, rfl⟩
      rw [← ecx] at ex hw hl hq
      subst ex
      have hcx := hw.l8
      simp only [Sy.d, Sy.ds_map]
      decreasing_trivial
      rw [← t_40]
      refine j_addS (Nat.le_trans (show _ + _ ≤ 100 by rw [len_text, len_text]; simp only [List.length_cons, List.length_nil]; omega) (by decide)) ?_
      rw [text_app]
      decreasing_trivial
      refine comp_map (fun i => .str (textOf (tx ((a :: as).getD i .bud)))) (by rw [List.length_map]; omega) trivial ?_ ?_
      · intro i d hd2 P hP
        rw [List.getElem?_map] at hd2
        obtain ⟨y, hy, rfl⟩ := Option.map_eq_some_iff.mp hd2
        have hym := List.mem_of_getElem? hy
        have ey : (a :: as).getD i .bud = y := by rw [List.getD_eq_getElem?_getD, hy]; rfl
        rw [ey] at hP
        have hyl := all_mem hym
        rw [List.length_append] at hyl
        decreasing_trivial
        exact ⟨y, rfl, okSs_mem oks y hym, hda y hym, by omega, hP⟩
      rw [texts]
      intro pl hpl
      rw [List.length_append] at hb
      refine ⟨textOf [32], _, _, congrArg D.str t_32.symm, rfl, .inl ⟨pl, rfl, up_same⟩, ?_, ?_⟩
      · rw [sum_texts, h32]
        simp only [List.length_map, List.length_cons] at l4 ⊢
        omega
      rw [row]
      refine j_addS (Nat.le_trans (show _ + _ ≤ 200000 by rw [len_text, len_text]; simp only [List.length_append, List.length_cons, List.length_nil]; omega) (by decide)) ?_
      rw [text_app, ← t_41]
      refine j_addS (Nat.le_trans (show _ + _ ≤ 200000 by rw [len_text, len_text]; simp only [List.length_append, List.length_cons, List.length_nil]; omega) (by decide)) ?_
      rw [text_app]
      have el : cx ++ [40] ++ (tx a ++ txt as) ++ [41] = cx ++ 40 :: (tx a ++ txt as ++ [41]) := by simp only [List.append_assoc, List.cons_append, List.nil_append]
      rw [el]
      exact hq
    · have hdd := hm.d
      have n1 := hm.n1
      have n2 := hm.n2
      have n3 := hm.n3
      have hb := big a as
      have hcl := hm.cl1
      have hlen := hm.len
      rw [hm.t] at hl hq
      simp only [List.length_append, List.length_cons, List.length_nil] at hl
      rw [hdd]
      decreasing_trivial
      rw [cutD_from (by decide), show (D.str kw :: (a :: as).map Sy.d).drop (Int.toNat 1) = (a :: as).map Sy.d from rfl]
      refine comp_map (fun i => .str (textOf (tx ((a :: as).getD i .bud)))) (by rw [List.length_map, List.length_cons]; omega) trivial ?_ ?_
      · intro i d hd2 P hP
        rw [List.getElem?_map] at hd2
        obtain ⟨y, hy, rfl⟩ := Option.map_eq_some_iff.mp hd2
        have hym := List.mem_of_getElem? hy
        have ey : (a :: as).getD i .bud = y := by rw [List.getD_eq_getElem?_getD, hy]; rfl
        rw [ey] at hP
        have hyl := all_mem hym
        have hyd := hm.deep y hym
        rw [List.length_append] at hyl
        decreasing_trivial
        exact ⟨y, rfl, hk y hym, by omega, by omega, hP⟩
      rw [texts]
      intro pl hpl
      rw [List.length_append] at hb
      refine ⟨textOf [32], _, _, congrArg D.str t_32.symm, rfl, .inl ⟨pl, rfl, up_same⟩, ?_, ?_⟩
      · rw [sum_texts, h32]
        simp only [List.length_map, List.length_cons]
        omega
      rw [row]
      have hmk := hm.mk_
      subst hmk
      have hst := hm.cl_
      decreasing_trivial
      intro pd hpd
      decreasing_trivial
      refine j_dgetS up_same hm.val ?_
      decreasing_trivial
      have e0 : atI (textOf [c1, c2]).cps.toList 0 = some c1 := by rw [textOf_codes]; exact atI_0
      have e1 : atI (textOf [c1, c2]).cps.toList 1 = some c2 := by rw [textOf_codes]; exact atI_1
      have ez : (textOf [c1, c2]).length ≤ sizeLine := by rw [len_text]; exact small_le (by simp)
      refine j_ixS ez e0 ?_
      rw [show (⟨#[c1]⟩ : Str) = textOf [c1] from rfl]
      decreasing_trivial
      refine j_addS (Nat.le_trans (show _ + _ ≤ 200000 by rw [len_text, len_text]; simp only [List.length_append, List.length_cons, List.length_nil]; omega) (by decide)) ?_
      rw [text_app]
      decreasing_trivial
      refine j_ixS ez e1 ?_
      rw [show (⟨#[c2]⟩ : Str) = textOf [c2] from rfl]
      decreasing_trivial
      refine j_strip (by rw [len_text]; exact small_le (by simp)) ?_
      rw [hst]
      refine j_addS (Nat.le_trans (show _ + _ ≤ 200000 by rw [len_text, len_text]; simp only [List.length_append, List.length_cons, List.length_nil]; omega) (by decide)) ?_
      rw [text_app]
      have el : [c1] ++ (tx a ++ txt as) ++ cl = c1 :: (tx a ++ txt as ++ cl) := by simp only [List.append_assoc, List.cons_append, List.nil_append]
      rw [el]
      exact hq
inductive P_is_saying (n : Nat) (ds : List D) (q : D → Prop) : Prop where
  | mk (s : Sy) (_ : ds = [s.d]) (_ : s.deep ≤ n) (_ : okS s) (_ : q (.bl true))
def sp_is_saying (n : Nat) : Sp3 := vS (P_is_saying n)
theorem all_yes (n : Nat) : ((List.range n).map fun _ => D.bl true) = ((List.range n).map fun _ => true).map D.bl := by rw [List.map_map]; rfl
theorem all_yes2 (n : Nat) : (((List.range n).map fun _ => true).all id) = true := by
  rw [List.all_eq_true]
  intro x hx
  obtain ⟨_, _, rfl⟩ := List.mem_map.mp hx
  rfl
theorem say_kinds {s : Sy} (ok : okS s) : (∃ x, s = .name x) ∨ (∃ x as, s = .send x as) ∨ ∃ (kw : Str) (as : List Sy), s.d = .tup (.str kw :: as.map Sy.d) ∧ ¬ kw = "name" ∧ ¬ kw = "send" ∧ as.length ≤ 3 ∧ ∀ a ∈ as, okS a ∧ a.deep < s.deep := by
  have two : ∀ (kw : Str) (as : List Sy), kw = "bud" ∨ kw = "left" ∨ kw = "right" ∨ kw = "pair" ∨ kw = "fork" → ¬ kw = "name" ∧ ¬ kw = "send" := fun kw as h => by
    rcases h with rfl | rfl | rfl | rfl | rfl <;> exact ⟨by decide +kernel, by decide +kernel⟩
  cases s with
  | name x => exact .inl ⟨x, rfl⟩
  | send x as => exact .inr (.inl ⟨x, as, rfl⟩)
  | bud =>
    obtain ⟨h1, h2⟩ := two "bud" [] (by simp)
    exact .inr (.inr ⟨_, [], rfl, h1, h2, by simp, fun a ha => nomatch ha⟩)
  | left a =>
    obtain ⟨h1, h2⟩ := two "left" [] (by simp)
    refine .inr (.inr ⟨_, [a], rfl, h1, h2, by simp, fun x hx => ?_⟩)
    rw [List.mem_singleton.mp hx, Sy.deep]
    exact ⟨ok, by omega⟩
  | right a =>
    obtain ⟨h1, h2⟩ := two "right" [] (by simp)
    refine .inr (.inr ⟨_, [a], rfl, h1, h2, by simp, fun x hx => ?_⟩)
    rw [List.mem_singleton.mp hx, Sy.deep]
    exact ⟨ok, by omega⟩
  | pair a b =>
    obtain ⟨h1, h2⟩ := two "pair" [] (by simp)
    refine .inr (.inr ⟨_, [a, b], rfl, h1, h2, by simp, fun x hx => ?_⟩)
    simp only [List.mem_cons, List.not_mem_nil, or_false] at hx
    rcases hx with rfl | rfl <;> rw [Sy.deep]
    · exact ⟨ok.1, by omega⟩
    · exact ⟨ok.2, by omega⟩
  | fork a b c =>
    obtain ⟨h1, h2⟩ := two "fork" [] (by simp)
    refine .inr (.inr ⟨_, [a, b, c], rfl, h1, h2, by simp, fun x hx => ?_⟩)
    simp only [List.mem_cons, List.not_mem_nil, or_false] at hx
    rcases hx with rfl | rfl | rfl <;> rw [Sy.deep]
    · exact ⟨ok.1, by omega⟩
    · exact ⟨ok.2.1, by omega⟩
    · exact ⟨ok.2.2, by omega⟩
theorem ok_is_saying (h : Has K mg "_law_is_saying" s_is_saying ["found"]) (G : Gs K mg) : ∀ n : Nat, Cal3 P w K mg base n "_law_is_saying" ["found"] (sp_is_saying n)
  | 0 => h.none3 (by rintro ds S Q E ⟨s, _, z, _⟩; cases s <;> simp [Sy.deep] at z) 0
  | n + 1 => by
    have C_is_saying := ok_is_saying h G n
    refine h.val sc_is_saying (by rintro ds q ⟨t, e, _⟩; rw [e]; rfl) fun f cdv A outer s0 H E ds q hr hA => ?_
    obtain ⟨s, rfl, hd, ok, hq⟩ := hA
    refine ⟨_, (s_cons (s_if (PW3.pt (w_or (t_not (t_val (e_callB call_isB dn_isB rfl G.isinstance boot_isinstance (a_cons (e_v 0) (a_cons (e_bltn (n := "tuple") rfl G.tuple boot_tuple) a_nil))))) (w_or (t_cmp op_eq dn_eqI (e_callB call_len_seq dn_len rfl G.len PySem.boot_len (a_cons (e_v 0) a_nil)) e_int (nomark _)) (w_or1 (t_not (t_val (e_callB call_isB dn_isB rfl G.isinstance boot_isinstance (a_cons (e_ix ix_tup dn_ixT (e_v 0) e_int (fun _ _ => rfl)) (a_cons (e_bltn (n := "str") rfl G.str boot_str) a_nil))))))))) (s_one (s_ret e_bl)) s_nil)
 (s_cons (s_if (t_cmp op_eq dn_eqS (e_ix ix_tup dn_ixT (e_v 0) e_int (fun _ _ => rfl)) e_str (nomark _)) (s_one (s_ret (e_and (e_cmp op_eq dn_eqI (e_callB call_len_seq dn_len rfl G.len PySem.boot_len (a_cons (e_v 0) a_nil)) e_int (nomark _)) (e_one (e_callB call_isB dn_isB rfl G.isinstance boot_isinstance (a_cons (e_ix ix_tup dn_ixT (e_v 0) e_int (fun _ _ => rfl)) (a_cons (e_bltn (n := "str") rfl G.str boot_str) a_nil))))))) s_nil)
 (s_cons (s_if (t_cmp op_eq dn_eqS (e_ix ix_tup dn_ixT (e_v 0) e_int (fun _ _ => rfl)) e_str (nomark _)) (s_cons (s_if (PW3.pt (w_or (t_cmp op_ne dn_neI (e_callB call_len_seq dn_len rfl G.len PySem.boot_len (a_cons (e_v 0) a_nil)) e_int (nomark _)) (w_or (t_not (t_val (e_callB call_isB dn_isB rfl G.isinstance boot_isinstance (a_cons (e_ix ix_tup dn_ixT (e_v 0) e_int (fun _ _ => rfl)) (a_cons (e_bltn (n := "str") rfl G.str boot_str) a_nil))))) (w_or1 (t_not (t_val (e_callB call_isB dn_isB rfl G.isinstance boot_isinstance (a_cons (e_ix ix_tup dn_ixT (e_v 0) e_int (fun _ _ => rfl)) (a_cons (e_bltn (n := "tuple") rfl G.tuple boot_tuple) a_nil))))))))) (s_one (s_ret e_bl)) s_nil)
 (s_one (s_ret (e_callB (call_allL rfl) (dn_all (f := fun bs => bs.all id)) rfl G.all boot_all (a_cons (e_comp (osc := defScope s_is_saying) (N := ["found"]) (M := []) (js := []) ⟨rfl, by decide +kernel, by decide +kernel, rfl, by decide +kernel, by decide +kernel, by decide +kernel⟩ (by decide +kernel) rfl (i_tup (e_ix ix_tup dn_ixT (e_v 0) e_int (fun _ _ => rfl))) (fun _ _ _ _ _ => (e_call C_is_saying hr rfl (a_cons (e_v 0) a_nil)))) a_nil))))) s_nil)
 (s_one (s_ret (e_callB (call_allL rfl) (dn_all (f := fun bs => bs.all id)) rfl G.all boot_all (a_cons (e_comp (osc := defScope s_is_saying) (N := ["found"]) (M := []) (js := []) ⟨rfl, by decide +kernel, by decide +kernel, rfl, by decide +kernel, by decide +kernel, by decide +kernel⟩ (by decide +kernel) rfl (i_tup (e_slice sl_tupA dn_slT (e_v 0) (p_some e_int) p_none)) (fun _ _ _ _ _ => (e_call C_is_saying hr rfl (a_cons (e_v 0) a_nil)))) a_nil))))))), ?_⟩
    rcases say_kinds ok with ⟨x, rfl⟩ | ⟨x, as, rfl⟩ | ⟨kw, as, e, n1, n2, hl, hk⟩
    · simp only [Sy.d]
      decreasing_trivial
      exact hq
    · obtain ⟨okx, l1, l4, oks⟩ := ok
      simp only [Sy.d, Sy.ds_map]
      decreasing_trivial
      refine comp_map (fun _ => .bl true) (by rw [List.length_map]; omega) trivial ?_ ?_
      · intro i d hd2 P hP
        rw [List.getElem?_map] at hd2
        obtain ⟨a, ha, rfl⟩ := Option.map_eq_some_iff.mp hd2
        have ha := List.mem_of_getElem? ha
        decreasing_trivial
        refine ⟨a, rfl, ?_, okSs_mem oks a ha, hP⟩
        have := deeps_mem ha
        rw [Sy.deep] at hd
        omega
      intro pl hpl
      decreasing_trivial
      rw [all_yes]
      refine j_all up_same ?_
      rw [all_yes2]
      decreasing_trivial
      exact hq
    · rw [e]
      decreasing_trivial
      rw [cutD_from (by decide), show (D.str kw :: as.map Sy.d).drop (Int.toNat 1) = as.map Sy.d from rfl]
      decreasing_trivial
      refine comp_map (fun _ => .bl true) (by rw [List.length_map]; omega) trivial ?_ ?_
      · intro i d hd2 P hP
        rw [List.getElem?_map] at hd2
        obtain ⟨a, ha, rfl⟩ := Option.map_eq_some_iff.mp hd2
        have ha := hk a (List.mem_of_getElem? ha)
        decreasing_trivial
        exact ⟨a, rfl, by omega, ha.1, hP⟩
      intro pl hpl
      decreasing_trivial
      rw [all_yes]
      refine j_all up_same ?_
      rw [all_yes2]
      decreasing_trivial
      exact hq
inductive P_is_errand  (ds : List D) (q : D → Prop) : Prop where
  | mk (e : Er) (_ : ds = [e.d]) (_ : LnOk e) (_ : q (.bl true))
def sp_is_errand  : Sp3 := vS P_is_errand
theorem ok_is_errand {k : Nat} (hk : 12 ≤ k) (h : Has K mg "_law_is_errand" s_is_errand ["found"]) (G : Gs K mg) (C0 : Cal3 P w K mg base 12 "_law_is_saying" ["found"] (sp_is_saying 12)) : Cal3 P w K mg base (k + 1) "_law_is_errand" ["found"] sp_is_errand := by
  have C_is_saying := C0.mono hk
  refine h.val sc_is_errand (by rintro ds q ⟨t, e, _⟩; rw [e]; rfl) fun f cdv A outer s0 H E ds q hr hA => ?_
  obtain ⟨e, rfl, he, hq⟩ := hA
  have l4 := he.l4
  refine ⟨_, (s_cons (s_if (PW3.pt (w_or (t_not (t_val (e_callB call_isB dn_isB rfl G.isinstance boot_isinstance (a_cons (e_v 0) (a_cons (e_bltn (n := "tuple") rfl G.tuple boot_tuple) a_nil))))) (w_or (t_cmp op_ne dn_neI (e_callB call_len_seq dn_len rfl G.len PySem.boot_len (a_cons (e_v 0) a_nil)) e_int (nomark _)) (w_or1 (t_not (t_val (e_callB call_isB dn_isB rfl G.isinstance boot_isinstance (a_cons (e_ix ix_tup dn_ixT (e_v 0) e_int (fun _ _ => rfl)) (a_cons (e_bltn (n := "tuple") rfl G.tuple boot_tuple) a_nil))))))))) (s_one (s_ret e_bl)) s_nil)
 (s_cons (s_if (PW3.pt (w_or (t_not (t_val (e_callB call_isB dn_isB rfl G.isinstance boot_isinstance (a_cons (e_ix ix_tup dn_ixT (e_v 0) e_int (fun _ _ => rfl)) (a_cons (e_bltn (n := "str") rfl G.str boot_str) a_nil))))) (w_or1 (t_not (t_val (e_callB (call_allL rfl) (dn_all (f := fun bs => bs.all id)) rfl G.all boot_all (a_cons (e_comp (osc := defScope s_is_errand) (N := ["found"]) (M := []) (js := []) ⟨rfl, by decide +kernel, by decide +kernel, rfl, by decide +kernel, by decide +kernel, by decide +kernel⟩ (by decide +kernel) rfl (i_tup (e_ix ix_tup dn_ixT (e_v 0) e_int (fun _ _ => rfl))) (fun _ _ _ _ _ => (e_callB call_isB dn_isB rfl G.isinstance boot_isinstance (a_cons (e_v 0) (a_cons (e_bltn (n := "str") rfl G.str boot_str) a_nil))))) a_nil))))))) (s_one (s_ret e_bl)) s_nil)
 (s_one (s_ret (e_call C_is_saying hr rfl (a_cons (e_ix ix_tup dn_ixT (e_v 0) e_int (fun _ _ => rfl)) a_nil)))))), ?_⟩
  unfold Er.d
  decreasing_trivial
  refine comp_map (fun _ => .bl true) (by rw [List.length_map]; omega) trivial ?_ ?_
  · intro i d hd2 P hP
    rw [List.getElem?_map] at hd2
    obtain ⟨a, ha, rfl⟩ := Option.map_eq_some_iff.mp hd2
    decreasing_trivial
    exact hP
  intro pl hpl
  decreasing_trivial
  rw [all_yes]
  refine j_all up_same ?_
  rw [all_yes2]
  decreasing_trivial
  exact ⟨e.body, rfl, he.deep, he.ok, hq⟩
noncomputable def cellAt (ns : List Int) (k : Int) : Int := ns.getD k.toNat 0
inductive P_cell_at  (ds : List D) (q : D → Prop) : Prop where
  | mk (ns : List Int) (k : Int) (_ : ds = [.rol (ns.map D.int), .int k]) (_ : 0 ≤ k) (_ : q (.int (cellAt ns k)))
def sp_cell_at  : Sp3 := vS P_cell_at
theorem ok_cell_at {k : Nat} (h : Has K mg "_law_cell_at" s_cell_at ["script", "k"]) (G : Gs K mg) : Cal3 P w K mg base (k + 1) "_law_cell_at" ["script", "k"] sp_cell_at := by
  refine h.val sc_cell_at (by rintro ds q ⟨ns, k, e, _⟩; rw [e]; rfl) fun f cdv A outer s H E ds q hr ⟨ns, k, e, h0, hq⟩ => ?_
  subst e
  refine ⟨_, (s_cons (s_if (t_cmp op_lt dn_intB (e_v 1) (e_callB call_len_seq dn_len rfl G.len PySem.boot_len (a_cons (e_v 0) a_nil)) (nomark _)) (s_one (s_ret (e_ix ix_list dn_ixL (e_v 0) (e_v 1) (fun _ _ => rfl)))) s_nil)
 (s_one (s_ret e_int))), ?_⟩
  decreasing_trivial
  have hl : (ns.map D.int).length = ns.length := List.length_map _
  refine iteD2 (fun c => ?_) (fun c => ?_)
  · rw [hl] at c
    have hk : k.toNat < ns.length := by omega
    decreasing_trivial
    refine j_ixR (atI_of h0 (v := .int (cellAt ns k)) ?_) hq
    rw [List.getElem?_map, List.getElem?_eq_getElem hk]
    simp [cellAt, List.getD_eq_getElem?_getD, List.getElem?_eq_getElem hk]
  · rw [hl] at c
    have hk : ns.length ≤ k.toNat := by omega
    decreasing_trivial
    have e : cellAt ns k = 0 := by simp [cellAt, List.getD_eq_getElem?_getD, List.getElem?_eq_none hk]
    rw [e] at hq
    exact hq
inductive P_names  (ds : List D) (q : List D → Prop) : Prop where
  | mk (c n : Int) (_ : ds = [.int c, .int n]) (_ : 0 ≤ c) (_ : 1 ≤ n) (_ : n ≤ 12) (_ : ∀ xs : List Str, Row n.toNat xs → q (xs.map D.str))
def sp_names  : Sp3 := lSt P_names
theorem ok_names {k : Nat} (h : Has K mg "_law_names" s_names ["cell", "many"]) (G : Gs K mg) : Cal3 P w K mg base (k + 1) "_law_names" ["cell", "many"] sp_names := by
  refine h.lst sc_names (by rintro ds q ⟨c, n, e, _⟩; rw [e]; rfl) fun f cdv A outer s H E ds q hr ⟨c, n, e, hc, hn1, hn2, hq⟩ => ?_
  subst e
  refine ⟨_, (s_cons (s_set (i := 2) sc_names.nd rfl (Or.inr rfl) e_str)
 (s_cons (s_set (i := 3) sc_names.nd rfl (Or.inl rfl) (e_op op_fdiv dn_intC (e_v 0) e_int))
 (s_cons (s_for PassesOwn.never rfl (i_range1 rfl G.range (a_cons (e_op op_mod dn_intC (e_v 0) e_int) a_nil)) (g_name (i := 4) sc_names.nd rfl (Or.inl rfl)) (s_cons (s_set (i := 2) sc_names.nd rfl (Or.inr rfl) (e_op op_add_str dn_addS (e_v 2) (e_ix ix_str dn_ixS e_str (e_op op_mod dn_intC (e_v 3) e_int) (fun _ _ => rfl))))
 (s_one (s_set (i := 3) sc_names.nd rfl (Or.inl rfl) (e_op op_fdiv dn_intC (e_v 3) e_int)))))
 (s_cons (s_set (i := 5) sc_names.nd rfl (Or.inr rfl) (e_op op_mod dn_intC (e_op op_fdiv dn_intC (e_v 0) e_int) (e_op op_add dn_int (e_callB call_len_str dn_lenS rfl G.len PySem.boot_len (a_cons (e_v 2) a_nil)) e_int)))
 (s_cons (s_comp (i := 6) (osc := defScope s_names) (N := ["cell", "many", "base", "left", "k", "place", "found", "turn"]) (M := ["base", "place"]) (js := [2, 5]) ⟨rfl, by decide +kernel, by decide +kernel, rfl, by decide +kernel, by decide +kernel, by decide +kernel⟩ (by decide +kernel) rfl (i_range1 rfl G.range (a_cons (e_v 1) a_nil)) (fun _ _ _ _ _ => (e_op op_add_str dn_addS (e_op op_add_str dn_addS (e_slice sl_str dn_slS (e_v 1) p_none (p_some (e_v 2))) (e_ix ix_str dn_ixS e_str (e_v 0) (fun _ _ => rfl))) (e_slice sl_str dn_slS (e_v 1) (p_some (e_v 2)) p_none))) sc_names.nd rfl rfl)
 (s_cons (s_ifm (PW3.pt (w_and (t_cmp op_lt dn_intB (e_v 1) e_int (nomark _)) (w_and1 (t_cmp op_eq dn_eqI (e_op op_mod dn_intC (e_op op_fdiv dn_intC (e_v 0) e_int) e_int) e_int (nomark _))))) (s_one (s_comp (i := 6) (osc := defScope s_names) (N := ["cell", "many", "base", "left", "k", "place", "found", "turn"]) (M := ["base"]) (js := [2]) ⟨rfl, by decide +kernel, by decide +kernel, rfl, by decide +kernel, by decide +kernel, by decide +kernel⟩ (by decide +kernel) rfl (i_range1 rfl G.range (a_cons (e_v 1) a_nil)) (fun _ _ _ _ _ => (e_op op_add_str dn_addS (e_slice sl_str dn_slS (e_v 1) p_none (p_some e_int)) (e_slice sl_str dn_slS e_str p_none (p_some (e_op op_add dn_int (e_v 0) e_int))))) sc_names.nd rfl rfl)) s_nil)
 (s_cons (s_ifm (PW3.pt (w_and (t_cmp op_lt dn_intB (e_v 1) e_int (nomark _)) (w_and1 (t_cmp op_eq dn_eqI (e_op op_mod dn_intC (e_op op_fdiv dn_intC (e_v 0) e_int) e_int) e_int (nomark _))))) (s_one (s_comp (i := 6) (osc := defScope s_names) (N := ["cell", "many", "base", "left", "k", "place", "found", "turn"]) (M := ["base"]) (js := [2]) ⟨rfl, by decide +kernel, by decide +kernel, rfl, by decide +kernel, by decide +kernel, by decide +kernel⟩ (by decide +kernel) rfl (i_range1 rfl G.range (a_cons (e_v 1) a_nil)) (fun _ _ _ _ _ => (e_op op_add_str dn_addS (e_slice sl_str dn_slS e_str (p_some (e_op op_sub dn_int e_int (e_v 0))) p_none) (e_slice sl_str dn_slS (e_v 1) p_none (p_some e_int)))) sc_names.nd rfl rfl)) s_nil)
 (s_cons (s_set (i := 7) sc_names.nd rfl (Or.inl rfl) (e_op op_mod dn_intC (e_op op_fdiv dn_intC (e_v 0) e_int) (e_v 1)))
 (s_one (s_ret (e_op op_cat dn_catL (e_slice sl_list dn_slL (e_v 6) (p_some (e_v 7)) p_none) (e_slice sl_list dn_slL (e_v 6) p_none (p_some (e_v 7)))))))))))))), ?_⟩
  decreasing_trivial
  refine ⟨fun i σ S => Ex3 fun (lf : Int) (cs : List Nat) (x4 : Option D) => σ = [some (.int c), some (.int n), some (.str (textOf cs)), some (.int lf), x4, none, none, none] ∧ cs.length = i ∧ Letters cs ∧ S = emp,
    ⟨_, [], none, rfl, rfl, fun c hc => by simp at hc, rfl⟩, fun _ _ _ _ => trivial, ?turn, ?done⟩
  case turn =>
    rintro i d σ S hd ⟨lf, cs, x4, rfl, hl, hL, rfl⟩
    obtain ⟨hi, rfl⟩ := nums_at hd
    have m26 := Int.emod_lt_of_pos lf (show (0 : Int) < 26 by decide)
    have n26 := Int.emod_nonneg lf (show (26 : Int) ≠ 0 by decide)
    decreasing_trivial
    refine j_ixS (cp := 97 + (lf % 26).toNat) ?_ ?_ ?_
    · rw [s_alpha, textOf_len]; decide
    · rw [s_alpha, textOf_codes]
      exact at_alpha n26 m26
    refine j_addS (y := textOf [97 + (lf % 26).toNat]) ?_ ?_
    · rw [textOf_len, textOf_len]
      refine small_le ?_
      simp only [List.length_cons, List.length_nil]
      omega
    rw [textOf_cat]
    decreasing_trivial
    refine ⟨_, cs ++ [97 + (lf % 26).toNat], _, rfl, by simp [hl], fun d hd => ?_, rfl⟩
    rcases List.mem_append.mp hd with hd | hd
    · exact hL d hd
    · simp at hd
      omega
  rintro σ S ⟨lf, cs, x4, rfl, hl, hL, rfl⟩
  rw [nums_len] at hl
  have hl7 : cs.length ≤ 7 := by omega
  have lz : ∀ ds : List Nat, ds.length ≤ 100 → (textOf ds).length ≤ sizeLine := fun ds h => by rw [textOf_len]; exact small_le (by omega)
  have hz := lz cs (by omega)
  decreasing_trivial
  rw [textOf_len]
  have p0 := Int.emod_nonneg (c / 11) (show ((cs.length : Int) + 1) ≠ 0 by omega)
  obtain ⟨pl, epl⟩ : ∃ pl, (c / 11) % ((cs.length : Int) + 1) = pl := ⟨_, rfl⟩
  rw [epl] at p0 ⊢
  refine comp_map (fun k => .str (textOf (nm1 cs pl.toNat k))) (by rw [nums_len]; exact Nat.le_trans (show n.toNat ≤ 12 by omega) (by decide)) trivial ?e1 ?_
  case e1 =>
    intro i d hd P hP
    obtain ⟨hi, rfl⟩ := nums_at hd
    decreasing_trivial
    refine j_slS hz ?_
    rw [textOf_codes, cutT_to p0]
    decreasing_trivial
    refine j_ixS (cp := 97 + i) ?_ ?_ ?_
    · rw [s_alpha12, textOf_len]; decide
    · rw [s_alpha12, textOf_codes, at_alpha (by omega) (by omega)]
      simp
    refine j_addS (y := textOf [97 + i]) ?_ ?_
    · rw [textOf_len, textOf_len, List.length_take]
      exact small_le (by simp only [List.length_cons, List.length_nil]; omega)
    rw [textOf_cat]
    decreasing_trivial
    refine j_slS hz ?_
    rw [textOf_codes, cutT_from p0]
    refine j_addS ?_ ?_
    · rw [textOf_len, textOf_len, List.length_append, List.length_take, List.length_drop]
      exact small_le (by simp only [List.length_cons, List.length_nil]; omega)
    rw [textOf_cat]
    exact hP
  rw [nums_len]
  intro D1 hD1
  have e26 : n.toNat ≤ 12 := by omega
  have m1 : ∀ f : Nat → List Nat, ((List.range n.toNat).map fun k => D.str (textOf (f k))) = ((List.range n.toNat).map fun k => textOf (f k)).map D.str := fun f => by rw [List.map_map]; rfl
  rw [m1]
  have R1 : Row n.toNat ((List.range n.toNat).map fun k => textOf (nm1 cs pl.toNat k)) := row1 hL hl7 (by omega)
  decreasing_trivial
  refine j_ifm (fun σ T => Ex2 fun (r : Addr) (xs : List Str) => σ = [some (.int c), some (.int n), some (.str (textOf cs)), some (.int lf), x4, some (.int pl), some (.ref r), none] ∧ T r = some (.lst (xs.map D.str)) ∧ Row n.toNat xs) ?_ ?_
  · intro n' hn'
    by_cases h5 : n < 5
    case neg =>
      decreasing_trivial
      exact hn' _ _ ⟨D1, _, rfl, up_same, R1⟩
    by_cases e1 : c / 17 % 3 = 1
    case neg =>
      decreasing_trivial
      exact hn' _ _ ⟨D1, _, rfl, up_same, R1⟩
    decreasing_trivial
    refine comp_map (fun k => .str (textOf (nm2 cs k))) (by rw [nums_len]; exact Nat.le_trans e26 (by decide)) trivial ?e2 ?_
    case e2 =>
      intro i d hd P hP
      obtain ⟨hi, rfl⟩ := nums_at hd
      decreasing_trivial
      refine j_slS hz ?_
      rw [textOf_codes, cutT_to (by decide)]
      decreasing_trivial
      refine j_slS (by rw [s_abcd]; exact lz _ (by decide)) ?_
      rw [s_abcd, textOf_codes, cutT_to (by omega)]
      have ei : ((0 : Int) + (i : Int) + 1).toNat = i + 1 := by omega
      rw [ei]
      refine j_addS ?_ ?_
      · rw [textOf_len, textOf_len, List.length_take, List.length_take]
        exact small_le (by omega)
      rw [textOf_cat]
      exact hP
    rw [nums_len]
    intro D2 hD2
    rw [m1]
    decreasing_trivial
    exact hn' _ _ ⟨D2, _, rfl, up_same, row2 hL (by omega)⟩
  clear R1
  rintro σ T ⟨r, xs, rfl, hr1, R⟩
  decreasing_trivial
  refine j_ifm (fun σ T => Ex2 fun (r : Addr) (xs : List Str) => σ = [some (.int c), some (.int n), some (.str (textOf cs)), some (.int lf), x4, some (.int pl), some (.ref r), none] ∧ T r = some (.lst (xs.map D.str)) ∧ Row n.toNat xs) ?_ ?_
  · intro n' hn'
    by_cases h5 : n < 5
    case neg =>
      decreasing_trivial
      exact hn' _ _ ⟨r, xs, rfl, hr1, R⟩
    by_cases e2 : c / 17 % 3 = 2
    case neg =>
      decreasing_trivial
      exact hn' _ _ ⟨r, xs, rfl, hr1, R⟩
    decreasing_trivial
    refine comp_map (fun k => .str (textOf (nm3 cs k))) (by rw [nums_len]; exact Nat.le_trans e26 (by decide)) trivial ?e3 ?_
    case e3 =>
      intro i d hd P hP
      obtain ⟨hi, rfl⟩ := nums_at hd
      decreasing_trivial
      refine j_slS (by rw [s_abcd]; exact lz _ (by decide)) ?_
      rw [s_abcd, textOf_codes, cutT_from (by omega)]
      have ei : ((3 : Int) - (0 + (i : Int))).toNat = 3 - i := by omega
      rw [ei]
      decreasing_trivial
      refine j_slS hz ?_
      rw [textOf_codes, cutT_to (by decide)]
      refine j_addS ?_ ?_
      · rw [textOf_len, textOf_len, List.length_take, List.length_drop]
        exact small_le (by simp only [List.length_cons, List.length_nil]; omega)
      rw [textOf_cat]
      exact hP
    rw [nums_len]
    intro D2 hD2
    rw [m1]
    decreasing_trivial
    exact hn' _ _ ⟨D2, _, rfl, up_same, row3 hL (by omega)⟩
  rintro σ T' ⟨r, xs, rfl, hr1, R⟩
  have t0 := Int.emod_nonneg (c / 13) (show n ≠ 0 by omega)
  decreasing_trivial
  rw [cutD_from t0]
  intro p1 hp1
  have hD4 := up_get (o := .lst ((xs.map D.str).drop (c / 13 % n).toNat)) hr1 hp1
  decreasing_trivial
  rw [cutD_to t0]
  intro p2 hp2
  have hxl := R.len
  refine j_catL (up_get up_same hp2) up_same ?_ ?_
  · rw [List.length_drop, List.length_take, List.length_map]
    exact small_le (by omega)
  intro r hr'
  refine ⟨r, _, rfl, up_same, ?_⟩
  have := hq _ (R.turn (t := (c / 13 % n).toNat))
  rw [List.map_append, List.map_drop, List.map_take] at this
  exact this
inductive P_next  (ds : List D) (S : Hp3) (q : D → Addr → O → Prop) : Prop where
  | mk (ns : List Int) (sp : Addr) (i : Int) (rs : List D) (_ : ds = [.rol (ns.map D.int), .ref sp]) (_ : S sp = some (.lst (.int i :: rs))) (_ : 0 ≤ i) (_ : q (.int (cellAt ns i)) sp (.lst (.int (i + 1) :: rs)))
def sp_next  : Sp3 := wrV P_next
theorem ok_next {k : Nat} (h : Has K mg "_law_next" s_next ["script", "spot"]) (C_cell_at : Cal3 P w K mg base k "_law_cell_at" ["script", "k"] sp_cell_at) : Cal3 P w K mg base (k + 1) "_law_next" ["script", "spot"] sp_next := by
  refine h.wrV sc_next (by rintro ds S q ⟨ns, sp, i, rs, e, _⟩; rw [e]; rfl) fun f cdv A outer s H E ds S q hr ⟨ns, sp, i, rs, e, hS, hi, hq⟩ => ?_
  subst e
  refine ⟨_, (s_cons (s_asg (e_op op_add dn_int (e_ix ix_list dn_ixL (e_v 1) e_int (fun _ _ => rfl)) e_int) (g_sub (e_v 1) e_int))
 (s_one (s_ret (e_call C_cell_at hr rfl (a_cons (e_v 0) (a_cons (e_op op_sub dn_int (e_ix ix_list dn_ixL (e_v 1) e_int (fun _ _ => rfl)) e_int) a_nil)))))), ?_⟩
  decreasing_trivial
  refine ⟨ns, i + 1 - 1, rfl, by omega, sp, _, Sub.refl _, ?_⟩
  have e : i + 1 - 1 = i := by omega
  rw [e]
  exact hq
inductive P_saying (n : Nat) (ds : List D) (S : Hp3) (q : D → Addr → O → Prop) : Prop where
  | mk (ns : List Int) (sp nm ct : Addr) (i b deep : Int) (names ps : List Str) (counts : List Nat) (_ : ds = [.rol (ns.map D.int), .ref sp, .ref nm, .ref ct, .tup (ps.map D.str), .int deep]) (_ : S sp = some (.lst [.int i, .int b])) (_ : S nm = some (.lst (names.map D.str))) (_ : S ct = some (.lst (cD counts))) (_ : sp ≠ nm) (_ : sp ≠ ct) (_ : 0 ≤ i) (_ : 0 ≤ b) (_ : 1 ≤ deep) (_ : deep ≤ n) (_ : 1 ≤ ps.length) (_ : ps.length ≤ 4) (_ : 1 ≤ names.length) (_ : names.Nodup) (_ : names.length = counts.length) (_ : (∀ c ∈ counts, 1 ≤ c ∧ c ≤ 4)) (_ : ∀ (s : Sy) (i2 b2 : Int), s.wf (arOf names counts) ps → (s.deep : Int) ≤ deep → i ≤ i2 → 0 ≤ b2 → (s.sends : Int) + b2 ≤ b → q s.d sp (.lst [.int i2, .int b2]))
def sp_saying (n : Nat) : Sp3 := wrV (P_saying n)
theorem ok_saying (h : Has K mg "_law_saying" s_saying ["script", "spot", "names", "counts", "params", "deep"]) (G : Gs K mg) (C0 : Cal3 P w K mg base 2 "_law_next" ["script", "spot"] sp_next) :
    ∀ n : Nat, Cal3 P w K mg base (n + 3) "_law_saying" ["script", "spot", "names", "counts", "params", "deep"] (sp_saying n)
  | 0 => h.none3 (by rintro ds S Q E ⟨ns, sp, nm, ct, i, b, deep, names, ps, counts, _, _, _, _, _, _, _, _, h1, h2, _⟩; omega) _
  | n + 1 => by
    have C_saying := ok_saying h G C0 n
    have C_next := C0.mono (show 2 ≤ n + 3 by omega)
    refine h.wrV sc_saying (by rintro ds S q ⟨ns, sp, nm, ct, i, b, deep, names, ps, counts, e, _⟩; rw [e]; rfl) fun f cdv A outer s H E ds S q hr hA => ?_
    obtain ⟨ns, sp, nm, ct, i, b, deep, names, ps, counts, rfl, hsp, hnm, hct, n1, n2, hi, hb, d1, dn, p1, p4, m1, nd, hlc, hc4, hq⟩ := hA
    refine ⟨_, (s_cons (s_set (i := 6) sc_saying.nd rfl (Or.inl rfl) (e_call C_next hr rfl (a_cons (e_v 0) (a_cons (e_v 1) a_nil))))
 (s_cons (s_set (i := 7) sc_saying.nd rfl (Or.inl rfl) (e_op op_mod dn_intC (e_v 6) e_int))
 (s_cons (s_if (PW3.pt (w_or (t_cmp op_lt dn_intB (e_v 5) e_int (nomark _)) (w_or1 (t_cmp op_eq dn_eqI (e_v 7) e_int (nomark _))))) (s_one (s_ret (e_tup (a_cons e_str (a_cons (e_ix ix_tup dn_ixT (e_v 4) (e_op op_mod dn_intC (e_op op_fdiv dn_intC (e_v 6) e_int) (e_callB call_len_seq dn_len rfl G.len PySem.boot_len (a_cons (e_v 4) a_nil))) (fun _ _ => rfl)) a_nil))))) s_nil)
 (s_cons (s_if (t_cmp op_eq dn_eqI (e_v 7) e_int (nomark _)) (s_one (s_ret (e_tup (a_cons e_str a_nil)))) s_nil)
 (s_cons (s_if (PW3.pt (w_or (t_cmp op_eq dn_eqI (e_v 7) e_int (nomark _)) (w_or1 (t_cmp op_eq dn_eqI (e_v 7) e_int (nomark _))))) (s_one (s_ret (e_tup (a_cons (e_ix ix_list dn_ixL (e_lst (a_cons e_str (a_cons e_str a_nil))) (e_op op_sub dn_int (e_v 7) e_int) (fun _ _ => rfl)) (a_cons (e_call C_saying hr rfl (a_cons (e_v 0) (a_cons (e_v 1) (a_cons (e_v 2) (a_cons (e_v 3) (a_cons (e_v 4) (a_cons (e_op op_sub dn_int (e_v 5) e_int) a_nil))))))) a_nil))))) s_nil)
 (s_cons (s_set (i := 8) sc_saying.nd rfl (Or.inl rfl) e_int)
 (s_cons (s_if (PW3.pt (w_or (t_cmp op_eq dn_eqI (e_v 7) e_int (nomark _)) (w_or1 (t_cmp op_eq dn_eqI (e_v 7) e_int (nomark _))))) (s_one (s_set (i := 8) sc_saying.nd rfl (Or.inl rfl) e_int)) s_nil)
 (s_cons (s_set (i := 9) sc_saying.nd rfl (Or.inl rfl) (e_op op_mod dn_intC (e_op op_fdiv dn_intC (e_v 6) e_int) (e_callB call_len_seq dn_len rfl G.len PySem.boot_len (a_cons (e_v 2) a_nil))))
 (s_cons (s_if (t_cmp op_gt dn_intB (e_v 7) e_int (nomark _)) (s_cons (s_if (t_cmp op_eq dn_eqI (e_ix ix_list dn_ixL (e_v 1) e_int (fun _ _ => rfl)) e_int (nomark _)) (s_one (s_ret (e_tup (a_cons e_str a_nil)))) s_nil)
 (s_cons (s_asg (e_op op_sub dn_int (e_ix ix_list dn_ixL (e_v 1) e_int (fun _ _ => rfl)) e_int) (g_sub (e_v 1) e_int))
 (s_one (s_set (i := 8) sc_saying.nd rfl (Or.inl rfl) (e_ix ix_list dn_ixL (e_v 3) (e_v 9) (fun _ _ => rfl)))))) s_nil)
 (s_cons (s_set (i := 10) sc_saying.nd rfl (Or.inl rfl) (e_callTy call_tuple_of dn_toTup rfl G.tuple boot_tuple (a_cons (e_comp (osc := defScope s_saying) (N := ["script", "spot", "names", "counts", "params", "deep", "cell", "kind", "parts", "to", "row"]) (M := ["script", "spot", "names", "counts", "params", "deep"]) (js := [0, 1, 2, 3, 4, 5]) ⟨rfl, by decide +kernel, by decide +kernel, rfl, by decide +kernel, by decide +kernel, by decide +kernel⟩ (by decide +kernel) rfl (i_range1 rfl G.range (a_cons (e_v 8) a_nil)) (fun _ _ _ _ _ => (e_call C_saying hr rfl (a_cons (e_v 1) (a_cons (e_v 2) (a_cons (e_v 3) (a_cons (e_v 4) (a_cons (e_v 5) (a_cons (e_op op_sub dn_int (e_v 6) e_int) a_nil))))))))) a_nil)))
 (s_cons (s_if (t_cmp op_eq dn_eqI (e_v 7) e_int (nomark _)) (s_one (s_ret (e_op op_catT dn_catT (e_tup (a_cons e_str a_nil)) (e_v 10)))) s_nil)
 (s_cons (s_if (t_cmp op_lt dn_intB (e_v 7) e_int (nomark _)) (s_one (s_ret (e_op op_catT dn_catT (e_tup (a_cons e_str a_nil)) (e_v 10)))) s_nil)
 (s_one (s_ret (e_tup (a_cons e_str (a_cons (e_ix ix_list dn_ixL (e_v 2) (e_v 9) (fun _ _ => rfl)) (a_cons (e_v 10) a_nil)))))))))))))))))), ?_⟩
    decreasing_trivial
    refine ⟨ns, sp, i, [.int b], rfl, hsp, hi, ?_⟩
    generalize hcell : cellAt ns i = cell
    have k0 := Int.emod_nonneg cell (show (9 : Int) ≠ 0 by decide)
    have k9 := Int.emod_lt_of_pos cell (show (0 : Int) < 9 by decide)
    have sp1 : up S sp (.lst [.int (i + 1), .int b]) sp = some (.lst [.int (i + 1), .int b]) := up_same
    have nm1 : ∀ o, up S sp o nm = some (.lst (names.map D.str)) := fun o => by rw [up_ne (Ne.symm n1)]; exact hnm
    have ct1 : ∀ o, up S sp o ct = some (.lst (cD counts)) := fun o => by rw [up_ne (Ne.symm n2)]; exact hct
    have nm2 := nm1 (.lst [.int (i + 1), .int b])
    have fin : ∀ (s : Sy), s.wf (arOf names counts) ps → (s.deep : Int) ≤ deep → s.sends = 0 → ∃ a o, Sub (up S a o) (up S sp (.lst [.int (i + 1), .int b])) ∧ q s.d a o := fun s h1 h2 h3 =>
      ⟨sp, _, Sub.refl _, hq s (i + 1) b h1 h2 (by omega) hb (by omega)⟩
    obtain ⟨jp, vp, ejp, hvp, hap⟩ := at_modM (f := D.str) (cell / 9) (show 0 < ps.length by omega)
    have hpl : (0 : Int) < ((ps.map D.str).length : Int) := by rw [List.length_map]; omega
    have hnl : (0 : Int) < ((names.map D.str).length : Int) := by rw [List.length_map]; omega
    have vpm : vp ∈ ps := List.mem_of_getElem? hvp
    by_cases hd : deep < 2
    · decreasing_trivial
      refine j_ixT hap ?_
      decreasing_trivial
      exact fin (.name vp) vpm (by simp only [Sy.deep]; omega) (by simp [Sy.sends, Sy.pre])
    by_cases h0 : cell % 9 = 0
    · decreasing_trivial
      refine j_ixT hap ?_
      decreasing_trivial
      exact fin (.name vp) vpm (by simp only [Sy.deep]; omega) (by simp [Sy.sends, Sy.pre])
    by_cases h1 : cell % 9 = 1
    · decreasing_trivial
      exact fin .bud trivial (by simp only [Sy.deep]; omega) (by simp [Sy.sends, Sy.pre])
    by_cases h2 : cell % 9 = 2
    · decreasing_trivial
      intro p hp
      decreasing_trivial
      refine j_ixL up_same (d := .str "left") (by rw [h2]; rfl) ?_
      decreasing_trivial
      refine ⟨ns, sp, nm, ct, i + 1, b, deep - 1, names, ps, counts, rfl, up_get up_same hp, up_get (nm1 _) hp, up_get (ct1 _) hp, n1, n2, by omega, hb, by omega, by omega, p1, p4, m1, nd, hlc, hc4, fun s i2 b2 hw hdp hi2 hb2 hs2 => ?_⟩
      decreasing_trivial
      refine ⟨sp, _, ((Px.refl sp S).at.new hp).at.sub up_same, hq (.left s) i2 b2 hw (by simp only [Sy.deep]; omega) (by omega) hb2 ?_⟩
      rw [Sy.sends_parts]
      simp only [Sy.parts, Sy.sendss_cons]
      simp [Sy.sendss, Sy.pres]
      omega
    by_cases h3 : cell % 9 = 3
    · decreasing_trivial
      intro p hp
      decreasing_trivial
      refine j_ixL up_same (d := .str "right") (by rw [h3]; rfl) ?_
      decreasing_trivial
      refine ⟨ns, sp, nm, ct, i + 1, b, deep - 1, names, ps, counts, rfl, up_get up_same hp, up_get (nm1 _) hp, up_get (ct1 _) hp, n1, n2, by omega, hb, by omega, by omega, p1, p4, m1, nd, hlc, hc4, fun s i2 b2 hw hdp hi2 hb2 hs2 => ?_⟩
      decreasing_trivial
      refine ⟨sp, _, ((Px.refl sp S).at.new hp).at.sub up_same, hq (.right s) i2 b2 hw (by simp only [Sy.deep]; omega) (by omega) hb2 ?_⟩
      rw [Sy.sends_parts]
      simp only [Sy.parts, Sy.sendss_cons]
      simp [Sy.sendss, Sy.pres]
      omega
    obtain ⟨jt, vt, ejt, hvt, hat⟩ := at_modM (f := D.str) (cell / 9) (show 0 < names.length by omega)
    have hct' : jt < counts.length := by rw [← hlc]; exact (List.getElem?_eq_some_iff.mp hvt).1
    obtain ⟨cn, hcn⟩ : ∃ cn, counts[jt]? = some cn := ⟨_, List.getElem?_eq_getElem hct'⟩
    have hcn4 := hc4 cn (List.mem_of_getElem? hcn)
    have har : arOf names counts vt = some cn := arOf_at nd hvt hcn
    have elt : ∀ (d : D) (x6 : Option D) (i0 b0 i1 b1 : Int), 0 ≤ i1 → 0 ≤ b1 → ∀ P : K3,
        (∀ (s : Sy) (i2 b2 : Int), (s.wf (arOf names counts) ps ∧ (s.deep : Int) ≤ deep - 1) → i1 ≤ i2 → 0 ≤ b2 → (s.sends : Int) + b2 ≤ b1 → P s.d (up S sp (.lst [.int i2, .int b2]))) →
        sp_saying n [.rol (ns.map D.int), .ref sp, .ref nm, .ref ct, .tup (ps.map D.str), .int (deep - 1)] (up S sp (.lst [.int i1, .int b1])) P (fun _ _ _ => False) := fun d x6 i0 b0 i1 b1 hi1 hb1 P hP =>
      ⟨ns, sp, nm, ct, i1, b1, deep - 1, names, ps, counts, rfl, up_same, nm1 _, ct1 _, n1, n2, hi1, hb1, by omega, by omega, p1, p4, m1, nd, hlc, hc4, fun s i2 b2 hw hdp hi2 hb2 hs2 => by
        show P s.d (up (up S sp (.lst [.int i1, .int b1])) sp (.lst [.int i2, .int b2]))
        rw [up_up]
        exact hP s i2 b2 ⟨hw, hdp⟩ hi2 hb2 hs2⟩
    have hk : cell % 9 = 4 ∨ (cell % 9 = 5 ∨ cell % 9 = 6) ∨ (cell % 9 = 7 ∨ cell % 9 = 8) := by omega
    rcases hk with h4 | h56 | h78
    · decreasing_trivial
      refine comp_saying (m := 2) (fun s => s.wf (arOf names counts) ps ∧ (s.deep : Int) ≤ deep - 1) (by omega) (fun _ => trivial) (fun d i1 b1 hi1 hb1 P hP => ?_) hb fun ss i2 b2 hl hg hi2 hb2 hs2 => ?_
      · decreasing_trivial
        exact elt d none 0 0 i1 b1 (by omega) hb1 P hP
      · intro p hp
        match ss, hl with
        | [a, c], _ =>
          obtain ⟨wa, da⟩ := hg a (by simp)
          obtain ⟨wc, dc⟩ := hg c (by simp)
          decreasing_trivial
          refine j_catT (by simp) (small_le (by simp)) ?_
          refine ⟨sp, _, ((Px.refl sp S).at.new hp).sub (up_get up_same hp), hq (.pair a c) i2 b2 ⟨wa, wc⟩ (by simp only [Sy.deep]; omega) (by omega) hb2 ?_⟩
          rw [Sy.sends_parts]
          simpa [Sy.parts] using hs2
    · have n4 : ¬ cell % 9 = 4 := by omega
      rcases h56 with h5 | h6
      all_goals
        decreasing_trivial
        refine comp_saying (m := 3) (fun s => s.wf (arOf names counts) ps ∧ (s.deep : Int) ≤ deep - 1) (by omega) (fun _ => trivial) (fun d i1 b1 hi1 hb1 P hP => ?_) hb fun ss i2 b2 hl hg hi2 hb2 hs2 => ?_
        · decreasing_trivial
          exact elt d none 0 0 i1 b1 (by omega) hb1 P hP
        · intro p hp
          match ss, hl with
          | [a, c, e], _ =>
            obtain ⟨wa, da⟩ := hg a (by simp)
            obtain ⟨wc, dc⟩ := hg c (by simp)
            obtain ⟨we, de⟩ := hg e (by simp)
            decreasing_trivial
            refine j_catT (by simp) (small_le (by simp)) ?_
            refine ⟨sp, _, ((Px.refl sp S).at.new hp).sub (up_get up_same hp), hq (.fork a c e) i2 b2 ⟨wa, wc, we⟩ (by simp only [Sy.deep]; omega) (by omega) hb2 ?_⟩
            rw [Sy.sends_parts]
            simpa [Sy.parts] using hs2
    · by_cases hb0 : b = 0
      · rcases h78 with h7 | h8
        all_goals
          decreasing_trivial
          exact fin .bud trivial (by simp only [Sy.deep]; omega) (by simp [Sy.sends, Sy.pre])
      · rcases h78 with h7 | h8
        all_goals
          decreasing_trivial
          have es : ([D.int (i + 1), D.int b].set (Int.toNat 1) (D.int (b - 1))) = [D.int (i + 1), D.int (b - 1)] := rfl
          rw [es, up_up]
          refine j_ixL (ct1 _) (d := .int cn) (by rw [ejt]; refine atI_nat ?_; rw [List.getElem?_map, hcn]; rfl) ?_
          decreasing_trivial
          rw [Int.toNat_natCast]
          refine comp_saying (m := cn) (fun s => s.wf (arOf names counts) ps ∧ (s.deep : Int) ≤ deep - 1) (by omega) (fun _ => trivial) (fun d i1 b1 hi1 hb1 P hP => ?_) (show 0 ≤ b - 1 by omega) fun ss i2 b2 hl hg hi2 hb2 hs2 => ?_
          · decreasing_trivial
            exact elt d none 0 0 i1 b1 (by omega) hb1 P hP
          · intro p hp
            have nm3 := up_get (o := .lst (ss.map Sy.d)) (nm1 (.lst [.int i2, .int b2])) hp
            decreasing_trivial
            refine j_ixL nm3 hat ?_
            decreasing_trivial
            have hdd : Sy.deeps ss ≤ (deep - 1).toNat := Sy.deeps_le fun a ha => by
              have := (hg a ha).2
              omega
            have := hq (.send vt ss) i2 b2 ⟨by rw [hl]; exact har, by omega, by omega, Sy.wfs_iff.mpr fun a ha => (hg a ha).1⟩ (by simp only [Sy.deep]; omega) (by omega) hb2 (by
              rw [Sy.sends_parts]
              simp only [Sy.parts]
              omega)
            rw [Sy.d, Sy.ds_map] at this
            exact ⟨sp, _, ((Px.refl sp S).at.new hp).sub (up_get up_same hp), this⟩
inductive P_drawn (n : Nat) (ds : List D) (S : Hp3) (q : List D → Addr → O → Prop) : Prop where
  | mk (ns : List Int) (sp : Addr) (i b most deep : Int) (_ : ds = [.rol (ns.map D.int), .ref sp, .int most, .int deep]) (_ : S sp = some (.lst [.int i, .int b])) (_ : 0 ≤ i) (_ : 0 ≤ b) (_ : 1 ≤ most) (_ : most ≤ 12) (_ : 1 ≤ deep) (_ : deep ≤ n) (_ : ∀ (prog : List Er) (i2 b2 : Int), Good prog most.toNat deep.toNat b.toNat → q (prog.map Er.d) sp (.lst [.int i2, .int b2]))
def sp_drawn (n : Nat) : Sp3 := wrL (P_drawn n)
theorem ok_drawn {n : Nat} (h : Has K mg "_law_drawn" s_drawn ["script", "spot", "most", "deep"]) (G : Gs K mg) (C0 : Cal3 P w K mg base 2 "_law_next" ["script", "spot"] sp_next) (C1 : Cal3 P w K mg base 1 "_law_names" ["cell", "many"] sp_names)
    (C_saying : Cal3 P w K mg base (n + 3) "_law_saying" ["script", "spot", "names", "counts", "params", "deep"] (sp_saying n)) : Cal3 P w K mg base (n + 4) "_law_drawn" ["script", "spot", "most", "deep"] (sp_drawn n) := by
  have C_next := C0.mono (show 2 ≤ n + 3 by omega)
  have C_names := C1.mono (show 1 ≤ n + 3 by omega)
  refine h.wrL sc_drawn (by rintro ds S q ⟨ns, sp, i, b, most, deep, e, _⟩; rw [e]; rfl) fun f cdv A outer s H E ds S q hr hA => ?_
  obtain ⟨ns, sp, i, b, most, deep, rfl, hsp, hi, hb, m1, m12, d1, dn, hq⟩ := hA
  refine ⟨_, (s_cons (s_set (i := 4) sc_drawn.nd rfl (Or.inr rfl) (e_call C_next hr rfl (a_cons (e_v 0) (a_cons (e_v 1) a_nil))))
 (s_cons (s_set (i := 5) sc_drawn.nd rfl (Or.inl rfl) (e_op op_add dn_int e_int (e_op op_mod dn_intC (e_v 4) (e_v 2))))
 (s_cons (s_set (i := 6) sc_drawn.nd rfl (Or.inl rfl) (e_call C_names hr rfl (a_cons (e_op op_mod dn_intC (e_op op_fdiv dn_intC (e_v 4) (e_v 2)) (e_op op_pow dn_intC e_int e_int)) (a_cons (e_v 5) a_nil))))
 (s_cons (s_set (i := 7) sc_drawn.nd rfl (Or.inl rfl) (e_call C_names hr rfl (a_cons (e_op op_mod dn_intC (e_call C_next hr rfl (a_cons (e_v 0) (a_cons (e_v 1) a_nil))) (e_op op_pow dn_intC e_int e_int)) (a_cons e_int a_nil))))
 (s_cons (s_comp (i := 8) (osc := defScope s_drawn) (N := ["script", "spot", "most", "deep", "head", "many", "names", "params", "counts", "program", "k", "mine"]) (M := ["head"]) (js := [4]) ⟨rfl, by decide +kernel, by decide +kernel, rfl, by decide +kernel, by decide +kernel, by decide +kernel⟩ (by decide +kernel) rfl (i_range1 rfl G.range (a_cons (e_v 5) a_nil)) (fun _ _ _ _ _ => (e_op op_add dn_int e_int (e_op op_mod dn_intC (e_op op_fdiv dn_intC (e_v 1) (e_op op_mul dn_intC e_int (e_op op_add dn_int (e_v 0) e_int))) e_int))) sc_drawn.nd rfl rfl)
 (s_cons (s_set (i := 9) sc_drawn.nd rfl (Or.inl rfl) (e_lst a_nil))
 (s_cons (s_for PassesOwn.never rfl (i_range1 rfl G.range (a_cons (e_v 5) a_nil)) (g_name (i := 10) sc_drawn.nd rfl (Or.inl rfl)) (s_cons (s_set (i := 11) sc_drawn.nd rfl (Or.inl rfl) (e_callTy call_tuple_of dn_toTup rfl G.tuple boot_tuple (a_cons (e_slice sl_list dn_slL (e_op op_cat dn_catL (e_slice sl_list dn_slL (e_v 7) (p_some (e_op op_mod dn_intC (e_v 10) e_int)) p_none) (e_slice sl_list dn_slL (e_v 7) p_none (p_some (e_op op_mod dn_intC (e_v 10) e_int)))) p_none (p_some (e_ix ix_list dn_ixL (e_v 8) (e_v 10) (fun _ _ => rfl)))) a_nil)))
 (s_one (s_expr (e_bm PySem.F.plainAttrs_list PySem.F.slot_list_append PySem.F.type_list_append mt_append dn_append (e_v 9) (a_cons (e_tup (a_cons (e_ix ix_list dn_ixL (e_v 6) (e_v 10) (fun _ _ => rfl)) (a_cons (e_v 11) (a_cons (e_call C_saying hr rfl (a_cons (e_v 0) (a_cons (e_v 1) (a_cons (e_v 6) (a_cons (e_v 8) (a_cons (e_v 11) (a_cons (e_v 3) a_nil))))))) a_nil)))) a_nil))))))
 (s_one (s_ret (e_v 9)))))))))), ?_⟩
  decreasing_trivial
  refine ⟨ns, sp, i, [.int b], rfl, hsp, hi, ?_⟩
  generalize cellAt ns i = head
  have hm0 := Int.emod_nonneg head (show most ≠ 0 by omega)
  have hm1 := Int.emod_lt_of_pos head (show 0 < most by omega)
  have t14 : (0 : Int) < 10 ^ (Int.toNat 14) := by decide
  decreasing_trivial
  refine ⟨_, _, rfl, Int.emod_nonneg _ (by decide), by omega, by omega, fun names Rn => ?_⟩
  intro nm hnm
  have n1 : sp ≠ nm := ne3 up_same hnm
  decreasing_trivial
  refine ⟨ns, sp, i + 1, [.int b], rfl, up_get up_same hnm, by omega, ?_⟩
  generalize cellAt ns (i + 1) = c2
  decreasing_trivial
  refine ⟨_, 4, rfl, Int.emod_nonneg _ (by decide), by omega, by omega, fun pp Rp => ?_⟩
  intro pm hpm
  decreasing_trivial
  generalize hmany : 1 + head % most = many
  have h1m : 1 ≤ many := by omega
  have h12 : many ≤ most := by omega
  obtain ⟨cnt, hcnt⟩ : ∃ cnt : Nat → Nat, ∀ k : Nat, 1 + head / (7 * (0 + (k : Int) + 1)) % 4 = (cnt k : Int) ∧ 1 ≤ cnt k ∧ cnt k ≤ 4 := ⟨fun k => (1 + head / (7 * (0 + (k : Int) + 1)) % 4).toNat, fun k => by
    dsimp only
    generalize head / (7 * (0 + (k : Int) + 1)) = x
    omega⟩
  refine comp_map (fun k => .int (cnt k)) (by rw [nums_len]; omega) trivial ?_ ?_
  · intro j d hd P hP
    obtain ⟨hj, rfl⟩ := nums_at hd
    decreasing_trivial
    rw [(hcnt j).1]
    exact hP
  rw [nums_len]
  obtain ⟨counts, hcounts⟩ : ∃ counts, counts = (List.range many.toNat).map cnt := ⟨_, rfl⟩
  have ecd : ((List.range many.toNat).map fun k => D.int (cnt k : Int)) = cD counts := by rw [hcounts, cD, List.map_map]; rfl
  rw [ecd]
  have hc4 : ∀ c ∈ counts, 1 ≤ c ∧ c ≤ 4 := fun c hc => by
    rw [hcounts] at hc
    obtain ⟨k, _, rfl⟩ := List.mem_map.mp hc
    exact (hcnt k).2
  have hlc : counts.length = many.toNat := by rw [hcounts]; simp
  intro ct hct
  decreasing_trivial
  intro pr hpr
  have hnl := Rn.len
  rw [hmany] at Rn hnl
  have g_sp : up (up (up (up (up (up S sp (.lst [.int (i + 1), .int b])) nm (.lst (names.map D.str))) sp (.lst [.int (i + 1 + 1), .int b])) pm (.lst (pp.map D.str))) ct (.lst (cD counts))) pr (.lst []) sp = some (.lst [.int (i + 1 + 1), .int b]) :=
    up_get (up_get (up_get up_same hpm) hct) hpr
  have g_nm : up (up (up (up (up (up S sp (.lst [.int (i + 1), .int b])) nm (.lst (names.map D.str))) sp (.lst [.int (i + 1 + 1), .int b])) pm (.lst (pp.map D.str))) ct (.lst (cD counts))) pr (.lst []) nm = some (.lst (names.map D.str)) :=
    up_get (up_get (up_get (by rw [up_ne (Ne.symm n1)]; exact up_same) hpm) hct) hpr
  have g_pm : up (up (up (up (up (up S sp (.lst [.int (i + 1), .int b])) nm (.lst (names.map D.str))) sp (.lst [.int (i + 1 + 1), .int b])) pm (.lst (pp.map D.str))) ct (.lst (cD counts))) pr (.lst []) pm = some (.lst (pp.map D.str)) :=
    up_get (up_get up_same hct) hpr
  have g_ct : up (up (up (up (up (up S sp (.lst [.int (i + 1), .int b])) nm (.lst (names.map D.str))) sp (.lst [.int (i + 1 + 1), .int b])) pm (.lst (pp.map D.str))) ct (.lst (cD counts))) pr (.lst []) ct = some (.lst (cD counts)) :=
    up_get up_same hpr
  have g_pr : up (up (up (up (up (up S sp (.lst [.int (i + 1), .int b])) nm (.lst (names.map D.str))) sp (.lst [.int (i + 1 + 1), .int b])) pm (.lst (pp.map D.str))) ct (.lst (cD counts))) pr (.lst []) pr = some (.lst []) := up_same
  have g_px : Px sp S (up (up (up (up (up (up S sp (.lst [.int (i + 1), .int b])) nm (.lst (names.map D.str))) sp (.lst [.int (i + 1 + 1), .int b])) pm (.lst (pp.map D.str))) ct (.lst (cD counts))) pr (.lst [])) :=
    ((((Px.refl sp S).at.new hnm).at.new hpm).new hct).new hpr
  have q_nm : sp ≠ nm := n1
  have q_pm : sp ≠ pm := ne3 up_same hpm
  have q_ct : sp ≠ ct := ne3 (up_get up_same hpm) hct
  have q_pr : sp ≠ pr := ne3 (up_get (up_get up_same hpm) hct) hpr
  have r_nm : nm ≠ pr := ne3 (up_get (up_get (by rw [up_ne (Ne.symm n1)]; exact up_same) hpm) hct) hpr
  have r_pm : pm ≠ pr := ne3 (up_get up_same hct) hpr
  have r_ct : ct ≠ pr := ne3 up_same hpr
  have f_pr : S pr = none := ((((Px.refl sp S).at.new hnm).at.new hpm).new hct).free hpr (Ne.symm q_pr)
  generalize up (up (up (up (up (up S sp (.lst [.int (i + 1), .int b])) nm (.lst (names.map D.str))) sp (.lst [.int (i + 1 + 1), .int b])) pm (.lst (pp.map D.str))) ct (.lst (cD counts))) pr (.lst []) = S6 at *
  decreasing_trivial
  refine ⟨fun j σ S' => Ex5 fun (ers : List Er) (i1 b1 : Int) (x10 x11 : Option D) => σ = [some (.rol (ns.map D.int)), some (.ref sp), some (.int most), some (.int deep), some (.int head), some (.int many), some (.ref nm), some (.ref pm), some (.ref ct), some (.ref pr), x10, x11] ∧
    S' sp = some (.lst [.int i1, .int b1]) ∧ S' nm = some (.lst (names.map D.str)) ∧ S' pm = some (.lst (pp.map D.str)) ∧ S' ct = some (.lst (cD counts)) ∧ S' pr = some (.lst (ers.map Er.d)) ∧ Px sp S S' ∧
    ers.length = j ∧ 0 ≤ i1 ∧ 0 ≤ b1 ∧ ers.map Er.name = names.take j ∧ (ers.map fun e => e.ps.length) = counts.take j ∧ (∀ e ∈ ers, ErOk (arOf names counts) deep.toNat e) ∧ (((ers.map fun e => e.body.sends).sum : Nat) : Int) + b1 ≤ b,
    ⟨[], i + 1 + 1, b, none, none, rfl, g_sp, g_nm, g_pm, g_ct, g_pr, g_px, rfl, by omega, hb, rfl, rfl, by simp, by simp⟩, fun _ _ _ _ => trivial, ?turn, ?done⟩
  case turn =>
    clear g_sp g_nm g_pm g_ct g_pr g_px
    rintro j d σ S' hd ⟨ers, i1, b1, x10, x11, rfl, g_sp, g_nm, g_pm, g_ct, g_pr, g_px, hl, hi1, hb1, en, ec, hk, hs⟩
    obtain ⟨hj, rfl⟩ := nums_at hd
    have c0 := Int.emod_nonneg (0 + (j : Int)) (show (4 : Int) ≠ 0 by decide)
    have ap : ∀ {α : Type} {f : α → D} {xs : List α} {v : α}, xs[j]? = some v → atI (xs.map f) (0 + (j : Int)) = some (f v) := fun {α f xs v} hv => by
      have e : (0 : Int) + (j : Int) = ((j : Nat) : Int) := by omega
      rw [e]
      refine atI_nat ?_
      rw [List.getElem?_map, hv]
      rfl
    obtain ⟨cn, hcn⟩ : ∃ cn, counts[j]? = some cn := ⟨_, List.getElem?_eq_getElem (by omega)⟩
    obtain ⟨nj, hnj⟩ : ∃ nj, names[j]? = some nj := ⟨_, List.getElem?_eq_getElem (by omega)⟩
    have hcn4 := hc4 cn (List.mem_of_getElem? hcn)
    decreasing_trivial
    rw [cutD_from c0]
    intro p1 hp1
    have g1 := up_get (o := .lst ((pp.map D.str).drop ((0 + (j : Int)) % 4).toNat)) g_pm hp1
    decreasing_trivial
    rw [cutD_to c0]
    intro p2 hp2
    have hpl := Rp.len
    refine j_catL (up_get up_same hp2) up_same ?_ ?_
    · rw [List.length_drop, List.length_take, List.length_map]
      exact small_le (by omega)
    intro p3 hp3
    decreasing_trivial
    refine j_ixL (up_get (up_get (up_get g_ct hp1) hp2) hp3) (ap hcn) ?_
    decreasing_trivial
    rw [cutD_to (by omega), Int.toNat_natCast]
    intro p4 hp4
    decreasing_trivial
    obtain ⟨mine, hmine⟩ : ∃ mine, mine = (pp.drop ((0 + (j : Int)) % 4).toNat ++ pp.take ((0 + (j : Int)) % 4).toNat).take cn := ⟨_, rfl⟩
    have em : ((pp.map D.str).drop ((0 + (j : Int)) % 4).toNat ++ (pp.map D.str).take ((0 + (j : Int)) % 4).toNat).take cn = mine.map D.str := by
      rw [hmine, ← List.map_drop, ← List.map_take, ← List.map_append, ← List.map_take]
    rw [em]
    have hmo : mine.length = cn ∧ mine.Nodup ∧ ∀ x ∈ mine, NameOk x := by
      rw [hmine]
      exact ps_ok Rp.turn (by show cn ≤ 4; omega)
    have hsub := ((((Sub.refl S').up (o := .lst ((pp.map D.str).drop ((0 + (j : Int)) % 4).toNat)) hp1).up (o := .lst ((pp.map D.str).take ((0 + (j : Int)) % 4).toNat)) hp2).up
      (o := .lst ((pp.map D.str).drop ((0 + (j : Int)) % 4).toNat ++ (pp.map D.str).take ((0 + (j : Int)) % 4).toNat)) hp3).up (o := .lst (mine.map D.str)) hp4
    generalize up (up (up (up S' p1 _) p2 _) p3 _) p4 _ = S5 at hsub ⊢
    replace g_sp := hsub _ _ g_sp
    replace g_nm := hsub _ _ g_nm
    replace g_pm := hsub _ _ g_pm
    replace g_ct := hsub _ _ g_ct
    replace g_pr := hsub _ _ g_pr
    replace g_px := g_px.ext hsub
    decreasing_trivial
    refine j_ixL g_nm (ap hnj) ?_
    decreasing_trivial
    refine ⟨ns, sp, nm, ct, i1, b1, deep, names, mine, counts, rfl, g_sp, g_nm, g_ct, q_nm, q_ct, hi1, hb1, d1, dn, by omega, by omega, by omega, Rn.nd, by omega, hc4, fun s i2 b2 hw hdp hi2 hb2 hs2 => ?_⟩
    decreasing_trivial
    have h_pr : up S5 sp (.lst [.int i2, .int b2]) pr = some (.lst (ers.map Er.d)) := by rw [up_ne (Ne.symm q_pr)]; exact g_pr
    refine j_append h_pr (by rw [List.length_map]; exact small_lt (by omega)) ?_
    have ee : ers.map Er.d ++ [D.tup [D.str nj, D.tup (mine.map D.str), s.d]] = (ers ++ [(⟨nj, mine, s⟩ : Er)]).map Er.d := by simp [Er.d]
    rw [ee]
    refine ⟨ers ++ [(⟨nj, mine, s⟩ : Er)], i2, b2, _, _, rfl, ?_, ?_, ?_, ?_, up_same, (g_px.at).fresh f_pr, by simp [hl], by omega, hb2, ?_, ?_, ?_, ?_⟩
    · rw [up_ne q_pr]; exact up_same
    · rw [up_ne r_nm, up_ne (Ne.symm q_nm)]; exact g_nm
    · rw [up_ne r_pm, up_ne (Ne.symm q_pm)]; exact g_pm
    · rw [up_ne r_ct, up_ne (Ne.symm q_ct)]; exact g_ct
    · rw [List.take_succ, hnj, List.map_append, en]; rfl
    · rw [List.take_succ, hcn, List.map_append, ec]
      show counts.take j ++ [mine.length] = _
      rw [hmo.1]
      rfl
    · intro e he
      rcases List.mem_append.mp he with he | he
      · exact hk e he
      · rw [List.mem_singleton.mp he]
        exact ⟨by show 1 ≤ mine.length; omega, by show mine.length ≤ 4; omega, hmo.2.1, hmo.2.2, hw, by show s.deep ≤ _; omega⟩
    · rw [List.map_append, List.sum_append]
      simp only [List.map_cons, List.map_nil, List.sum_cons, List.sum_nil]
      omega
  rintro σ S' ⟨ers, i1, b1, x10, x11, rfl, g_sp, g_nm, g_pm, g_ct, g_pr, g_px, hl, hi1, hb1, en, ec, hk, hs⟩
  rw [nums_len] at hl en ec
  rw [List.take_of_length_le (by omega)] at en ec
  decreasing_trivial
  refine ⟨pr, _, sp, _, rfl, f_pr, by rw [hsp]; simp, g_px.sub g_sp, g_pr, hq ers i1 b1 (good_of Rn en ec (by omega) (by omega) hk (by omega))⟩
structure Dp (n : Nat) (s : Sy) : Prop where
  ok : okS s
  deep : s.deep ≤ n + 1
  len : (tx s).length ≤ 8 + 20 * n
  pre : s.pre.length ≤ 1 + 4 * n
inductive P_deep  (ds : List D) (q : D → Prop) : Prop where
  | mk (cell : Int) (n : Nat) (ps : List Str) (x : Str) (_ : ds = [.int cell, .int n, .tup (ps.map D.str), .str x]) (_ : 0 ≤ cell) (_ : n ≤ 20) (_ : 1 ≤ ps.length) (_ : ps.length ≤ 4) (_ : (∀ p ∈ ps, NameOk p)) (_ : NameOk x) (_ : ∀ s : Sy, Dp n s → q s.d)
def sp_deep  : Sp3 := vS P_deep
theorem nm_len {x : Str} (h : NameOk x) : x.cps.toList.length ≤ 8 := (name_wd h).2.l8
theorem dp_name {x : Str} (h : NameOk x) : Dp 0 (.name x) := ⟨h, by simp [Sy.deep], by rw [tx]; have := nm_len h; omega, by simp [Sy.pre]⟩
theorem dp_bud : Dp 0 .bud := ⟨trivial, by simp [Sy.deep], by rw [tx]; simp, by simp [Sy.pre]⟩
theorem Dp.left {n : Nat} {s : Sy} (h : Dp n s) : Dp (n + 1) (.left s) := ⟨h.ok, by have := h.deep; rw [Sy.deep]; omega, by have := h.len; rw [tx, List.length_cons]; omega, by have := h.pre; rw [Sy.pre, List.length_cons]; omega⟩
theorem Dp.right {n : Nat} {s : Sy} (h : Dp n s) : Dp (n + 1) (.right s) := ⟨h.ok, by have := h.deep; rw [Sy.deep]; omega, by have := h.len; rw [tx, List.length_cons]; omega, by have := h.pre; rw [Sy.pre, List.length_cons]; omega⟩
theorem Dp.pair1 {n : Nat} {s : Sy} (h : Dp n s) : Dp (n + 1) (.pair s .bud) := by
  have := h.deep
  have := h.len
  have := h.pre
  refine ⟨⟨h.ok, trivial⟩, ?_, ?_, ?_⟩
  · simp only [Sy.deep]; omega
  · simp only [tx, List.length_cons, List.length_append, List.length_nil]; omega
  · simp only [Sy.pre, List.length_cons, List.length_append, List.length_nil]; omega
theorem Dp.pair2 {n : Nat} {s : Sy} {x : Str} (hx : NameOk x) (h : Dp n s) : Dp (n + 1) (.pair (.name x) s) := by
  have := h.deep
  have := h.len
  have := h.pre
  have := nm_len hx
  refine ⟨⟨hx, h.ok⟩, ?_, ?_, ?_⟩
  · simp only [Sy.deep]; omega
  · simp only [tx, List.length_cons, List.length_append, List.length_nil]; omega
  · simp only [Sy.pre, List.length_cons, List.length_append, List.length_nil]; omega
theorem Dp.fork1 {n : Nat} {s : Sy} (h : Dp n s) : Dp (n + 1) (.fork s .bud .bud) := by
  have := h.deep
  have := h.len
  have := h.pre
  refine ⟨⟨h.ok, trivial, trivial⟩, ?_, ?_, ?_⟩
  · simp only [Sy.deep]; omega
  · simp only [tx, List.length_cons, List.length_append, List.length_nil]; omega
  · simp only [Sy.pre, List.length_cons, List.length_append, List.length_nil]; omega
theorem Dp.fork3 {n : Nat} {s : Sy} {x : Str} (hx : NameOk x) (h : Dp n s) : Dp (n + 1) (.fork .bud (.name x) s) := by
  have := h.deep
  have := h.len
  have := h.pre
  have := nm_len hx
  refine ⟨⟨trivial, hx, h.ok⟩, ?_, ?_, ?_⟩
  · simp only [Sy.deep]; omega
  · simp only [tx, List.length_cons, List.length_append, List.length_nil]; omega
  · simp only [Sy.pre, List.length_cons, List.length_append, List.length_nil]; omega
theorem Dp.send2 {n : Nat} {s : Sy} {x : Str} (hx : NameOk x) (h : Dp n s) : Dp (n + 1) (.send x [s, .bud]) := by
  have := h.deep
  have := h.len
  have := h.pre
  have := nm_len hx
  refine ⟨⟨hx, by simp, by simp, h.ok, trivial, trivial⟩, ?_, ?_, ?_⟩
  · simp only [Sy.deep, Sy.deeps]; omega
  · simp only [tx, txt, List.length_cons, List.length_append, List.length_nil]; omega
  · simp only [Sy.pre, Sy.pres, List.length_cons, List.length_append, List.length_nil]; omega
theorem Dp.send3 {n : Nat} {s : Sy} {x : Str} (hx : NameOk x) (h : Dp n s) : Dp (n + 1) (.send x [.bud, s, .bud]) := by
  have := h.deep
  have := h.len
  have := h.pre
  have := nm_len hx
  refine ⟨⟨hx, by simp, by simp, trivial, h.ok, trivial, trivial⟩, ?_, ?_, ?_⟩
  · simp only [Sy.deep, Sy.deeps]; omega
  · simp only [tx, txt, List.length_cons, List.length_append, List.length_nil]; omega
  · simp only [Sy.pre, Sy.pres, List.length_cons, List.length_append, List.length_nil]; omega
theorem ifm_plain {tc : TT3} {t u : TS3} {D3 : Ends3} {σ : St3} {S : Hp3} (h : ifs3 tc t u D3 σ S) : ifm3 tc t u D3 σ S := h
theorem at_m1 {α : Type} : ∀ {xs : List α}, 1 ≤ xs.length → ∃ x ∈ xs, ∀ f : α → D, atI (xs.map f) (-1) = some (f x) := fun {xs} h => by
  obtain ⟨ys, x, rfl⟩ : ∃ ys x, xs = ys ++ [x] := ⟨xs.dropLast, xs.getLast (by intro z; rw [z] at h; simp at h), (List.dropLast_concat_getLast _).symm⟩
  refine ⟨x, by simp, fun f => ?_⟩
  rw [List.map_append]
  exact atI_last _ _
theorem ok_deep {k : Nat} (h : Has K mg "_law_deep" s_deep ["cell", "steps", "params", "name"]) (G : Gs K mg) : Cal3 P w K mg base (k + 1) "_law_deep" ["cell", "steps", "params", "name"] sp_deep := by
  refine h.val sc_deep (by rintro ds q ⟨_, _, _, _, e, _⟩; rw [e]; rfl) fun f cdv A outer s0 H E ds q hr hA => ?_
  obtain ⟨cell, n, ps, x, rfl, hc0, hn, l1, l4, hps, hx, hq⟩ := hA
  refine ⟨_, (s_cons (s_set (i := 4) sc_deep.nd rfl (Or.inl rfl) (e_tup (a_cons e_str (a_cons (e_ix ix_tup dn_ixT (e_v 2) (e_neg e_int) (fun _ _ => rfl)) a_nil))))
 (s_cons (s_ifm (t_cmp op_eq dn_eqI (e_op op_mod dn_intC (e_v 0) e_int) e_int (nomark _)) (s_one (s_set (i := 4) sc_deep.nd rfl (Or.inl rfl) (e_tup (a_cons e_str a_nil)))) s_nil)
 (s_cons (s_set (i := 5) sc_deep.nd rfl (Or.inl rfl) (e_op op_fdiv dn_intC (e_v 0) e_int))
 (s_cons (s_for PassesOwn.never rfl (i_range1 rfl G.range (a_cons (e_v 1) a_nil)) (g_name (i := 6) sc_deep.nd rfl (Or.inl rfl)) (s_cons (s_set (i := 7) sc_deep.nd rfl (Or.inl rfl) (e_op op_mod dn_intC (e_v 5) e_int))
 (s_cons (s_set (i := 5) sc_deep.nd rfl (Or.inl rfl) (e_op op_fdiv dn_intC (e_v 5) e_int))
 (s_one (s_ifm (t_cmp op_lt dn_intB (e_v 7) e_int (nomark _)) (s_one (s_set (i := 4) sc_deep.nd rfl (Or.inl rfl) (e_tup (a_cons (e_ix ix_list dn_ixL (e_lst (a_cons e_str (a_cons e_str a_nil))) (e_v 7) (fun _ _ => rfl)) (a_cons (e_v 4) a_nil))))) (s_one (s_ifm (t_cmp op_eq dn_eqI (e_v 7) e_int (nomark _)) (s_one (s_set (i := 4) sc_deep.nd rfl (Or.inl rfl) (e_tup (a_cons e_str (a_cons (e_v 4) (a_cons (e_tup (a_cons e_str a_nil)) a_nil)))))) (s_one (s_ifm (t_cmp op_eq dn_eqI (e_v 7) e_int (nomark _)) (s_one (s_set (i := 4) sc_deep.nd rfl (Or.inl rfl) (e_tup (a_cons e_str (a_cons (e_tup (a_cons e_str (a_cons (e_ix ix_tup dn_ixT (e_v 2) e_int (fun _ _ => rfl)) a_nil))) (a_cons (e_v 4) a_nil)))))) (s_one (s_ifm (t_cmp op_eq dn_eqI (e_v 7) e_int (nomark _)) (s_one (s_set (i := 4) sc_deep.nd rfl (Or.inl rfl) (e_tup (a_cons e_str (a_cons (e_v 4) (a_cons (e_tup (a_cons e_str a_nil)) (a_cons (e_tup (a_cons e_str a_nil)) a_nil))))))) (s_one (s_ifm (t_cmp op_eq dn_eqI (e_v 7) e_int (nomark _)) (s_one (s_set (i := 4) sc_deep.nd rfl (Or.inl rfl) (e_tup (a_cons e_str (a_cons (e_tup (a_cons e_str a_nil)) (a_cons (e_tup (a_cons e_str (a_cons (e_ix ix_tup dn_ixT (e_v 2) e_int (fun _ _ => rfl)) a_nil))) (a_cons (e_v 4) a_nil))))))) (s_one (s_set (i := 4) sc_deep.nd rfl (Or.inl rfl) (e_tup (a_cons e_str (a_cons (e_v 3) (a_cons (e_slice sl_tupA dn_slT (e_tup (a_cons (e_tup (a_cons e_str a_nil)) (a_cons (e_v 4) (a_cons (e_tup (a_cons e_str a_nil)) a_nil)))) (p_some (e_op op_sub dn_int e_int (e_op op_mod dn_intC (e_v 5) e_int))) p_none) a_nil)))))))))))))))))))
 (s_one (s_ret (e_v 4))))))), ?_⟩
  obtain ⟨pl, hpl, elast⟩ := at_m1 l1
  have kl := hps pl hpl
  have elast := elast D.str
  obtain ⟨p0, r0, rfl⟩ : ∃ p r, ps = p :: r := List.exists_cons_of_length_pos (by omega)
  have k0 := hps p0 List.mem_cons_self
  decreasing_trivial
  refine j_ixT elast ?_
  decreasing_trivial
  refine j_ifm (fun σ S => ∃ s : Sy, σ = [some (.int cell), some (.int n), some (.tup ((p0 :: r0).map D.str)), some (.str x), some s.d, none, none, none] ∧ Dp 0 s) (fun n' hn' => ?_) ?_
  · decreasing_trivial
    refine iteD2 (fun c => ?_) fun c => ?_
    · decreasing_trivial
      exact hn' _ _ ⟨.bud, rfl, dp_bud⟩
    · decreasing_trivial
      exact hn' _ _ ⟨.name pl, rfl, dp_name kl⟩
  rintro σ S1 ⟨s1, rfl, hs1⟩
  decreasing_trivial
  refine ⟨fun i σ S => Ex4 fun (s : Sy) (left : Int) (x6 x7 : Option D) => σ = [some (.int cell), some (.int n), some (.tup ((p0 :: r0).map D.str)), some (.str x), some s.d, some (.int left), x6, x7] ∧ Dp i s ∧ 0 ≤ left, ⟨s1, _, none, none, rfl, hs1, by omega⟩, fun _ _ _ _ => trivial, ?_, ?_⟩
  · rintro i d σ S hd ⟨s, left, x6, x7, rfl, hs, hl0⟩
    obtain ⟨hi, rfl⟩ := nums_at hd
    have e0 := Int.emod_nonneg left (show (7 : Int) ≠ 0 by decide)
    have e7 := Int.emod_lt_of_pos left (show (0 : Int) < 7 by decide)
    have hl7 : 0 ≤ left / 7 := Int.ediv_nonneg hl0 (by decide)
    have b0 := Int.emod_nonneg (left / 7) (show (2 : Int) ≠ 0 by decide)
    have b1 := Int.emod_lt_of_pos (left / 7) (show (0 : Int) < 2 by decide)
    decreasing_trivial
    rcases (by omega : left % 7 = 0 ∨ left % 7 = 1 ∨ left % 7 = 2 ∨ left % 7 = 3 ∨ left % 7 = 4 ∨ left % 7 = 5 ∨ left % 7 = 6) with c | c | c | c | c | c | c
    · refine ifm_plain ?_
      decreasing_trivial
      intro p hp
      decreasing_trivial
      refine j_ixL up_same (d := .str "left") (by rw [c]; rfl) ?_
      decreasing_trivial
      exact ⟨.left s, _, _, _, rfl, hs.left, hl7⟩
    · refine ifm_plain ?_
      decreasing_trivial
      intro p hp
      decreasing_trivial
      refine j_ixL up_same (d := .str "right") (by rw [c]; rfl) ?_
      decreasing_trivial
      exact ⟨.right s, _, _, _, rfl, hs.right, hl7⟩
    · repeat (refine ifm_plain ?_; decreasing_trivial)
      exact ⟨.pair s .bud, _, _, _, rfl, hs.pair1, hl7⟩
    · repeat (refine ifm_plain ?_; decreasing_trivial)
      exact ⟨.pair (.name p0) s, _, _, _, rfl, hs.pair2 k0, hl7⟩
    · repeat (refine ifm_plain ?_; decreasing_trivial)
      exact ⟨.fork s .bud .bud, _, _, _, rfl, hs.fork1, hl7⟩
    · repeat (refine ifm_plain ?_; decreasing_trivial)
      exact ⟨.fork .bud (.name p0) s, _, _, _, rfl, hs.fork3 k0, hl7⟩
    · repeat (refine ifm_plain ?_; decreasing_trivial)
      rw [cutD_from (by omega)]
      rcases (by omega : left / 7 % 2 = 0 ∨ left / 7 % 2 = 1) with cb | cb
      · rw [cb]
        exact ⟨.send x [s, .bud], _, _, _, rfl, hs.send2 hx, hl7⟩
      · rw [cb]
        exact ⟨.send x [.bud, s, .bud], _, _, _, rfl, hs.send3 hx, hl7⟩
  rintro σ S ⟨s, left, x6, x7, rfl, hs, hl0⟩
  rw [nums_len, Int.toNat_natCast] at hs
  decreasing_trivial
  exact hq s hs
inductive P_there_and_back  (ds : List D) (q : D → Prop) : Prop where
  | mk (e : Er) (_ : ds = [e.d]) (_ : LnOk e) (_ : e.body.pre.length ≤ 10000) (_ : q (.bl true))
def sp_there_and_back  : Sp3 := vS P_there_and_back
theorem ok_there_and_back {k : Nat} (hk : 13 ≤ k) (h : Has K mg "_law_there_and_back" s_there_and_back ["errand"]) (G : Gs K mg) (C_shown_line : Cal3 P w K mg base k "shown_line" ["errand"] sp_shown_line) (C_read_line : Cal3 P w K mg base k "read_line" ["text"] sp_read_line)
    (C0 : Cal3 P w K mg base 12 "_law_text" ["saying"] (sp_text 12)) (C_is_errand : Cal3 P w K mg base k "_law_is_errand" ["found"] sp_is_errand) : Cal3 P w K mg base (k + 1) "_law_there_and_back" ["errand"] sp_there_and_back := by
  have C_text := C0.mono (show 12 ≤ k by omega)
  refine h.val sc_there_and_back (by rintro ds q ⟨t, e, _⟩; rw [e]; rfl) fun f cdv A outer s0 H E ds q hr hA => ?_
  obtain ⟨e, rfl, he, hpre, hq⟩ := hA
  refine ⟨_, (s_cons (s_set (i := 1) sc_there_and_back.nd rfl (Or.inl rfl) (e_call C_shown_line hr rfl (a_cons (e_v 0) a_nil)))
 (s_cons (s_set (i := 2) sc_there_and_back.nd rfl (Or.inl rfl) (e_op op_add_str dn_addS (e_op op_add_str dn_addS (e_bm PySem.F.plainAttrs_str PySem.F.slot_str_join PySem.F.type_str_join mt_str_join dn_join e_str (a_cons (e_op op_cat dn_catL (e_lst (a_cons (e_ix ix_tup dn_ixT (e_v 0) e_int (fun _ _ => rfl)) a_nil)) (e_callTy call_list_of dn_toList rfl G.list boot_list (a_cons (e_ix ix_tup dn_ixT (e_v 0) e_int (fun _ _ => rfl)) a_nil))) a_nil)) e_str) (e_call C_text hr rfl (a_cons (e_ix ix_tup dn_ixT (e_v 0) e_int (fun _ _ => rfl)) a_nil))))
 (s_cons (s_if (PW3.pt (w_or (t_not (t_val (e_callB call_isB dn_isB rfl G.isinstance boot_isinstance (a_cons (e_v 1) (a_cons (e_bltn (n := "str") rfl G.str boot_str) a_nil))))) (w_or1 (t_cmp op_ne dn_neS (e_v 1) (e_v 2) (nomark _))))) (s_one (s_ret e_bl)) s_nil)
 (s_cons (s_set (i := 3) sc_there_and_back.nd rfl (Or.inl rfl) (e_call C_read_line hr rfl (a_cons (e_v 1) a_nil)))
 (s_one (s_ret (e_and (e_call C_is_errand hr rfl (a_cons (e_v 3) a_nil)) (e_one (e_cmp (op_eq_deep (hu_deep hr)) dn_eqD (e_v 3) (e_v 0) (nomark _)))))))))), ?_⟩
  decreasing_trivial
  refine ⟨e, rfl, he, hpre, ?_⟩
  have hlen := he.len
  have hl4 := he.l4
  have hhl : (headT e).length ≤ 100000 := by unfold lineT at hlen; rw [List.length_append] at hlen; omega
  have hbl : (tx e.body).length ≤ 100000 := by unfold lineT at hlen; rw [List.length_append, List.length_cons, List.length_cons] at hlen; omega
  have hgl := glue_len (e.ps.map fun p => p.cps.toList) e.name.cps.toList
  have h32 : (textOf [32]).length = 1 := by rw [len_text]; rfl
  have hed : e.d = .tup [.str e.name, .tup (e.ps.map D.str), e.body.d] := rfl
  rw [hed]
  decreasing_trivial
  intro p1 hp1
  have a1 : up emp p1 (.lst [.str e.name]) p1 = some (.lst [.str e.name]) := up_same
  generalize up emp p1 (.lst [.str e.name]) = S1 at a1 ⊢
  decreasing_trivial
  intro p2 hp2
  have a2 := up_get (o := .lst (e.ps.map D.str)) a1 hp2
  have a3 : up S1 p2 (.lst (e.ps.map D.str)) p2 = some (.lst (e.ps.map D.str)) := up_same
  generalize up S1 p2 (.lst (e.ps.map D.str)) = S2 at a2 a3 ⊢
  refine j_catL a2 a3 (small_le (by rw [List.length_map]; simp only [List.length_cons, List.length_nil]; omega)) ?_
  have ec : [D.str e.name] ++ e.ps.map D.str = ((e.name.cps.toList :: e.ps.map fun p => p.cps.toList).map textOf).map D.str := by rw [he.words]; rfl
  rw [ec]
  intro p3 hp3
  refine ⟨textOf [32], _, _, congrArg D.str t_32.symm, rfl, .inl ⟨p3, rfl, up_same⟩, ?_, ?_⟩
  · rw [sum_texts, h32]
    unfold headT at hhl
    simp only [List.length_map, List.length_cons] at hgl ⊢
    omega
  rw [join_glue]
  decreasing_trivial
  refine j_addS (Nat.le_trans (show (textOf (glue 32 e.name.cps.toList (e.ps.map fun p => p.cps.toList))).length + (": " : Str).length ≤ 200000 by rw [← t_58, len_text, len_text]; unfold headT at hhl; simp only [List.length_cons, List.length_nil]; omega) (by decide)) ?_
  decreasing_trivial
  refine ⟨e.body, rfl, he.ok, he.deep, hbl, ?_⟩
  rw [← t_58, text_app]
  refine j_addS (Nat.le_trans (show _ + _ ≤ 400000 by rw [len_text, len_text, List.length_append]; unfold headT at hhl; simp only [List.length_cons, List.length_nil]; omega) (by decide)) ?_
  rw [text_app]
  have el : glue 32 e.name.cps.toList (e.ps.map fun p => p.cps.toList) ++ [58, 32] ++ tx e.body = lineT e := by unfold lineT headT; simp
  rw [el]
  decreasing_trivial
  refine ⟨e, rfl, he, ?_⟩
  decreasing_trivial
  refine ⟨e, rfl, he, ?_⟩
  decreasing_trivial
  exact eq_pure (Er.d_pure e) (Nat.le_trans (Er.d_deep e) (by have := he.deep; omega)) hq
theorem arOf_has : ∀ {xs : List Str} {ns : List Nat} {x : Str} {n : Nat}, arOf xs ns x = some n → x ∈ xs
  | [], _, _, _, h => by simp [arOf] at h
  | _ :: _, [], _, _, h => by simp [arOf] at h
  | y :: xs, m :: ns, x, n, h => by
    rw [arOf] at h
    by_cases c : x = y
    · rw [c]; exact List.mem_cons_self
    · rw [if_neg c] at h; exact List.mem_cons_of_mem _ (arOf_has h)
mutual
theorem okS_of {ar : Str → Option Nat} {ps : List Str} (ha : ∀ x n, ar x = some n → NameOk x) (hp : ∀ p ∈ ps, NameOk p) : ∀ s : Sy, s.wf ar ps → okS s
  | .name x, h => hp x h
  | .bud, _ => trivial
  | .left a, h => okS_of ha hp a h
  | .right a, h => okS_of ha hp a h
  | .pair a b, h => ⟨okS_of ha hp a h.1, okS_of ha hp b h.2⟩
  | .fork a b c, h => ⟨okS_of ha hp a h.1, okS_of ha hp b h.2.1, okS_of ha hp c h.2.2⟩
  | .send x as, h => ⟨ha x _ h.1, h.2.1, h.2.2.1, okSs_of ha hp as h.2.2.2⟩
theorem okSs_of {ar : Str → Option Nat} {ps : List Str} (ha : ∀ x n, ar x = some n → NameOk x) (hp : ∀ p ∈ ps, NameOk p) : ∀ as : List Sy, Sy.wfs ar ps as → okSs as
  | [], _ => trivial
  | a :: as, h => ⟨okS_of ha hp a h.1, okSs_of ha hp as h.2⟩
end
noncomputable def Bt : Nat → Nat
  | 0 => 0
  | n + 1 => 4 * Bt n + 13
noncomputable def Bp : Nat → Nat
  | 0 => 0
  | n + 1 => 4 * Bp n + 1
theorem txt_le {b : Nat} : ∀ {as : List Sy}, (∀ a ∈ as, (tx a).length ≤ b) → (txt as).length ≤ as.length * (b + 1)
  | [], _ => by simp [txt]
  | a :: as, h => by
    have h1 := h a List.mem_cons_self
    have h2 := txt_le fun x hx => h x (List.mem_cons_of_mem _ hx)
    rw [txt, List.length_cons, List.length_append, List.length_cons, Nat.succ_mul]
    omega
theorem pres_le {b : Nat} : ∀ {as : List Sy}, (∀ a ∈ as, a.pre.length ≤ b) → (Sy.pres as).length ≤ as.length * b
  | [], _ => by simp [Sy.pres]
  | a :: as, h => by
    have h1 := h a List.mem_cons_self
    have h2 := pres_le fun x hx => h x (List.mem_cons_of_mem _ hx)
    rw [Sy.pres, List.length_append, List.length_cons, Nat.succ_mul]
    omega
theorem tx_len : ∀ (n : Nat) (s : Sy), okS s → s.deep ≤ n → (tx s).length ≤ Bt n ∧ s.pre.length ≤ Bp n
  | 0, s, _, hd => by cases s <;> simp [Sy.deep] at hd
  | n + 1, .name x, h, _ => by
    have := nm_len h
    rw [tx, Bt, Bp, Sy.pre, List.length_cons, List.length_nil]
    omega
  | n + 1, .bud, _, _ => by rw [tx, Bt, Bp]; simp [Sy.pre]
  | n + 1, .left a, h, hd => by
    rw [Sy.deep] at hd
    have := tx_len n a h (by omega)
    rw [tx, Sy.pre, Bt, Bp]
    simp only [List.length_cons]
    omega
  | n + 1, .right a, h, hd => by
    rw [Sy.deep] at hd
    have := tx_len n a h (by omega)
    rw [tx, Sy.pre, Bt, Bp]
    simp only [List.length_cons]
    omega
  | n + 1, .pair a b, h, hd => by
    rw [Sy.deep] at hd
    have := tx_len n a h.1 (by omega)
    have := tx_len n b h.2 (by omega)
    rw [tx, Sy.pre, Bt, Bp]
    simp only [List.length_cons, List.length_append, List.length_nil]
    omega
  | n + 1, .fork a b c, h, hd => by
    rw [Sy.deep] at hd
    have := tx_len n a h.1 (by omega)
    have := tx_len n b h.2.1 (by omega)
    have := tx_len n c h.2.2 (by omega)
    rw [tx, Sy.pre, Bt, Bp]
    simp only [List.length_cons, List.length_append, List.length_nil]
    omega
  | n + 1, .send x as, h, hd => by
    obtain ⟨hx, l1, l4, hs⟩ := h
    rw [Sy.deep] at hd
    have hm : ∀ a ∈ as, (tx a).length ≤ Bt n ∧ a.pre.length ≤ Bp n := fun a ha => tx_len n a (okSs_mem hs a ha) (by have := deeps_mem ha; omega)
    have h2 := pres_le fun a ha => (hm a ha).2
    have h3 := Nat.mul_le_mul_right (Bp n) l4
    have := nm_len hx
    cases as with
    | nil => simp at l1
    | cons a as =>
      have h4 := (hm a List.mem_cons_self).1
      have h5 := txt_le fun b hb => (hm b (List.mem_cons_of_mem _ hb)).1
      rw [List.length_cons] at l4
      have h6 := Nat.mul_le_mul_right (Bt n + 1) (show as.length ≤ 3 by omega)
      rw [tx, Sy.pre, Bt, Bp]
      simp only [List.length_cons, List.length_append, List.length_nil] at h2 h3 ⊢
      omega
theorem glue_le {b : Nat} : ∀ (ws : List (List Nat)) (w : List Nat), (∀ v ∈ w :: ws, v.length ≤ b) → (glue 32 w ws).length ≤ (ws.length + 1) * (b + 1)
  | [], w, h => by
    have := h w List.mem_cons_self
    simp only [glue, List.length_nil]
    omega
  | v :: ws, w, h => by
    have h1 := h w List.mem_cons_self
    have h2 := glue_le ws v fun u hu => h u (List.mem_cons_of_mem _ hu)
    rw [glue, List.length_append, List.length_cons, List.length_cons, Nat.succ_mul (ws.length + 1)]
    omega
structure Le (e : Er) : Prop where
  ok : LnOk e
  pre : e.body.pre.length ≤ 10000
theorem le_mk {x : Str} {ps : List Str} {s : Sy} (hx : NameOk x) (hp : ∀ p ∈ ps, NameOk p) (l1 : 1 ≤ ps.length) (l4 : ps.length ≤ 4) (ok : okS s) (hd : s.deep ≤ 12) (hl : (tx s).length ≤ 50000) (hpre : s.pre.length ≤ 10000) : Le ⟨x, ps, s⟩ := by
  refine ⟨⟨hx, hp, l1, l4, ok, hd, ?_⟩, hpre⟩
  have h1 := glue_le (b := 8) (ps.map fun p => p.cps.toList) x.cps.toList fun v hv => by
    rcases List.mem_cons.mp hv with rfl | hv
    · exact nm_len hx
    · obtain ⟨p, h, rfl⟩ := List.mem_map.mp hv
      exact nm_len (hp p h)
  rw [List.length_map] at h1
  have h2 := Nat.mul_le_mul_right (8 + 1) (show ps.length + 1 ≤ 5 by omega)
  simp only [lineT, headT, List.length_append, List.length_cons]
  omega
theorem Good.le {prog : List Er} {m b : Nat} (h : Good prog m 6 b) : ∀ e ∈ prog, Le e := fun e he => by
  obtain ⟨hw, hd⟩ := h.wf e he
  obtain ⟨p1, p4, _, pk⟩ := h.ps e he
  have ok : okS e.body := okS_of (fun x n hn => by
    obtain ⟨e2, he2, rfl⟩ := List.mem_map.mp (arOf_has hn)
    exact h.nm e2 he2) pk _ hw
  obtain ⟨t1, t2⟩ := tx_len 6 _ ok hd
  have e1 : Bt 6 = 17745 := by decide
  have e2 : Bp 6 = 1365 := by decide
  exact le_mk (h.nm e he) pk p1 p4 ok (by omega) (by omega) (by omega)
theorem ok_law {f : Addr} {fd : FuncData} (F : Fun K "law" "law" s_law f fd) (G : Gs K mg) (C_cell_at : Cal3 P w K mg base 99 "_law_cell_at" ["script", "k"] sp_cell_at) (C_drawn : Cal3 P w K mg base 99 "_law_drawn" ["script", "spot", "most", "deep"] (sp_drawn 6)) (C_deep : Cal3 P w K mg base 99 "_law_deep" ["cell", "steps", "params", "name"] sp_deep)
    (C_there_and_back : Cal3 P w K mg base 99 "_law_there_and_back" ["errand"] sp_there_and_back) : FnOk P w K mg base (CX1 P w) 100 f fd ["script"] (lSp K lawS) := by
  refine law_fn F sc_law fun cdv A outer s H E ns hr h63 => ?_
  refine ⟨_, (s_cons (s_set (i := 1) sc_law.nd rfl (Or.inl rfl) (e_lst (a_cons e_int (a_cons e_int a_nil))))
 (s_cons (s_set (i := 2) sc_law.nd rfl (Or.inl rfl) (e_call C_drawn hr rfl (a_cons (e_v 0) (a_cons (e_v 1) (a_cons e_int (a_cons e_int a_nil))))))
 (s_cons (s_ifm (t_cmp op_eq dn_eqI (e_op op_mod dn_intC (e_call C_cell_at hr rfl (a_cons (e_v 0) (a_cons e_int a_nil))) e_int) e_int (nomark _)) (s_cons (s_set (i := 3) sc_law.nd rfl (Or.inl rfl) (e_ix ix_list dn_ixL (e_v 2) e_int (fun _ _ => rfl)))
 (s_cons (s_set (i := 4) sc_law.nd rfl (Or.inl rfl) (e_op op_mod dn_intC (e_call C_cell_at hr rfl (a_cons (e_v 0) (a_cons e_int a_nil))) (e_op op_pow dn_intC e_int e_int)))
 (s_one (s_asg (e_tup (a_cons (e_ix ix_tup dn_ixT (e_v 3) e_int (fun _ _ => rfl)) (a_cons (e_ix ix_tup dn_ixT (e_v 3) e_int (fun _ _ => rfl)) (a_cons (e_call C_deep hr rfl (a_cons (e_v 4) (a_cons e_int (a_cons (e_ix ix_tup dn_ixT (e_v 3) e_int (fun _ _ => rfl)) (a_cons (e_ix ix_tup dn_ixT (e_v 3) e_int (fun _ _ => rfl)) a_nil))))) a_nil)))) (g_sub (e_v 2) e_int))))) s_nil)
 (s_cons (s_for PassesOwn.never rfl (i_list (e_v 2)) (g_name (i := 5) sc_law.nd rfl (Or.inl rfl)) (s_one (s_ifm (t_not (t_val (e_call C_there_and_back hr rfl (a_cons (e_v 5) a_nil)))) (s_one (s_ret e_bl)) s_nil)))
 (s_one (s_ret (e_call C_there_and_back hr rfl (a_cons (e_ix ix_list dn_ixL (e_v 2) e_int (fun _ _ => rfl)) a_nil)))))))), ?_⟩
  have cell : ∀ {k : Int} {S : Hp3} {Q : K3} {W : X3}, 0 ≤ k → Q (.int (cellAt ns k)) S → sp_cell_at [.rol (ns.map D.int), .int k] S Q W := fun h0 q => ⟨ns, _, rfl, h0, q⟩
  decreasing_trivial
  intro sp hsp
  decreasing_trivial
  refine ⟨ns, sp, 2, 12, 3, 6, rfl, up_same, by decide, by decide, by decide, by decide, by decide, by decide, fun prog i2 b2 hg => ?_⟩
  intro pr hpr
  generalize hS1 : up _ pr (.lst (prog.map Er.d)) = S1
  have h1 : S1 pr = some (.lst (prog.map Er.d)) := by rw [← hS1]; exact up_same
  clear hS1
  have hl := Good.le hg
  have hlen := hg.len
  have hlen1 := hg.len1
  have e3 : Int.toNat 3 = 3 := rfl
  rw [e3] at hlen
  decreasing_trivial
  refine j_ifm (fun σ S => Ex3 fun (prog : List Er) (x3 x4 : Option D) => σ = [some (.rol (ns.map D.int)), some (.ref sp), some (.ref pr), x3, x4, none] ∧ S pr = some (.lst (prog.map Er.d)) ∧ (∀ e ∈ prog, Le e) ∧ 1 ≤ prog.length ∧ prog.length ≤ 3) (fun n' hn' => ?_) ?_
  · decreasing_trivial
    refine cell (by decide) ?_
    decreasing_trivial
    refine iteD2 (fun c => ?_) fun c => ?_
    · match prog, hlen1 with
      | e :: r, _ =>
      have he := hl e List.mem_cons_self
      have hed : e.d = .tup [.str e.name, .tup (e.ps.map D.str), e.body.d] := rfl
      have h1 : S1 pr = some (.lst (e.d :: r.map Er.d)) := h1
      decreasing_trivial
      rw [hed]
      decreasing_trivial
      refine cell (by decide) ?_
      decreasing_trivial
      have t14 : (0 : Int) < 10 ^ (Int.toNat 14) := by decide
      refine ⟨_, 11, e.ps, e.name, rfl, Int.emod_nonneg _ (by decide), by decide, he.ok.l1, he.ok.l4, he.ok.ps, he.ok.nm, fun s hs => ?_⟩
      decreasing_trivial
      have h2 : Le ⟨e.name, e.ps, s⟩ := le_mk he.ok.nm he.ok.ps he.ok.l1 he.ok.l4 hs.ok (by have := hs.deep; omega) (by have := hs.len; omega) (by have := hs.pre; omega)
      refine hn' _ _ ⟨⟨e.name, e.ps, s⟩ :: r, _, _, rfl, up_same, fun x hx => ?_, by simp, by simpa using hlen⟩
      rcases List.mem_cons.mp hx with rfl | hx
      · exact h2
      · exact hl x (List.mem_cons_of_mem _ hx)
    · decreasing_trivial
      exact hn' _ _ ⟨prog, none, none, rfl, h1, hl, hlen1, hlen⟩
  clear h1 hl hlen hlen1
  rintro σ S2 ⟨prog, x3, x4, rfl, h1, hl, hlen1, hlen⟩
  decreasing_trivial
  refine ⟨fun j σ S => ∃ x5, σ = [some (.rol (ns.map D.int)), some (.ref sp), some (.ref pr), x3, x4, x5] ∧ S = S2, ⟨none, rfl, rfl⟩, fun _ _ _ ⟨_, _, z⟩ => by rw [z]; exact h1, ?_, ?_⟩
  · rintro j d σ S hd ⟨x5, rfl, rfl⟩
    rw [List.getElem?_map] at hd
    obtain ⟨e, he, rfl⟩ := Option.map_eq_some_iff.mp hd
    have he := hl e (List.mem_of_getElem? he)
    decreasing_trivial
    refine ifm_plain ?_
    decreasing_trivial
    refine ⟨e, rfl, he.ok, he.pre, ?_⟩
    decreasing_trivial
    exact ⟨_, rfl, rfl⟩
  rintro σ S ⟨x5, rfl, rfl⟩
  match prog, hlen1 with
  | e :: r, _ =>
  have he := hl e List.mem_cons_self
  decreasing_trivial
  exact ⟨e, rfl, he.ok, he.pre, rfl⟩
end
theorem all_mk {l : PySem.W.OpenLaw} {w : World} {K : PySem.W.Frag} {h : Heap} {mg : Str → Option Value} {fa f_shown_line f_shown_saying f_pieces f_row_pieces f_read_line f_refuse_unfit_name f_is_letter f_refuse_unfit_count f_cell_at f_names f_next f_saying f_drawn f_text f_is_saying f_is_errand f_deep f_there_and_back f_R_init f_R_sign_here f_R_read_saying f_R_read_named f_R_read_word f_R_read_row f_R_refuse_rest f_law : Addr}
    (X : K.In h) (G : h.Ns mainGlobals mg) (hfa : mg "law" = some (.ref fa))
    {od_shown_line an_shown_line od_shown_saying an_shown_saying od_pieces an_pieces od_row_pieces an_row_pieces od_read_line an_read_line od_refuse_unfit_name an_refuse_unfit_name od_is_letter an_is_letter od_refuse_unfit_count an_refuse_unfit_count od_cell_at an_cell_at od_names an_names od_next an_next od_saying an_saying od_drawn an_drawn od_text an_text od_is_saying an_is_saying od_is_errand an_is_errand od_deep an_deep od_there_and_back an_there_and_back od_R_init an_R_init od_R_sign_here an_R_sign_here od_R_read_saying an_R_read_saying od_R_read_named an_R_read_named od_R_read_word an_R_read_word od_R_read_row an_R_read_row od_R_refuse_rest an_R_refuse_rest od_law an_law : Option Addr}
    {sl_shown_line sl_shown_saying sl_pieces sl_row_pieces sl_read_line sl_refuse_unfit_name sl_is_letter sl_refuse_unfit_count sl_cell_at sl_names sl_next sl_saying sl_drawn sl_text sl_is_saying sl_is_errand sl_deep sl_there_and_back sl_R_init sl_R_sign_here sl_R_read_saying sl_R_read_named sl_R_read_word sl_R_read_row sl_R_refuse_rest sl_law : Array (Option Value)}
    {oc_shown_line kV_shown_line dc_shown_line pm_shown_line cd_shown_line ct_shown_line oc_shown_saying kV_shown_saying dc_shown_saying pm_shown_saying cd_shown_saying ct_shown_saying oc_pieces kV_pieces dc_pieces pm_pieces cd_pieces ct_pieces oc_row_pieces kV_row_pieces dc_row_pieces pm_row_pieces cd_row_pieces ct_row_pieces oc_read_line kV_read_line dc_read_line pm_read_line cd_read_line ct_read_line oc_refuse_unfit_name kV_refuse_unfit_name dc_refuse_unfit_name pm_refuse_unfit_name cd_refuse_unfit_name ct_refuse_unfit_name oc_is_letter kV_is_letter dc_is_letter pm_is_letter cd_is_letter ct_is_letter oc_refuse_unfit_count kV_refuse_unfit_count dc_refuse_unfit_count pm_refuse_unfit_count cd_refuse_unfit_count ct_refuse_unfit_count oc_cell_at kV_cell_at dc_cell_at pm_cell_at cd_cell_at ct_cell_at oc_names kV_names dc_names pm_names cd_names ct_names oc_next kV_next dc_next pm_next cd_next ct_next oc_saying kV_saying dc_saying pm_saying cd_saying ct_saying oc_drawn kV_drawn dc_drawn pm_drawn cd_drawn ct_drawn oc_text kV_text dc_text pm_text cd_text ct_text oc_is_saying kV_is_saying dc_is_saying pm_is_saying cd_is_saying ct_is_saying oc_is_errand kV_is_errand dc_is_errand pm_is_errand cd_is_errand ct_is_errand oc_deep kV_deep dc_deep pm_deep cd_deep ct_deep oc_there_and_back kV_there_and_back dc_there_and_back pm_there_and_back cd_there_and_back ct_there_and_back oc_R_init kV_R_init dc_R_init pm_R_init cd_R_init ct_R_init oc_R_sign_here kV_R_sign_here dc_R_sign_here pm_R_sign_here cd_R_sign_here ct_R_sign_here oc_R_read_saying kV_R_read_saying dc_R_read_saying pm_R_read_saying cd_R_read_saying ct_R_read_saying oc_R_read_named kV_R_read_named dc_R_read_named pm_R_read_named cd_R_read_named ct_R_read_named oc_R_read_word kV_R_read_word dc_R_read_word pm_R_read_word cd_R_read_word ct_R_read_word oc_R_read_row kV_R_read_row dc_R_read_row pm_R_read_row cd_R_read_row ct_R_read_row oc_R_refuse_rest kV_R_refuse_rest dc_R_refuse_rest pm_R_refuse_rest cd_R_refuse_rest ct_R_refuse_rest oc_law kV_law dc_law pm_law cd_law ct_law : Value}
    {tk_MOST_LETTERS tk_MOST_IN_ROW tk_MOST_DEEP : Tok}
    {CR : Addr}
    (aC : PySem.W.nsIn K mainGlobals "SayingReader" = some (some (.ref CR)))
    (a_shown_line : PySem.W.nsIn K mainGlobals "shown_line" = some (some (.ref f_shown_line)))
    (l_shown_line : K.lookup f_shown_line = some ⟨oc_shown_line, od_shown_line, .func (PySem.W.fnOf "shown_line" "shown_line" (defArgs s_shown_line) (defBody s_shown_line) (defScope s_shown_line) .none kV_shown_line dc_shown_line pm_shown_line an_shown_line cd_shown_line ct_shown_line), sl_shown_line⟩)
    (c_shown_line : PySem.W.codeIn K cd_shown_line "shown_line" = true) (k_shown_line : PySem.W.keepIn K (.ref f_shown_line) = true)
    (a_shown_saying : PySem.W.nsIn K mainGlobals "shown_saying" = some (some (.ref f_shown_saying)))
    (l_shown_saying : K.lookup f_shown_saying = some ⟨oc_shown_saying, od_shown_saying, .func (PySem.W.fnOf "shown_saying" "shown_saying" (defArgs s_shown_saying) (defBody s_shown_saying) (defScope s_shown_saying) .none kV_shown_saying dc_shown_saying pm_shown_saying an_shown_saying cd_shown_saying ct_shown_saying), sl_shown_saying⟩)
    (c_shown_saying : PySem.W.codeIn K cd_shown_saying "shown_saying" = true) (k_shown_saying : PySem.W.keepIn K (.ref f_shown_saying) = true)
    (a_pieces : PySem.W.nsIn K mainGlobals "pieces" = some (some (.ref f_pieces)))
    (l_pieces : K.lookup f_pieces = some ⟨oc_pieces, od_pieces, .func (PySem.W.fnOf "pieces" "pieces" (defArgs s_pieces) (defBody s_pieces) (defScope s_pieces) .none kV_pieces dc_pieces pm_pieces an_pieces cd_pieces ct_pieces), sl_pieces⟩)
    (c_pieces : PySem.W.codeIn K cd_pieces "pieces" = true) (k_pieces : PySem.W.keepIn K (.ref f_pieces) = true)
    (a_row_pieces : PySem.W.nsIn K mainGlobals "row_pieces" = some (some (.ref f_row_pieces)))
    (l_row_pieces : K.lookup f_row_pieces = some ⟨oc_row_pieces, od_row_pieces, .func (PySem.W.fnOf "row_pieces" "row_pieces" (defArgs s_row_pieces) (defBody s_row_pieces) (defScope s_row_pieces) .none kV_row_pieces dc_row_pieces pm_row_pieces an_row_pieces cd_row_pieces ct_row_pieces), sl_row_pieces⟩)
    (c_row_pieces : PySem.W.codeIn K cd_row_pieces "row_pieces" = true) (k_row_pieces : PySem.W.keepIn K (.ref f_row_pieces) = true)
    (a_read_line : PySem.W.nsIn K mainGlobals "read_line" = some (some (.ref f_read_line)))
    (l_read_line : K.lookup f_read_line = some ⟨oc_read_line, od_read_line, .func (PySem.W.fnOf "read_line" "read_line" (defArgs s_read_line) (defBody s_read_line) (defScope s_read_line) .none kV_read_line dc_read_line pm_read_line an_read_line cd_read_line ct_read_line), sl_read_line⟩)
    (c_read_line : PySem.W.codeIn K cd_read_line "read_line" = true) (k_read_line : PySem.W.keepIn K (.ref f_read_line) = true)
    (a_refuse_unfit_name : PySem.W.nsIn K mainGlobals "refuse_unfit_name" = some (some (.ref f_refuse_unfit_name)))
    (l_refuse_unfit_name : K.lookup f_refuse_unfit_name = some ⟨oc_refuse_unfit_name, od_refuse_unfit_name, .func (PySem.W.fnOf "refuse_unfit_name" "refuse_unfit_name" (defArgs s_refuse_unfit_name) (defBody s_refuse_unfit_name) (defScope s_refuse_unfit_name) .none kV_refuse_unfit_name dc_refuse_unfit_name pm_refuse_unfit_name an_refuse_unfit_name cd_refuse_unfit_name ct_refuse_unfit_name), sl_refuse_unfit_name⟩)
    (c_refuse_unfit_name : PySem.W.codeIn K cd_refuse_unfit_name "refuse_unfit_name" = true) (k_refuse_unfit_name : PySem.W.keepIn K (.ref f_refuse_unfit_name) = true)
    (a_is_letter : PySem.W.nsIn K mainGlobals "is_letter" = some (some (.ref f_is_letter)))
    (l_is_letter : K.lookup f_is_letter = some ⟨oc_is_letter, od_is_letter, .func (PySem.W.fnOf "is_letter" "is_letter" (defArgs s_is_letter) (defBody s_is_letter) (defScope s_is_letter) .none kV_is_letter dc_is_letter pm_is_letter an_is_letter cd_is_letter ct_is_letter), sl_is_letter⟩)
    (c_is_letter : PySem.W.codeIn K cd_is_letter "is_letter" = true) (k_is_letter : PySem.W.keepIn K (.ref f_is_letter) = true)
    (a_refuse_unfit_count : PySem.W.nsIn K mainGlobals "refuse_unfit_count" = some (some (.ref f_refuse_unfit_count)))
    (l_refuse_unfit_count : K.lookup f_refuse_unfit_count = some ⟨oc_refuse_unfit_count, od_refuse_unfit_count, .func (PySem.W.fnOf "refuse_unfit_count" "refuse_unfit_count" (defArgs s_refuse_unfit_count) (defBody s_refuse_unfit_count) (defScope s_refuse_unfit_count) .none kV_refuse_unfit_count dc_refuse_unfit_count pm_refuse_unfit_count an_refuse_unfit_count cd_refuse_unfit_count ct_refuse_unfit_count), sl_refuse_unfit_count⟩)
    (c_refuse_unfit_count : PySem.W.codeIn K cd_refuse_unfit_count "refuse_unfit_count" = true) (k_refuse_unfit_count : PySem.W.keepIn K (.ref f_refuse_unfit_count) = true)
    (a_cell_at : PySem.W.nsIn K mainGlobals "_law_cell_at" = some (some (.ref f_cell_at)))
    (l_cell_at : K.lookup f_cell_at = some ⟨oc_cell_at, od_cell_at, .func (PySem.W.fnOf "_law_cell_at" "_law_cell_at" (defArgs s_cell_at) (defBody s_cell_at) (defScope s_cell_at) .none kV_cell_at dc_cell_at pm_cell_at an_cell_at cd_cell_at ct_cell_at), sl_cell_at⟩)
    (c_cell_at : PySem.W.codeIn K cd_cell_at "_law_cell_at" = true) (k_cell_at : PySem.W.keepIn K (.ref f_cell_at) = true)
    (a_names : PySem.W.nsIn K mainGlobals "_law_names" = some (some (.ref f_names)))
    (l_names : K.lookup f_names = some ⟨oc_names, od_names, .func (PySem.W.fnOf "_law_names" "_law_names" (defArgs s_names) (defBody s_names) (defScope s_names) .none kV_names dc_names pm_names an_names cd_names ct_names), sl_names⟩)
    (c_names : PySem.W.codeIn K cd_names "_law_names" = true) (k_names : PySem.W.keepIn K (.ref f_names) = true)
    (a_next : PySem.W.nsIn K mainGlobals "_law_next" = some (some (.ref f_next)))
    (l_next : K.lookup f_next = some ⟨oc_next, od_next, .func (PySem.W.fnOf "_law_next" "_law_next" (defArgs s_next) (defBody s_next) (defScope s_next) .none kV_next dc_next pm_next an_next cd_next ct_next), sl_next⟩)
    (c_next : PySem.W.codeIn K cd_next "_law_next" = true) (k_next : PySem.W.keepIn K (.ref f_next) = true)
    (a_saying : PySem.W.nsIn K mainGlobals "_law_saying" = some (some (.ref f_saying)))
    (l_saying : K.lookup f_saying = some ⟨oc_saying, od_saying, .func (PySem.W.fnOf "_law_saying" "_law_saying" (defArgs s_saying) (defBody s_saying) (defScope s_saying) .none kV_saying dc_saying pm_saying an_saying cd_saying ct_saying), sl_saying⟩)
    (c_saying : PySem.W.codeIn K cd_saying "_law_saying" = true) (k_saying : PySem.W.keepIn K (.ref f_saying) = true)
    (a_drawn : PySem.W.nsIn K mainGlobals "_law_drawn" = some (some (.ref f_drawn)))
    (l_drawn : K.lookup f_drawn = some ⟨oc_drawn, od_drawn, .func (PySem.W.fnOf "_law_drawn" "_law_drawn" (defArgs s_drawn) (defBody s_drawn) (defScope s_drawn) .none kV_drawn dc_drawn pm_drawn an_drawn cd_drawn ct_drawn), sl_drawn⟩)
    (c_drawn : PySem.W.codeIn K cd_drawn "_law_drawn" = true) (k_drawn : PySem.W.keepIn K (.ref f_drawn) = true)
    (a_text : PySem.W.nsIn K mainGlobals "_law_text" = some (some (.ref f_text)))
    (l_text : K.lookup f_text = some ⟨oc_text, od_text, .func (PySem.W.fnOf "_law_text" "_law_text" (defArgs s_text) (defBody s_text) (defScope s_text) .none kV_text dc_text pm_text an_text cd_text ct_text), sl_text⟩)
    (c_text : PySem.W.codeIn K cd_text "_law_text" = true) (k_text : PySem.W.keepIn K (.ref f_text) = true)
    (a_is_saying : PySem.W.nsIn K mainGlobals "_law_is_saying" = some (some (.ref f_is_saying)))
    (l_is_saying : K.lookup f_is_saying = some ⟨oc_is_saying, od_is_saying, .func (PySem.W.fnOf "_law_is_saying" "_law_is_saying" (defArgs s_is_saying) (defBody s_is_saying) (defScope s_is_saying) .none kV_is_saying dc_is_saying pm_is_saying an_is_saying cd_is_saying ct_is_saying), sl_is_saying⟩)
    (c_is_saying : PySem.W.codeIn K cd_is_saying "_law_is_saying" = true) (k_is_saying : PySem.W.keepIn K (.ref f_is_saying) = true)
    (a_is_errand : PySem.W.nsIn K mainGlobals "_law_is_errand" = some (some (.ref f_is_errand)))
    (l_is_errand : K.lookup f_is_errand = some ⟨oc_is_errand, od_is_errand, .func (PySem.W.fnOf "_law_is_errand" "_law_is_errand" (defArgs s_is_errand) (defBody s_is_errand) (defScope s_is_errand) .none kV_is_errand dc_is_errand pm_is_errand an_is_errand cd_is_errand ct_is_errand), sl_is_errand⟩)
    (c_is_errand : PySem.W.codeIn K cd_is_errand "_law_is_errand" = true) (k_is_errand : PySem.W.keepIn K (.ref f_is_errand) = true)
    (a_deep : PySem.W.nsIn K mainGlobals "_law_deep" = some (some (.ref f_deep)))
    (l_deep : K.lookup f_deep = some ⟨oc_deep, od_deep, .func (PySem.W.fnOf "_law_deep" "_law_deep" (defArgs s_deep) (defBody s_deep) (defScope s_deep) .none kV_deep dc_deep pm_deep an_deep cd_deep ct_deep), sl_deep⟩)
    (c_deep : PySem.W.codeIn K cd_deep "_law_deep" = true) (k_deep : PySem.W.keepIn K (.ref f_deep) = true)
    (a_there_and_back : PySem.W.nsIn K mainGlobals "_law_there_and_back" = some (some (.ref f_there_and_back)))
    (l_there_and_back : K.lookup f_there_and_back = some ⟨oc_there_and_back, od_there_and_back, .func (PySem.W.fnOf "_law_there_and_back" "_law_there_and_back" (defArgs s_there_and_back) (defBody s_there_and_back) (defScope s_there_and_back) .none kV_there_and_back dc_there_and_back pm_there_and_back an_there_and_back cd_there_and_back ct_there_and_back), sl_there_and_back⟩)
    (c_there_and_back : PySem.W.codeIn K cd_there_and_back "_law_there_and_back" = true) (k_there_and_back : PySem.W.keepIn K (.ref f_there_and_back) = true)
    (a_R_init : PySem.W.findIn K (.ref CR) "__init__" = some (some (.ref f_R_init))) (i_R_init : PySem.W.isFn K (.ref f_R_init) = true)
    (l_R_init : K.lookup f_R_init = some ⟨oc_R_init, od_R_init, .func (PySem.W.fnOf "__init__" "SayingReader.__init__" (defArgs s_R_init) (defBody s_R_init) (defScope s_R_init) .none kV_R_init dc_R_init pm_R_init an_R_init cd_R_init ct_R_init), sl_R_init⟩)
    (c_R_init : PySem.W.codeIn K cd_R_init "SayingReader.__init__" = true) (k_R_init : PySem.W.keepIn K (.ref f_R_init) = true)
    (a_R_sign_here : PySem.W.findIn K (.ref CR) "sign_here" = some (some (.ref f_R_sign_here))) (i_R_sign_here : PySem.W.isFn K (.ref f_R_sign_here) = true)
    (l_R_sign_here : K.lookup f_R_sign_here = some ⟨oc_R_sign_here, od_R_sign_here, .func (PySem.W.fnOf "sign_here" "SayingReader.sign_here" (defArgs s_R_sign_here) (defBody s_R_sign_here) (defScope s_R_sign_here) .none kV_R_sign_here dc_R_sign_here pm_R_sign_here an_R_sign_here cd_R_sign_here ct_R_sign_here), sl_R_sign_here⟩)
    (c_R_sign_here : PySem.W.codeIn K cd_R_sign_here "SayingReader.sign_here" = true) (k_R_sign_here : PySem.W.keepIn K (.ref f_R_sign_here) = true)
    (a_R_read_saying : PySem.W.findIn K (.ref CR) "read_saying" = some (some (.ref f_R_read_saying))) (i_R_read_saying : PySem.W.isFn K (.ref f_R_read_saying) = true)
    (l_R_read_saying : K.lookup f_R_read_saying = some ⟨oc_R_read_saying, od_R_read_saying, .func (PySem.W.fnOf "read_saying" "SayingReader.read_saying" (defArgs s_R_read_saying) (defBody s_R_read_saying) (defScope s_R_read_saying) .none kV_R_read_saying dc_R_read_saying pm_R_read_saying an_R_read_saying cd_R_read_saying ct_R_read_saying), sl_R_read_saying⟩)
    (c_R_read_saying : PySem.W.codeIn K cd_R_read_saying "SayingReader.read_saying" = true) (k_R_read_saying : PySem.W.keepIn K (.ref f_R_read_saying) = true)
    (a_R_read_named : PySem.W.findIn K (.ref CR) "read_named" = some (some (.ref f_R_read_named))) (i_R_read_named : PySem.W.isFn K (.ref f_R_read_named) = true)
    (l_R_read_named : K.lookup f_R_read_named = some ⟨oc_R_read_named, od_R_read_named, .func (PySem.W.fnOf "read_named" "SayingReader.read_named" (defArgs s_R_read_named) (defBody s_R_read_named) (defScope s_R_read_named) .none kV_R_read_named dc_R_read_named pm_R_read_named an_R_read_named cd_R_read_named ct_R_read_named), sl_R_read_named⟩)
    (c_R_read_named : PySem.W.codeIn K cd_R_read_named "SayingReader.read_named" = true) (k_R_read_named : PySem.W.keepIn K (.ref f_R_read_named) = true)
    (a_R_read_word : PySem.W.findIn K (.ref CR) "read_word" = some (some (.ref f_R_read_word))) (i_R_read_word : PySem.W.isFn K (.ref f_R_read_word) = true)
    (l_R_read_word : K.lookup f_R_read_word = some ⟨oc_R_read_word, od_R_read_word, .func (PySem.W.fnOf "read_word" "SayingReader.read_word" (defArgs s_R_read_word) (defBody s_R_read_word) (defScope s_R_read_word) .none kV_R_read_word dc_R_read_word pm_R_read_word an_R_read_word cd_R_read_word ct_R_read_word), sl_R_read_word⟩)
    (c_R_read_word : PySem.W.codeIn K cd_R_read_word "SayingReader.read_word" = true) (k_R_read_word : PySem.W.keepIn K (.ref f_R_read_word) = true)
    (a_R_read_row : PySem.W.findIn K (.ref CR) "read_row" = some (some (.ref f_R_read_row))) (i_R_read_row : PySem.W.isFn K (.ref f_R_read_row) = true)
    (l_R_read_row : K.lookup f_R_read_row = some ⟨oc_R_read_row, od_R_read_row, .func (PySem.W.fnOf "read_row" "SayingReader.read_row" (defArgs s_R_read_row) (defBody s_R_read_row) (defScope s_R_read_row) .none kV_R_read_row dc_R_read_row pm_R_read_row an_R_read_row cd_R_read_row ct_R_read_row), sl_R_read_row⟩)
    (c_R_read_row : PySem.W.codeIn K cd_R_read_row "SayingReader.read_row" = true) (k_R_read_row : PySem.W.keepIn K (.ref f_R_read_row) = true)
    (a_R_refuse_rest : PySem.W.findIn K (.ref CR) "refuse_rest" = some (some (.ref f_R_refuse_rest))) (i_R_refuse_rest : PySem.W.isFn K (.ref f_R_refuse_rest) = true)
    (l_R_refuse_rest : K.lookup f_R_refuse_rest = some ⟨oc_R_refuse_rest, od_R_refuse_rest, .func (PySem.W.fnOf "refuse_rest" "SayingReader.refuse_rest" (defArgs s_R_refuse_rest) (defBody s_R_refuse_rest) (defScope s_R_refuse_rest) .none kV_R_refuse_rest dc_R_refuse_rest pm_R_refuse_rest an_R_refuse_rest cd_R_refuse_rest ct_R_refuse_rest), sl_R_refuse_rest⟩)
    (c_R_refuse_rest : PySem.W.codeIn K cd_R_refuse_rest "SayingReader.refuse_rest" = true) (k_R_refuse_rest : PySem.W.keepIn K (.ref f_R_refuse_rest) = true)
    (a_law : PySem.W.nsIn K mainGlobals "law" = some (some (.ref f_law)))
    (l_law : K.lookup f_law = some ⟨oc_law, od_law, .func (PySem.W.fnOf "law" "law" (defArgs s_law) (defBody s_law) (defScope s_law) .none kV_law dc_law pm_law an_law cd_law ct_law), sl_law⟩)
    (c_law : PySem.W.codeIn K cd_law "law" = true) (k_law : PySem.W.keepIn K (.ref f_law) = true)
    (z_len : PySem.W.nsIn K mainGlobals "len" = some none)
    (z_range : PySem.W.nsIn K mainGlobals "range" = some none)
    (z_isinstance : PySem.W.nsIn K mainGlobals "isinstance" = some none)
    (z_str : PySem.W.nsIn K mainGlobals "str" = some none)
    (z_tuple : PySem.W.nsIn K mainGlobals "tuple" = some none)
    (z_list : PySem.W.nsIn K mainGlobals "list" = some none)
    (z_reversed : PySem.W.nsIn K mainGlobals "reversed" = some none)
    (z_all : PySem.W.nsIn K mainGlobals "all" = some none)
    (z_MOST_LETTERS : PySem.W.nsIn K mainGlobals "MOST_LETTERS" = some (some (.int 8 tk_MOST_LETTERS)))
    (z_MOST_IN_ROW : PySem.W.nsIn K mainGlobals "MOST_IN_ROW" = some (some (.int 4 tk_MOST_IN_ROW)))
    (z_MOST_DEEP : PySem.W.nsIn K mainGlobals "MOST_DEEP" = some (some (.int 12 tk_MOST_DEEP)))
    (pgC : PySem.W.plainGet K CR Str.empty = true) (hdC : PySem.W.hasDictIn K CR = true) (poC : PySem.W.plainOver K CR = true) (saC : PySem.W.findIn K (.ref CR) "__setattr__" = some (some (.builtin "object.__setattr__"))) (mkC : PySem.W.makesIn K CR = true) (kcC : PySem.W.keepIn K (.ref CR) = true)
    (n_text : PySem.W.findIn K (.ref CR) "text" = some none)
    (n_place : PySem.W.findIn K (.ref CR) "place" = some none) :
    ∃ fd : FuncData, (∀ (s : Shared) (v : Value), BindsTo s fd ⟨[v], []⟩ [("script", v)]) ∧ ∀ base : Heap, K.In base → base.Ns mainGlobals mg → FnOk l.prog w K mg base (CX1 l.prog w) 100 fa fd ["script"] (lSp K lawS) := by
  have e := hfa.symm.trans (PySem.W.mg_of X G a_law)
  cases e
  have H_shown_line : Has K mg "shown_line" s_shown_line ["errand"] := has_mk X G a_shown_line l_shown_line c_shown_line k_shown_line fun _ _ _ _ _ _ us hl => by obtain ⟨_, rfl⟩ := ln1 hl; rfl
  have H_shown_saying : Has K mg "shown_saying" s_shown_saying ["saying"] := has_mk X G a_shown_saying l_shown_saying c_shown_saying k_shown_saying fun _ _ _ _ _ _ us hl => by obtain ⟨_, rfl⟩ := ln1 hl; rfl
  have H_pieces : Has K mg "pieces" s_pieces ["saying"] := has_mk X G a_pieces l_pieces c_pieces k_pieces fun _ _ _ _ _ _ us hl => by obtain ⟨_, rfl⟩ := ln1 hl; rfl
  have H_row_pieces : Has K mg "row_pieces" s_row_pieces ["opening", "sayings", "closing"] := has_mk X G a_row_pieces l_row_pieces c_row_pieces k_row_pieces fun _ _ _ _ _ _ us hl => by obtain ⟨_, _, _, rfl⟩ := ln3 hl; rfl
  have H_read_line : Has K mg "read_line" s_read_line ["text"] := has_mk X G a_read_line l_read_line c_read_line k_read_line fun _ _ _ _ _ _ us hl => by obtain ⟨_, rfl⟩ := ln1 hl; rfl
  have H_refuse_unfit_name : Has K mg "refuse_unfit_name" s_refuse_unfit_name ["word"] := has_mk X G a_refuse_unfit_name l_refuse_unfit_name c_refuse_unfit_name k_refuse_unfit_name fun _ _ _ _ _ _ us hl => by obtain ⟨_, rfl⟩ := ln1 hl; rfl
  have H_is_letter : Has K mg "is_letter" s_is_letter ["sign"] := has_mk X G a_is_letter l_is_letter c_is_letter k_is_letter fun _ _ _ _ _ _ us hl => by obtain ⟨_, rfl⟩ := ln1 hl; rfl
  have H_refuse_unfit_count : Has K mg "refuse_unfit_count" s_refuse_unfit_count ["row", "least", "most"] := has_mk X G a_refuse_unfit_count l_refuse_unfit_count c_refuse_unfit_count k_refuse_unfit_count fun _ _ _ _ _ _ us hl => by obtain ⟨_, _, _, rfl⟩ := ln3 hl; rfl
  have H_cell_at : Has K mg "_law_cell_at" s_cell_at ["script", "k"] := has_mk X G a_cell_at l_cell_at c_cell_at k_cell_at fun _ _ _ _ _ _ us hl => by obtain ⟨_, _, rfl⟩ := ln2 hl; rfl
  have H_names : Has K mg "_law_names" s_names ["cell", "many"] := has_mk X G a_names l_names c_names k_names fun _ _ _ _ _ _ us hl => by obtain ⟨_, _, rfl⟩ := ln2 hl; rfl
  have H_next : Has K mg "_law_next" s_next ["script", "spot"] := has_mk X G a_next l_next c_next k_next fun _ _ _ _ _ _ us hl => by obtain ⟨_, _, rfl⟩ := ln2 hl; rfl
  have H_saying : Has K mg "_law_saying" s_saying ["script", "spot", "names", "counts", "params", "deep"] := has_mk X G a_saying l_saying c_saying k_saying fun _ _ _ _ _ _ us hl => by obtain ⟨_, _, _, _, _, _, rfl⟩ := ln6 hl; rfl
  have H_drawn : Has K mg "_law_drawn" s_drawn ["script", "spot", "most", "deep"] := has_mk X G a_drawn l_drawn c_drawn k_drawn fun _ _ _ _ _ _ us hl => by obtain ⟨_, _, _, _, rfl⟩ := ln4 hl; rfl
  have H_text : Has K mg "_law_text" s_text ["saying"] := has_mk X G a_text l_text c_text k_text fun _ _ _ _ _ _ us hl => by obtain ⟨_, rfl⟩ := ln1 hl; rfl
  have H_is_saying : Has K mg "_law_is_saying" s_is_saying ["found"] := has_mk X G a_is_saying l_is_saying c_is_saying k_is_saying fun _ _ _ _ _ _ us hl => by obtain ⟨_, rfl⟩ := ln1 hl; rfl
  have H_is_errand : Has K mg "_law_is_errand" s_is_errand ["found"] := has_mk X G a_is_errand l_is_errand c_is_errand k_is_errand fun _ _ _ _ _ _ us hl => by obtain ⟨_, rfl⟩ := ln1 hl; rfl
  have H_deep : Has K mg "_law_deep" s_deep ["cell", "steps", "params", "name"] := has_mk X G a_deep l_deep c_deep k_deep fun _ _ _ _ _ _ us hl => by obtain ⟨_, _, _, _, rfl⟩ := ln4 hl; rfl
  have H_there_and_back : Has K mg "_law_there_and_back" s_there_and_back ["errand"] := has_mk X G a_there_and_back l_there_and_back c_there_and_back k_there_and_back fun _ _ _ _ _ _ us hl => by obtain ⟨_, rfl⟩ := ln1 hl; rfl
  have H_R_init : HasM K CR "__init__" "SayingReader.__init__" s_R_init ["self", "text"] := hasM_mk a_R_init i_R_init l_R_init c_R_init k_R_init fun _ _ _ _ _ _ us hl => by obtain ⟨_, _, rfl⟩ := ln2 hl; rfl
  have H_R_sign_here : HasM K CR "sign_here" "SayingReader.sign_here" s_R_sign_here ["self"] := hasM_mk a_R_sign_here i_R_sign_here l_R_sign_here c_R_sign_here k_R_sign_here fun _ _ _ _ _ _ us hl => by obtain ⟨_, rfl⟩ := ln1 hl; rfl
  have H_R_read_saying : HasM K CR "read_saying" "SayingReader.read_saying" s_R_read_saying ["self", "level"] := hasM_mk a_R_read_saying i_R_read_saying l_R_read_saying c_R_read_saying k_R_read_saying fun _ _ _ _ _ _ us hl => by obtain ⟨_, _, rfl⟩ := ln2 hl; rfl
  have H_R_read_named : HasM K CR "read_named" "SayingReader.read_named" s_R_read_named ["self", "level"] := hasM_mk a_R_read_named i_R_read_named l_R_read_named c_R_read_named k_R_read_named fun _ _ _ _ _ _ us hl => by obtain ⟨_, _, rfl⟩ := ln2 hl; rfl
  have H_R_read_word : HasM K CR "read_word" "SayingReader.read_word" s_R_read_word ["self"] := hasM_mk a_R_read_word i_R_read_word l_R_read_word c_R_read_word k_R_read_word fun _ _ _ _ _ _ us hl => by obtain ⟨_, rfl⟩ := ln1 hl; rfl
  have H_R_read_row : HasM K CR "read_row" "SayingReader.read_row" s_R_read_row ["self", "closing", "least", "most", "level"] := hasM_mk a_R_read_row i_R_read_row l_R_read_row c_R_read_row k_R_read_row fun _ _ _ _ _ _ us hl => by obtain ⟨_, _, _, _, _, rfl⟩ := ln5 hl; rfl
  have H_R_refuse_rest : HasM K CR "refuse_rest" "SayingReader.refuse_rest" s_R_refuse_rest ["self"] := hasM_mk a_R_refuse_rest i_R_refuse_rest l_R_refuse_rest c_R_refuse_rest k_R_refuse_rest fun _ _ _ _ _ _ us hl => by obtain ⟨_, rfl⟩ := ln1 hl; rfl
  have Gx : Gs K mg := ⟨PySem.W.mg_none_of X G z_len, PySem.W.mg_none_of X G z_range, PySem.W.mg_none_of X G z_isinstance, PySem.W.mg_none_of X G z_str, PySem.W.mg_none_of X G z_tuple, PySem.W.mg_none_of X G z_list, PySem.W.mg_none_of X G z_reversed, PySem.W.mg_none_of X G z_all, ⟨_, PySem.W.mg_of X G z_MOST_LETTERS⟩, ⟨_, PySem.W.mg_of X G z_MOST_IN_ROW⟩, ⟨_, PySem.W.mg_of X G z_MOST_DEEP⟩⟩
  have Tx : RunT K mg CR := ⟨⟨pgC, hdC, poC, saC⟩, mkC, kcC, PySem.W.mg_of X G aC, n_text, n_place⟩
  have F_law := fun_mk (st := s_law) l_law c_law k_law
  refine ⟨PySem.W.fnOf "law" "law" (defArgs s_law) (defBody s_law) (defScope s_law) .none kV_law dc_law pm_law an_law cd_law ct_law, fun s v => .of_eq rfl, fun base _ _ => ?_⟩
  have C_cell_at := ok_cell_at (P := l.prog) (w := w) (base := base) (k := 0) H_cell_at Gx
  have C_next := ok_next (P := l.prog) (w := w) (base := base) (k := 1) H_next C_cell_at
  have C_names := ok_names (P := l.prog) (w := w) (base := base) (k := 0) H_names Gx
  have C_drawn := ok_drawn (n := 6) H_drawn Gx C_next C_names (ok_saying H_saying Gx C_next 6)
  have C_is_letter := ok_is_letter (P := l.prog) (w := w) (base := base) (k := 0) H_is_letter Gx
  have C_unfit := ok_refuse_unfit_name (k := 1) H_refuse_unfit_name Gx C_is_letter
  have C_count := ok_refuse_unfit_count (P := l.prog) (w := w) (base := base) (k := 0) H_refuse_unfit_count Gx
  have M_sign := ok_R_sign_here (P := l.prog) (w := w) (base := base) (k := 0) H_R_sign_here Gx Tx
  have M_word := ok_R_read_word (k := 2) H_R_read_word Gx Tx (M_sign.mono (by decide)) (C_is_letter.mono (by decide)) C_unfit
  have M_all := rd_all H_R_read_saying H_R_read_named H_R_read_row Gx Tx M_sign M_word C_count 42
  have C_read_line := ok_read_line (k := 42) (n := 42) (by decide) (by decide) H_read_line Gx Tx (C_unfit.mono (by decide)) (C_count.mono (by decide)) ((ok_R_init (k := 0) H_R_init Gx Tx).mono (by decide)) (M_all.1.mono (by decide)) ((ok_R_refuse_rest (k := 0) H_R_refuse_rest Gx Tx).mono (by decide))
  have C_shown := ok_shown_line (k := 3) H_shown_line Gx (ok_shown_saying (k := 2) H_shown_saying Gx (ok_pieces (k := 1) H_pieces Gx (ok_row_pieces (P := l.prog) (w := w) (base := base) (k := 0) H_row_pieces Gx)))
  have C_is_errand := ok_is_errand (k := 12) (by decide) H_is_errand Gx (ok_is_saying (P := l.prog) (w := w) (base := base) H_is_saying Gx 12)
  have C_tab := ok_there_and_back (k := 98) (by decide) H_there_and_back Gx (C_shown.mono (by decide)) (C_read_line.mono (by decide)) (ok_text H_text Gx 12) (C_is_errand.mono (by decide))
  exact ok_law F_law Gx (C_cell_at.mono (by decide)) (C_drawn.mono (by decide)) ((ok_deep (k := 0) H_deep Gx).mono (by decide)) (C_tab.mono (by decide))
theorem walk {l : PySem.W.OpenLaw} {q : Program} {loose : List Str} {XP : (Str → Option Value) → Heap → Prop} {YP : World → Heap → Prop} {d : DefRec} {K : Params → PySem.W.Frag} (hn : l.most = some 63) (hdf : d.params.defaults = [])
    (hY : ∀ (w : World) (h : Heap), YP w h → (K w.params).In h)
    (F : ∀ (w : World) (mg : Str → Option Value) (fa : Addr) (h : Heap), (K w.params).In h → h.Ns mainGlobals mg → mg d.name = some (.ref fa) →
      ∃ fd : FuncData, (∀ (s : Shared) (u : Value), BindsTo s fd ⟨[u], []⟩ [("script", u)]) ∧ ∀ base : Heap, (K w.params).In base → base.Ns mainGlobals mg → FnOk l.prog w (K w.params) mg base (CX1 l.prog w) 100 fa fd ["script"] (lSp (K w.params) lawS)) :
    PySem.W.WalkO q loose XP YP l.row.toRowW d [] (fun f vs => PySem.call f vs) :=
  L2.walk_of (n := 63) (k := 100) (x := "script") (CX := fun w => CX1 l.prog w) (sp := fun w => lSp (K w.params) lawS) hn (by decide) hdf ⟨rfl, by decide, by decide⟩ hY F (fun _ _ a ns hl hO hS => law_sp hl hO hS) fun _ _ _ _ _ z => by
    obtain ⟨a, C, T, H', _, _, _, _, _, _, _, _, _, _, z⟩ := z
    exact z
end LW
open PySem PySem.W PyProof.Rows
set_option maxRecDepth 100000 in
set_option maxHeartbeats 0 in
theorem PySem.Challenge.cw_errandend_k05_lines_holds : PySem.Challenge.rw_errandend_k05_lines.Holds := by
  w_on; o_law; k_head; (case hw => w_witness2)
  k_fill
  refine LW.walk (l := PySem.Challenge.rw_errandend_k05_lines) rfl rfl (fun w h Y => PySem.W.kIn_of Y) ?F
  case F =>
    intro w mg fa h KX G hmg
    refine' LW.all_mk KX G hmg ?aC ?a_shown_line ?l_shown_line ?c_shown_line ?k_shown_line ?a_shown_saying ?l_shown_saying ?c_shown_saying ?k_shown_saying ?a_pieces ?l_pieces ?c_pieces ?k_pieces ?a_row_pieces ?l_row_pieces ?c_row_pieces ?k_row_pieces ?a_read_line ?l_read_line ?c_read_line ?k_read_line ?a_refuse_unfit_name ?l_refuse_unfit_name ?c_refuse_unfit_name ?k_refuse_unfit_name ?a_is_letter ?l_is_letter ?c_is_letter ?k_is_letter ?a_refuse_unfit_count ?l_refuse_unfit_count ?c_refuse_unfit_count ?k_refuse_unfit_count ?a_cell_at ?l_cell_at ?c_cell_at ?k_cell_at ?a_names ?l_names ?c_names ?k_names ?a_next ?l_next ?c_next ?k_next ?a_saying ?l_saying ?c_saying ?k_saying ?a_drawn ?l_drawn ?c_drawn ?k_drawn ?a_text ?l_text ?c_text ?k_text ?a_is_saying ?l_is_saying ?c_is_saying ?k_is_saying ?a_is_errand ?l_is_errand ?c_is_errand ?k_is_errand ?a_deep ?l_deep ?c_deep ?k_deep ?a_there_and_back ?l_there_and_back ?c_there_and_back ?k_there_and_back ?a_R_init ?i_R_init ?l_R_init ?c_R_init ?k_R_init ?a_R_sign_here ?i_R_sign_here ?l_R_sign_here ?c_R_sign_here ?k_R_sign_here ?a_R_read_saying ?i_R_read_saying ?l_R_read_saying ?c_R_read_saying ?k_R_read_saying ?a_R_read_named ?i_R_read_named ?l_R_read_named ?c_R_read_named ?k_R_read_named ?a_R_read_word ?i_R_read_word ?l_R_read_word ?c_R_read_word ?k_R_read_word ?a_R_read_row ?i_R_read_row ?l_R_read_row ?c_R_read_row ?k_R_read_row ?a_R_refuse_rest ?i_R_refuse_rest ?l_R_refuse_rest ?c_R_refuse_rest ?k_R_refuse_rest ?a_law ?l_law ?c_law ?k_law ?z_len ?z_range ?z_isinstance ?z_str ?z_tuple ?z_list ?z_reversed ?z_all ?z_MOST_LETTERS ?z_MOST_IN_ROW ?z_MOST_DEEP ?pgC ?hdC ?poC ?saC ?mkC ?kcC ?n_text ?n_place
    (case aC => k_is)
    (case a_shown_line => k_is)
    (case l_shown_line => k_is)
    (case c_shown_line => k_is)
    (case k_shown_line => k_is)
    (case a_shown_saying => k_is)
    (case l_shown_saying => k_is)
    (case c_shown_saying => k_is)
    (case k_shown_saying => k_is)
    (case a_pieces => k_is)
    (case l_pieces => k_is)
    (case c_pieces => k_is)
    (case k_pieces => k_is)
    (case a_row_pieces => k_is)
    (case l_row_pieces => k_is)
    (case c_row_pieces => k_is)
    (case k_row_pieces => k_is)
    (case a_read_line => k_is)
    (case l_read_line => k_is)
    (case c_read_line => k_is)
    (case k_read_line => k_is)
    (case a_refuse_unfit_name => k_is)
    (case l_refuse_unfit_name => k_is)
    (case c_refuse_unfit_name => k_is)
    (case k_refuse_unfit_name => k_is)
    (case a_is_letter => k_is)
    (case l_is_letter => k_is)
    (case c_is_letter => k_is)
    (case k_is_letter => k_is)
    (case a_refuse_unfit_count => k_is)
    (case l_refuse_unfit_count => k_is)
    (case c_refuse_unfit_count => k_is)
    (case k_refuse_unfit_count => k_is)
    (case a_cell_at => k_is)
    (case l_cell_at => k_is)
    (case c_cell_at => k_is)
    (case k_cell_at => k_is)
    (case a_names => k_is)
    (case l_names => k_is)
    (case c_names => k_is)
    (case k_names => k_is)
    (case a_next => k_is)
    (case l_next => k_is)
    (case c_next => k_is)
    (case k_next => k_is)
    (case a_saying => k_is)
    (case l_saying => k_is)
    (case c_saying => k_is)
    (case k_saying => k_is)
    (case a_drawn => k_is)
    (case l_drawn => k_is)
    (case c_drawn => k_is)
    (case k_drawn => k_is)
    (case a_text => k_is)
    (case l_text => k_is)
    (case c_text => k_is)
    (case k_text => k_is)
    (case a_is_saying => k_is)
    (case l_is_saying => k_is)
    (case c_is_saying => k_is)
    (case k_is_saying => k_is)
    (case a_is_errand => k_is)
    (case l_is_errand => k_is)
    (case c_is_errand => k_is)
    (case k_is_errand => k_is)
    (case a_deep => k_is)
    (case l_deep => k_is)
    (case c_deep => k_is)
    (case k_deep => k_is)
    (case a_there_and_back => k_is)
    (case l_there_and_back => k_is)
    (case c_there_and_back => k_is)
    (case k_there_and_back => k_is)
    (case a_R_init => k_is)
    (case i_R_init => k_is)
    (case l_R_init => k_is)
    (case c_R_init => k_is)
    (case k_R_init => k_is)
    (case a_R_sign_here => k_is)
    (case i_R_sign_here => k_is)
    (case l_R_sign_here => k_is)
    (case c_R_sign_here => k_is)
    (case k_R_sign_here => k_is)
    (case a_R_read_saying => k_is)
    (case i_R_read_saying => k_is)
    (case l_R_read_saying => k_is)
    (case c_R_read_saying => k_is)
    (case k_R_read_saying => k_is)
    (case a_R_read_named => k_is)
    (case i_R_read_named => k_is)
    (case l_R_read_named => k_is)
    (case c_R_read_named => k_is)
    (case k_R_read_named => k_is)
    (case a_R_read_word => k_is)
    (case i_R_read_word => k_is)
    (case l_R_read_word => k_is)
    (case c_R_read_word => k_is)
    (case k_R_read_word => k_is)
    (case a_R_read_row => k_is)
    (case i_R_read_row => k_is)
    (case l_R_read_row => k_is)
    (case c_R_read_row => k_is)
    (case k_R_read_row => k_is)
    (case a_R_refuse_rest => k_is)
    (case i_R_refuse_rest => k_is)
    (case l_R_refuse_rest => k_is)
    (case c_R_refuse_rest => k_is)
    (case k_R_refuse_rest => k_is)
    (case a_law => k_is)
    (case l_law => k_is)
    (case c_law => k_is)
    (case k_law => k_is)
    (case z_len => k_is)
    (case z_range => k_is)
    (case z_isinstance => k_is)
    (case z_str => k_is)
    (case z_tuple => k_is)
    (case z_list => k_is)
    (case z_reversed => k_is)
    (case z_all => k_is)
    (case z_MOST_LETTERS => k_is)
    (case z_MOST_IN_ROW => k_is)
    (case z_MOST_DEEP => k_is)
    (case pgC => k_is)
    (case hdC => k_is)
    (case poC => k_is)
    (case saC => k_is)
    (case mkC => k_is)
    (case kcC => k_is)
    (case n_text => k_is)
    (case n_place => k_is)
#print axioms PySem.Challenge.cw_errandend_k05_lines_holds
