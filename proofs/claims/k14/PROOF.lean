import PyProof.Rows.All
import Wide.All
import OpenK.AllK
import Wide.FinOn
import Lean
import PyProof.EqAt
import PyProof.EqKinds
import PyProof.TupleCall
import PySem.Challenge.RW_errandend_k14_runs_refused
set_option Elab.async false
set_option linter.all false
set_option maxRecDepth 100000
namespace L2
open PySem PySem.Spec PyProof.Rows
noncomputable abbrev Key:=Sum Int Str
noncomputable def keyIs:Key→Value→Bool
  | .inl k,v=>Value.isInt k v
  | .inr x,v=>Value.isStrOf x v
noncomputable def keyH (w:World):Key→Int
  | .inl k=>hashInt k
  | .inr x=>hashStr w x
theorem zbd:∀{k:Key} {v:Value},keyIs k v=true→(∃i t,k=Sum.inl i∧v=Value.int i t)∨(∃x t,k=Sum.inr x∧v=Value.str x t)
  | .inl i,v,h=>by
    obtain ⟨t,e⟩:=Value.isInt_shape (k:=i) (v:=v) h
    exact .inl ⟨i,t,rfl,e⟩
  | .inr x,v,h=>by
    obtain ⟨t,e⟩:=Value.isStrOf_shape (x:=x) (v:=v) h
    exact .inr ⟨x,t,rfl,e⟩
theorem zl7 (i:Int) (t:Tok):keyIs (.inl i) (.int i t)=true:=by simp [keyIs,Value.isInt]
theorem zl6 (x:Str) (t:Tok):keyIs (.inr x) (.str x t)=true:=by simp [keyIs,Value.isStrOf]
theorem key_ll (a b:Int):decide ((Sum.inl a:Key)=Sum.inl b)=(a==b):=by
  by_cases e:a=b
  · subst e;simp
  · have h:¬(Sum.inl a:Key)=Sum.inl b:=fun q=>e (Sum.inl.inj q)
    rw [decide_eq_false h]
    exact (beq_eq_false_iff_ne.mpr e).symm
theorem key_rr (a b:Str):decide ((Sum.inr a:Key)=Sum.inr b)=decide (a=b):=by
  by_cases e:a=b
  · subst e;simp
  · have h:¬(Sum.inr a:Key)=Sum.inr b:=fun q=>e (Sum.inr.inj q)
    rw [decide_eq_false h,decide_eq_false e]
theorem key_lr (a:Int) (b:Str):decide ((Sum.inl a:Key)=Sum.inr b)=false:=decide_eq_false (fun q=>nomatch q)
theorem key_rl (a:Str) (b:Int):decide ((Sum.inr a:Key)=Sum.inl b)=false:=decide_eq_false (fun q=>nomatch q)
noncomputable def mixKind (prog:Program) (w:World):PySem.KeyKind prog w Key where
  is:=keyIs
  hash:=keyH w
  inj:=fun v a b ha hb=>by
    rcases zbd ha with ⟨i,t,rfl,rfl⟩|⟨x,t,rfl,rfl⟩
    · rcases zbd hb with ⟨j,u,rfl,e⟩|⟨y,u,rfl,e⟩
      · injection e with e1 _;rw [e1]
      · exact nomatch e
    · rcases zbd hb with ⟨j,u,rfl,e⟩|⟨y,u,rfl,e⟩
      · exact nomatch e
      · injection e with e1 _;rw [e1]
  byValue:=fun k v h=>by
    rcases zbd h with ⟨i,t,rfl,rfl⟩|⟨x,t,rfl,rfl⟩<;>rfl
  pyHash:=fun hv h=>by
    rcases zbd hv with ⟨i,t,rfl,rfl⟩|⟨x,t,rfl,rfl⟩
    · exact wpAny_pyHash_int h
    · exact wpAny_pyHash_str h
  eqBool:=fun hu hv h=>by
    rcases zbd hu with ⟨i,t,rfl,rfl⟩|⟨x,t,rfl,rfl⟩
    · rcases zbd hv with ⟨j,u,rfl,rfl⟩|⟨y,u,rfl,rfl⟩
      · rw [key_ll] at h;exact wpAny_eqBool_int h
      · rw [key_lr] at h;exact SeqAt.EqAt.int_str i t y u _ _ _ _ h
    · rcases zbd hv with ⟨j,u,rfl,rfl⟩|⟨y,u,rfl,rfl⟩
      · rw [key_rl] at h;exact SeqAt.EqAt.str_int x t j u _ _ _ _ h
      · rw [key_rr] at h;exact wpAny_eqBool_str h
  «strs»:=fun k x t v h=>by
    rcases zbd h with ⟨i,u,rfl,e⟩|⟨y,u,rfl,e⟩
    · exact nomatch e
    · injection e with e1 _
      subst e1
      cases v<;>rfl
theorem zik (prog:Program) (w:World) (i:Int) (t:Tok):(mixKind prog w).is (.inl i) (.int i t)=true:=zl7 i t
theorem zij (prog:Program) (w:World) (x:Str) (t:Tok):(mixKind prog w).is (.inr x) (.str x t)=true:=zl6 x t
end L2
namespace L2
open PySem PySem.Spec PyProof.Rows
inductive V where
  | non|bl (b:Bool)|int (i:Int)|str (x:Str)|byt (b:Array UInt8)|flt (b:UInt64)|ref (a:Addr)|ty (n:String)
  deriving DecidableEq
def RelV:V→Value→Prop
  | .non,u=>u=Value.none
  | .bl b,u=>u=Value.bool b
  | .int i,u=>∃t,u=Value.int i t
  | .str x,u=>∃t,u=Value.str x t
  | .byt b,u=>∃t,u=Value.bytes b t
  | .flt b,u=>∃t,u=Value.float b t
  | .ref a,u=>u=Value.ref a
  | .ty n,u=>u=Value.type n
abbrev Vals:List V→List Value→Prop:=Paired RelV
theorem Vals.length {xs:List V} {us:List Value} (r:Vals xs us):xs.length=us.length:=Paired.length r
theorem Vals.get:∀{xs:List V} {us:List Value} {i:Nat} {x:V},Vals xs us→xs[i]?=some x→∃u,us[i]?=some u∧RelV x u
  | _,_,_,_,.nil,e=>by simp at e
  | _,_,0,_,.cons r _,e=>by simp at e;subst e;exact ⟨_,rfl,r⟩
  | _,_,i+1,x,.cons _ t,e=>by
    obtain ⟨u,h1,h2⟩:=Vals.get (i:=i) (x:=x) t (by simpa using e)
    exact ⟨u,by simpa using h1,h2⟩
theorem Vals.set {x:V} {u:Value} (r:RelV x u):∀{xs:List V} {us:List Value} (i:Nat),Vals xs us→Vals (xs.set i x) (us.set i u)
  | _,_,_,.nil=>.nil
  | _,_,0,.cons _ t=>.cons r t
  | _,_,i+1,.cons q t=>.cons q (Vals.set r i t)
theorem Vals.append:∀{xs ys:List V} {us ws:List Value},Vals xs us→Vals ys ws→Vals (xs++ys) (us++ws)
  | _,_,_,_,.nil,s=>s
  | _,_,_,_,.cons r t,s=>.cons r (Vals.append t s)
theorem Vals.take:∀{xs:List V} {us:List Value} (n:Nat),Vals xs us→Vals (xs.take n) (us.take n)
  | _,_,0,_=>.nil
  | _,_,_+1,.nil=>.nil
  | _,_,n+1,.cons r t=>.cons r (Vals.take n t)
theorem Vals.drop:∀{xs:List V} {us:List Value} (n:Nat),Vals xs us→Vals (xs.drop n) (us.drop n)
  | _,_,0,r=>r
  | _,_,_+1,.nil=>.nil
  | _,_,n+1,.cons _ t=>Vals.drop n t
def RelO:Option V→Option Value→Prop
  | some v,some u=>RelV v u
  | none,none=>True
  | _,_=>False
def KV {κ:Type}:List (κ×V)→List (κ×Value)→Prop:=Paired fun (p:κ×V) (q:κ×Value)=>p.1=q.1∧RelV p.2 q.2
noncomputable def kV:Key→V
  | .inl i=>.int i
  | .inr x=>.str x
inductive HO where
  | lst (xs:List V)
  | tup (xs:List V)
  | dK (kvs:List (Key×V))|dT (kvs:List (List Key×V))
  | set (S:Int→Bool) (n:Nat)
  | ins (C dx:Addr) (fs:List (Str×V))
  | own (x:Addr)
  | xd (fs:List (Str×V))
  | met (f x:Addr)
  | rng (lo hi:Int)
  | frz (o:Obj) (u:HO)
  | tbl (ps:Array Value)
  | ext (φ:Heap→Prop)
noncomputable abbrev Hp:=Addr→Option HO
noncomputable def upd (H:Hp) (a:Addr) (o:HO):Hp:=fun b=>if b=a then some o else H b
theorem zat {H:Hp} {a:Addr} {o:HO}:upd H a o a=some o:=by unfold upd;rw [if_pos rfl]
theorem zal {H:Hp} {a b:Addr} {o:HO} (h:b≠a):upd H a o b=H b:=by unfold upd;rw [if_neg h]
theorem ne_of {H:Hp} {a b:Addr} {o u:HO} (h:H a=some o) (h':H b=some u) (d:o≠u):a≠b:=by
  intro e;subst e;rw [h] at h';exact d (Option.some.inj h')
theorem zb0 {H:Hp} {a b:Addr} {o:HO} (h:H a=some o) (h':H b=none):a≠b:=by
  intro e;subst e;rw [h] at h';cases h'
section
variable (P:Program) (w:World)
def ObjOk (H:Hp) (h:Heap) (a:Addr):HO→Prop
  | .lst xs=>xs.length≤sizeLine∧∃(its:List Value) (n:Nat),Vals xs its∧h.get? a=some {cls:=.type "list",data:=.seq its.toArray n}
  | .tup xs=>xs.length≤sizeLine∧∃its:List Value,Vals xs its∧IsTup h a its.toArray∧∀o,h.get? a=some o→o.dict=none
  | .dK kvs=>kvs.length≤sizeLine∧(a==sysModules)=false∧∃vs,KV kvs vs∧h.DictOf (mixKind P w) a vs
  | .dT kvs=>kvs.length≤sizeLine∧(a==sysModules)=false∧∃xs:List (List Key×Addr×Value),
      Paired (fun (p:List Key×V) (q:List Key×Addr×Value)=>p.1=q.1∧H q.2.1=some (.tup (p.1.map kV))∧RelV p.2 q.2.2) kvs xs ∧
      ∃o es ep,h.get? a=some o∧o.ExactDict∧o.data=.dict es ep∧es.toList=xs.map (entryOfKey (tupleKind (mixKind P w)))∧(xs.map (·.1)).Nodup
  | .set S n=>h.SetOf (intKind P w) a S n
  | .ins C dx fs=>H dx=some (.own a)∧fs.length≤1000∧dx≠a∧h.get? a=some (PySem.W.instObj C dx) ∧
      ∃mA,h.Ns1 dx mA∧(∀f,RelO (fs.lookup f) (mA f))∧PySem.Within mA (fs.map (·.1))
  | .own _=>∃o,h.get? a=some o
  | .xd fs=>∃mA,h.Ns1 a mA∧∀f,RelO (fs.lookup f) (mA f)
  | .rng lo hi=>∃t u v,h.get? a=some {cls:=.type "range",data:=.fields #[.int lo t,.int hi u,.int 1 v]}
  | .frz o u=>h.get? a=some o∧ObjOk H h a u
  | .tbl ps=>h.get? a=some {cls:=.none,data:=.fields ps}
  | .met f x=>h.get? a=some (PySem.W.methodObj (.ref f) (.ref x))
  | .ext φ=>φ h∧(∃o,h.get? a=some o)∧∀h1 h2:Heap,φ h1→(∀o,h1.get? a=some o→h2.get? a=some o)→φ h2
def HOk (H:Hp) (h:Heap):Prop:=∀a o,H a=some o→ObjOk P w H h a o
end
section
variable {P:Program} {w:World} {H H':Hp} {h h':Heap} {a:Addr} {o:HO}
theorem ObjOk.lt (x:ObjOk P w H h a o):a<h.objs.size:=by
  cases o with
  | lst xs=>obtain ⟨_,_,_,_,e⟩:=x;exact Heap.lt_size e
  | tup xs=>obtain ⟨_,_,_,p,_⟩:=x;exact p.lt
  | dK kvs=>obtain ⟨_,_,_,_,o,_,_,e,_⟩:=x;exact Heap.lt_size e
  | dT kvs=>obtain ⟨_,_,_,_,o,_,_,e,_⟩:=x;exact Heap.lt_size e
  | set S n=>obtain ⟨o,_,_,_,e,_⟩:=x;exact Heap.lt_size e
  | ins C dx fs=>obtain ⟨_,_,_,e,_⟩:=x;exact Heap.lt_size e
  | own y=>obtain ⟨_,e⟩:=x;exact Heap.lt_size e
  | xd fs=>obtain ⟨_,⟨_,_,_,e,_⟩,_⟩:=x;exact Heap.lt_size e
  | rng lo hi=>obtain ⟨_,_,_,e⟩:=x;exact Heap.lt_size e
  | frz ob u=>obtain ⟨e,_⟩:=x;exact Heap.lt_size e
  | tbl ps=>exact Heap.lt_size (show h.get? a=some _ from x)
  | met f y=>exact Heap.lt_size (show h.get? a=some _ from x)
  | ext φ=>obtain ⟨_,⟨_,e⟩,_⟩:=x;exact Heap.lt_size e
theorem Paired.mapP {α β:Type} {F G:α→β→Prop}:∀{l₁:List α} {l₂:List β},Paired F l₁ l₂→(∀a b,F a b→G a b)→Paired G l₁ l₂
  | _,_,.nil,_=>.nil
  | _,_,.cons r t,f=>.cons (f _ _ r) (Paired.mapP t f)
theorem ObjOk.stay (x:ObjOk P w H h a o) (k:∀b u,(b=a∨H b=some (.own a))→h.get? b=some u→h'.get? b=some u)
    (ho:∀b,H b=some (.own a)→H' b=some (.own a)) (ht:∀b xs,H b=some (.tup xs)→H' b=some (.tup xs)):ObjOk P w H' h' a o:=by
  induction o with
  | lst xs=>obtain ⟨z,its,n,r,e⟩:=x;exact ⟨z,its,n,r,k _ _ (.inl rfl) e⟩
  | tup xs=>obtain ⟨z,its,r,⟨ob,e,c⟩,nd⟩:=x;exact ⟨z,its,r,⟨ob,k _ _ (.inl rfl) e,c⟩,fun o q=>by rw [k _ _ (.inl rfl) e] at q;cases q;exact nd _ e⟩
  | dK kvs=>obtain ⟨z,y,vs,r,ob,es,ep,e,c⟩:=x;exact ⟨z,y,vs,r,ob,es,ep,k _ _ (.inl rfl) e,c⟩
  | dT kvs =>
    obtain ⟨z,y,xs,r,ob,es,ep,e,c⟩:=x
    exact ⟨z,y,xs,Paired.mapP r fun p q z=>⟨z.1,ht _ _ z.2.1,z.2.2⟩,ob,es,ep,k _ _ (.inl rfl) e,c⟩
  | set S n=>obtain ⟨ob,es,ep,t,e,c⟩:=x;exact ⟨ob,es,ep,t,k _ _ (.inl rfl) e,c⟩
  | ins C dx fs =>
    obtain ⟨d,z,ne,e,mA,⟨od,es,ep,e2,c⟩,r⟩:=x
    exact ⟨ho _ d,z,ne,k _ _ (.inl rfl) e,mA,⟨od,es,ep,k _ _ (.inr d) e2,c⟩,r⟩
  | own y=>obtain ⟨ob,e⟩:=x;exact ⟨ob,k _ _ (.inl rfl) e⟩
  | xd fs=>obtain ⟨mA,⟨od,es,ep,e,c⟩,r⟩:=x;exact ⟨mA,⟨od,es,ep,k _ _ (.inl rfl) e,c⟩,r⟩
  | rng lo hi=>obtain ⟨t,u,v,e⟩:=x;exact ⟨t,u,v,k _ _ (.inl rfl) e⟩
  | frz ob u ih=>obtain ⟨e,q⟩:=x;exact ⟨k _ _ (.inl rfl) e,ih q⟩
  | tbl ps =>
    have e:h.get? a=some {cls:=.none,data:=.fields ps}:=x
    show h'.get? a=some {cls:=.none,data:=.fields ps}
    exact k a _ (.inl rfl) e
  | met f y =>
    have e:h.get? a=some (PySem.W.methodObj (.ref f) (.ref y)):=x
    show h'.get? a=some (PySem.W.methodObj (.ref f) (.ref y))
    exact k a _ (.inl rfl) e
  | ext φ=>obtain ⟨p,⟨o,e⟩,st⟩:=x;exact ⟨st _ _ p fun o q=>k _ _ (.inl rfl) q,⟨o,k _ _ (.inl rfl) e⟩,st⟩
theorem HOk.lt (x:HOk P w H h) (e:H a=some o):a<h.objs.size:=(x a o e).lt
theorem HOk.fresh (x:HOk P w H h) (e:h.objs.size≤a):H a=none:=by
  cases q:H a with
  | none=>rfl
  | some u=>exact absurd (Nat.lt_of_lt_of_le (x.lt q) e) (Nat.lt_irrefl _)
theorem HOk.kept (x:HOk P w H h) (k:∀b u,h.get? b=some u→h'.get? b=some u):HOk P w H h':=fun a o e =>
  (x a o e).stay (fun b u _ q=>k b u q) (fun _ q=>q) fun _ _ q=>q
theorem HOk.laid (x:HOk P w H h) (k:∀b u,h.get? b=some u→h'.get? b=some u) (hp:h.objs.size≤a) (new:ObjOk P w (upd H a o) h' a o):HOk P w (upd H a o) h':=fun b u e=>by
  have hn:=x.fresh hp
  by_cases hb:b=a
  · subst hb;rw [zat] at e;cases e;exact new
  · rw [zal hb] at e
    exact (x b u e).stay (fun c v _ q=>k c v q) (fun c q=>by rw [zal (zb0 q hn)];exact q) fun c xs q=>by rw [zal (zb0 q hn)];exact q
end
def Rd (H:Hp) (a:Addr) (u:HO):Prop:=H a=some u∨∃o,H a=some (.frz o u)
theorem Rd.ok {P:Program} {w:World} {H:Hp} {h:Heap} {a:Addr} {u:HO} (r:Rd H a u) (x:HOk P w H h):ObjOk P w H h a u:=by
  rcases r with r|⟨o,r⟩
  · exact x a u r
  · obtain ⟨_,q⟩:=x a _ r
    exact q
def Mut:Option HO→Prop
  | some (.lst _)=>True
  | some (.dK _)=>True
  | some (.dT _)=>True
  | some (.set _ _)=>True
  | some (.ins _ _ _)=>True
  | some (.ext _)=>True
  | _=>False
section
variable {P:Program} {w:World} {H:Hp} {h h':Heap} {x e:Addr} {o':HO}
theorem HOk.write (ok:HOk P w H h) (mu:Mut (H x)) (he:e=x∨H e=some (.own x)) (k:∀b u,b≠e→h.get? b=some u→h'.get? b=some u) (heo:∃u,h'.get? e=some u)
    (new:ObjOk P w (upd H x o') h' x o'):HOk P w (upd H x o') h':=fun b u q=>by
  have nown:∀c y,H c=some (.own y)→c≠x:=fun c y r z=>by subst z;rw [r] at mu;exact mu
  have ntup:∀c xs,H c=some (.tup xs)→c≠x:=fun c xs r z=>by subst z;rw [r] at mu;exact mu
  by_cases hb:b=x
  · subst hb;rw [zat] at q;cases q;exact new
  · rw [zal hb] at q
    by_cases hbe:b=e
    · have q':H b=some (.own x):=by
        rcases he with z|z
        · exact absurd (hbe.trans z) hb
        · rw [hbe];exact z
      rw [q] at q';cases q'
      obtain ⟨v,hv⟩:=heo
      exact ⟨v,by rw [hbe];exact hv⟩
    · refine (ok b u q).stay (fun c v hc r=>k c v ?_ r) (fun c r=>by rw [zal (nown c b r)];exact r) fun c xs r=>by rw [zal (ntup c xs r)];exact r
      rcases hc with rfl|hc
      · exact hbe
      · rintro rfl
        rcases he with z|z
        · exact nown c b hc z
        · rw [hc] at z;cases z;exact hb rfl
end
structure Un (fs ex:List Addr) (H H':Hp) (h h':Heap):Prop where
  keep:∀b o,h.get? b=some o→H b=none→b∉fs→b∉ex→h'.get? b=some o
  slot:∀b o,h.get? b=some o→H b=none→b∈fs→b∉ex→∃sl,h'.get? b=some {o with slots:=sl}
  free:∀b o,h.get? b=some o→H b=none→b∉ex→H' b=none
  there:∀b o,h.get? b=some o→b∉ex→∃o',h'.get? b=some o'
  tups:∀b xs,H b=some (.tup xs)→H' b=some (.tup xs)
  frzs:∀b o u,H b=some (.frz o u)→H' b=some (.frz o u)
  tbls:∀b ps,H b=some (.tbl ps)→∃more,H' b=some (.tbl (ps++more))
section
variable {fs fs' ex ex':List Addr} {H H1 H2:Hp} {h h1 h2 h':Heap} {a x e:Addr} {o:HO}
theorem Un.any (u:Un fs ex H H1 h h1) {b:Addr} {ob:Obj} (q:h.get? b=some ob) (n:H b=none) (hx:b∉ex):∃sl,h1.get? b=some {ob with slots:=sl}:=by
  by_cases hb:b∈fs
  · exact u.slot b ob q n hb hx
  · exact ⟨ob.slots,u.keep b ob q n hb hx⟩
theorem Un.kept (k:∀b u,h.get? b=some u→h'.get? b=some u):Un fs ex H H h h' :=
  ⟨fun b ob q _ _ _=>k b ob q,fun b ob q _ _ _=>⟨ob.slots,k b ob q⟩,fun _ _ _ n _=>n,fun b ob q _=>⟨ob,k b ob q⟩,fun _ _ q=>q,fun _ _ _ q=>q,fun _ ps q=>⟨#[],by rw [q];simp⟩⟩
theorem Un.refl:Un fs ex H H h h:=Un.kept fun _ _ q=>q
theorem Un.laid (k:∀b u,h.get? b=some u→h'.get? b=some u) (hp:h.objs.size≤a) (hn:H a=none):Un fs ex H (upd H a o) h h' where
  keep:=fun b u q _ _ _=>k b u q
  slot:=fun b u q _ _ _=>⟨u.slots,k b u q⟩
  free:=fun b u q n _=>by rw [zal (Nat.ne_of_lt (Nat.lt_of_lt_of_le (Heap.lt_size q) hp))];exact n
  there:=fun b u q _=>⟨u,k b u q⟩
  tups:=fun b xs q=>by rw [zal (zb0 q hn)];exact q
  frzs:=fun b u xs q=>by rw [zal (zb0 q hn)];exact q
  tbls:=fun b ps q=>⟨#[],by rw [zal (zb0 q hn),q];simp⟩
theorem Un.write (mu:Mut (H x)) (he:e=x∨H e=some (.own x)) (k:∀b u,b≠e→h.get? b=some u→h'.get? b=some u) (heo:∃u,h'.get? e=some u):Un fs ex H (upd H x o) h h':=by
  have hx:∀b,H b=none→b≠x:=fun b n z=>by subst z;rw [n] at mu;exact mu
  have hb:∀b,H b=none→b≠e:=fun b n z=>by
    subst z
    rcases he with r|r
    · exact hx b n r
    · rw [n] at r;cases r
  have hm:∀b u,H b=some u→¬Mut (some u)→b≠x:=fun b u q nm z=>by subst z;rw [q] at mu;exact nm mu
  refine ⟨fun b u q n _ _=>k b u (hb b n) q,fun b u q n _ _=>⟨u.slots,k b u (hb b n) q⟩,fun b u q n _=>by rw [zal (hx b n)];exact n,fun b u q _=>?_,
    fun b xs q=>by rw [zal (hm b _ q fun z=>z)];exact q,fun b u xs q=>by rw [zal (hm b _ q fun z=>z)];exact q,fun b ps q=>⟨#[],by rw [zal (hm b _ q fun z=>z),q];simp⟩⟩
  by_cases hbe:b=e
  · subst hbe;exact heo
  · exact ⟨u,k b u hbe q⟩
end
noncomputable def trk (h:Heap) (H:Hp):List Addr:=(List.range h.objs.size).filter fun a=>(H a).isSome
noncomputable def hidT (h:Heap) (H:Hp):Heap:=PySem.W.hideAll h (trk h H)
theorem zme (h:Heap) (H:Hp):(hidT h H).objs.size=h.objs.size:=PySem.W.hideAll_size _ _
theorem zn0 {h:Heap} {H:Hp} {b:Addr} {o:Obj} (e:h.get? b=some o) (n:H b=none):(hidT h H).get? b=some o :=
  PySem.W.hideAll_get _ e fun hm=>by
    have q:(H b).isSome=true:=(List.mem_filter.mp hm).2
    rw [n] at q;simp at q
theorem zps {h:Heap} {H:Hp} {b:Addr} {o:Obj} (e:(hidT h H).get? b=some o):h.get? b=some o∧H b=none:=by
  have e':h.get? b=some o:=PySem.W.of_hideAll (trk h H) e
  refine ⟨e',?_⟩
  cases q:H b with
  | none=>rfl
  | some x =>
    have hm:b∈trk h H:=List.mem_filter.mpr ⟨List.mem_range.mpr (Heap.lt_size e'),by simp [q]⟩
    have z:(hidT h H).get? b=none:=PySem.W.hideAll_none (trk h H) hm
    rw [z] at e;cases e
noncomputable def allNews (g h:Heap) (L:Addr):List (Addr×Obj):=(List.range h.objs.size).filterMap fun a=>if a=L∨(g.get? a).isSome=true then none else (h.get? a).map fun o=>(a,o)
noncomputable def rest (g h:Heap) (L d:Addr):List (Addr×Obj):=(allNews g h L).filter fun p=>decide (p.1≠d)
end L2
namespace L2
open PySem PySem.Spec PyProof.Rows
structure Mod (K:PySem.W.Frag) (mg:Str→Option Value) (base:Heap):Prop where
  kin:K.In base
  glob:base.Ns mainGlobals mg
  blt:∃mb,base.Ns builtinsNs mb∧∀x:Str,x≠"__name__"→mb x=bootBuiltins x
  nolimit:base.NoLimit
structure Cx where
  prog:Program
  w:World
  K:PySem.W.Frag
  mg:Str→Option Value
  base:Heap
  A:Around
  N:List Str
  s₀:Shared
  H₀:Hp
  env:Env
  outer:List Env
  stack:List Env
  ex:List Addr
  fn:Str→Bool
  calm:Bool
  pn:List (Addr×Obj)
  xe:Value→Shared→Prop
noncomputable def frs (l:List Env):List Addr:=l.filterMap (·.frame)
noncomputable abbrev Cx.fs (X:Cx):List Addr:=frs X.outer
def Vis (sc:Scope) (x:Str):Prop:=sc.names.lookup x=some .local∨sc.names.lookup x=some .cell∨sc.names.lookup x=some .free
def Loc (sc:Scope) (x:Str):Prop:=sc.names.lookup x=some .local∨sc.names.lookup x=some .cell
def Look (env:Env) (h:Heap) (m:Str→Option Value) (x:Str) (u:Value):Prop :=
  (env.kindOf x=some .local∧m x=some u)∨((env.kindOf x=some .cell∨env.kindOf x=some .free)∧∃c,env.cells.lookup x=some c∧h.IsCell c (some u))
structure Cx.Ok (X:Cx):Prop where
  mod:Mod X.K X.mg X.base
  kind:X.env.scope.kind=.function
  glob:X.env.globals=mainGlobals
  blt:X.env.builtins=builtinsNs
  above:X.s₀.heap.objs.size≤X.env.locals
  inj:∀x y c,X.env.cells.lookup x=some c→X.env.cells.lookup y=some c→x=y
  has:∀x,(X.env.kindOf x=some .cell∨X.env.kindOf x=some .free)→∃c,X.env.cells.lookup x=some c
  cab:∀x c,X.fn x=true→X.env.cells.lookup x=some c→X.s₀.heap.objs.size≤c
  hd:X.calm=true→X.A.handled=none
  frames:X.A.frames=some X.stack
  stk:X.stack=X.outer∨(X.stack=X.env::X.outer∧X.env.frame=some X.env.locals)
  exf:∀b∈X.ex,b≠X.env.locals∧∀x c,X.env.cells.lookup x=some c→c≠b
  bs:∀b o,X.base.get? b=some o→X.s₀.heap.get? b=some o∧X.H₀ b=none
  bsz:X.base.objs.size≤X.s₀.heap.objs.size
  noex:∀b o,X.base.get? b=some o→b∉X.ex
  exfs:∀b∈X.ex,b∉X.fs
  funs:X.s₀.heap.FunFrames X.base X.outer
  frf:∀b∈X.fs,X.H₀ b=none
structure Inv (X:Cx) (pins:List (Addr×Obj)) (σ:List (Option V)) (H:Hp) (s:Shared):Prop where
  ok:X.Ok
  os:s.os=X.s₀.os
  bare:AllBare s.gens
  base:Un X.fs X.ex X.H₀ H X.s₀.heap s.heap
  loc:∃m,s.heap.Ns X.env.locals m∧∀(i:Nat) (x:Str) (v:V),X.N[i]?=some x→σ[i]?=some (some v)→Vis X.env.scope x→∃u,RelV v u∧Look X.env s.heap m x u
  cell:∀x c,X.env.cells.lookup x=some c→∃v,s.heap.IsCell c v
  free:H X.env.locals=none
  freeC:∀x c,X.env.cells.lookup x=some c→H c=none
  pin:∀p∈X.pn++pins,s.heap.get? p.1=some p.2∧H p.1=none∧p.1≠X.env.locals∧p.1∉X.fs∧∀v,p.2.data≠.cell v
  hok:HOk X.prog X.w H s.heap
  len:σ.length=X.N.length
section
variable {X:Cx} {pins:List (Addr×Obj)} {σ:List (Option V)} {H H':Hp} {s:Shared} {h':Heap}
theorem Cx.Ok.nofr (ok:X.Ok) {b:Addr} {o:Obj} (e:X.base.get? b=some o):b∉X.fs:=fun hb=>by
  have:=(ok.funs.mem hb).1
  rw [e] at this;cases this
theorem Inv.bs (I:Inv X pins σ H s):∀b o,X.base.get? b=some o→s.heap.get? b=some o∧H b=none:=fun b o e =>
  ⟨I.base.keep b o (I.ok.bs b o e).1 (I.ok.bs b o e).2 (I.ok.nofr e) (I.ok.noex b o e),I.base.free b o (I.ok.bs b o e).1 (I.ok.bs b o e).2 (I.ok.noex b o e)⟩
theorem Inv.bk (I:Inv X pins σ H s):∀b o,X.base.get? b=some o→s.heap.get? b=some o:=fun b o e=>(I.bs b o e).1
theorem Inv.mod (I:Inv X pins σ H s):Mod X.K X.mg X.base:=I.ok.mod
theorem Inv.kIn (I:Inv X pins σ H s):X.K.In s.heap:=I.ok.mod.kin.keeps I.bk
theorem Inv.lt (I:Inv X pins σ H s):X.env.locals<s.heap.objs.size:=let ⟨_,hn,_⟩:=I.loc;hn.lt
theorem Inv.sz (I:Inv X pins σ H s):X.s₀.heap.objs.size≤s.heap.objs.size:=Nat.le_trans I.ok.above (Nat.le_of_lt I.lt)
theorem Inv.nofs (I:Inv X pins σ H s) {a:Addr} (h:s.heap.objs.size≤a):a∉X.fs:=fun hb=>by
  obtain ⟨_,o,ho,_⟩:=I.ok.funs.mem hb
  exact absurd (Nat.lt_of_lt_of_le (Heap.lt_size ho) (Nat.le_trans I.sz h)) (Nat.lt_irrefl _)
theorem Inv.cne (I:Inv X pins σ H s):∀x c,X.env.cells.lookup x=some c→c≠X.env.locals:=fun x c e z=>by
  obtain ⟨v,o,ho,hd⟩:=I.cell x c e
  obtain ⟨m,⟨o',es,ep,ho',hd',_⟩,_⟩:=I.loc
  rw [z,ho'] at ho;cases ho;rw [hd'] at hd;cases hd
theorem Inv.funs (I:Inv X pins σ H s):s.heap.FunFrames X.base X.outer:=by
  have all:∀(l:List Env),(∀b∈frs l,b∈X.fs)→X.s₀.heap.FunFrames X.base l→s.heap.FunFrames X.base l:=by
    intro l
    induction l with
    | nil=>intro _ _;trivial
    | cons env r ih =>
      intro hs hl
      obtain ⟨hk,⟨L,o,hf,hn,ho,hd⟩,hr⟩:=hl
      have hL:L∈X.fs:=hs L (by unfold frs;rw [List.filterMap_cons,hf];exact List.mem_cons_self)
      obtain ⟨sl,e⟩:=I.base.slot L o ho (I.ok.frf L hL) hL fun z=>I.ok.exfs L z hL
      exact ⟨hk,⟨L,_,hf,hn,e,hd⟩,ih (fun b hb=>hs b (by unfold frs;rw [List.filterMap_cons,hf];exact List.mem_cons_of_mem _ hb)) hr⟩
  exact all X.outer (fun _ hb=>hb) I.ok.funs
theorem Inv.stack (I:Inv X pins σ H s):s.heap.FunFrames X.base X.stack:=by
  rcases I.ok.stk with e|⟨e,hf⟩
  · rw [e];exact I.funs
  · rw [e]
    obtain ⟨m,hn,_⟩:=I.loc
    refine .cons (by rw [I.ok.kind];decide) hf hn ?_ I.funs
    exact Heap.get?_none_of_le (Nat.le_trans I.ok.bsz I.ok.above)
theorem Inv.stkSub (I:Inv X pins σ H s):∀b∈frs X.stack,b∈X.env.locals::X.fs:=fun b hb=>by
  rcases I.ok.stk with e|⟨e,hf⟩
  · rw [e] at hb;exact List.mem_cons_of_mem _ hb
  · rw [e] at hb
    unfold frs at hb
    rw [List.filterMap_cons,hf] at hb
    exact hb
theorem Inv.stkFree (I:Inv X pins σ H s):∀b∈frs X.stack,H b=none:=fun b hb=>by
  rcases List.mem_cons.mp (I.stkSub b hb) with e|hb
  · rw [e];exact I.free
  · obtain ⟨_,o,ho,_⟩:=I.ok.funs.mem hb
    exact I.base.free b o ho (I.ok.frf b hb) fun z=>I.ok.exfs b z hb
theorem Inv.step {g':Array GenState} {t':Nat} {d':Drawn} {ch:List Addr} (I:Inv X pins σ H s)
    (hch:∀b∈ch,(b∈X.ex∨X.s₀.heap.objs.size≤b)∧b≠X.env.locals∧(∀x c,X.env.cells.lookup x=some c→c≠b)∧∀p∈X.pn++pins,p.1≠b)
    (keep:∀b o,b≠X.env.locals→b∉X.fs→b∉ch→s.heap.get? b=some o→H b=none→h'.get? b=some o)
    (slot:∀b o,b≠X.env.locals→b∈X.fs→b∉ch→s.heap.get? b=some o→H b=none→∃sl,h'.get? b=some {o with slots:=sl}) (free:∀b o,b∉ch→s.heap.get? b=some o→H b=none→H' b=none)
    (there:∀b o,b∉ch→s.heap.get? b=some o→∃o',h'.get? b=some o')
    (tups:∀b xs,H b=some (.tup xs)→H' b=some (.tup xs)) (frzs:∀b o u,H b=some (.frz o u)→H' b=some (.frz o u)) (tbls:∀b ps,H b=some (.tbl ps)→∃more,H' b=some (.tbl (ps++more)))
    (ns:∀m,s.heap.Ns X.env.locals m→h'.Ns X.env.locals m) (hok:HOk X.prog X.w H' h') (hg:AllBare g') :
    Inv X pins σ H' {s with heap:=h',gens:=g',drawn:=d',toks:=t'}:=by
  have neL:∀b o,X.s₀.heap.get? b=some o→b≠X.env.locals:=fun b o e=>Nat.ne_of_lt (Nat.lt_of_lt_of_le (Heap.lt_size e) I.ok.above)
  have neC:∀b o,X.s₀.heap.get? b=some o→b∉X.ex→b∉ch:=fun b o e hx hb=>by
    rcases (hch b hb).1 with z|z
    · exact hx z
    · exact absurd (Nat.lt_of_lt_of_le (Heap.lt_size e) z) (Nat.lt_irrefl _)
  have cellK:∀x c,X.env.cells.lookup x=some c→∀v,s.heap.IsCell c v→h'.IsCell c v:=fun x c e v z_1=>by
    obtain ⟨o,ho,hd⟩:=z_1
    have nch:c∉ch:=fun z=>(hch c z).2.2.1 x c e rfl
    by_cases hc:c∈X.fs
    · obtain ⟨sl,q⟩:=slot c o (I.cne x c e) hc nch ho (I.freeC x c e)
      exact ⟨_,q,hd⟩
    · exact ⟨o,keep c o (I.cne x c e) hc nch ho (I.freeC x c e),hd⟩
  refine ⟨I.ok,I.os,hg,⟨fun b o e n hb hx=>?_,fun b o e n hb hx=>?_,fun b o e n hx=>?_,fun b o e hx=>?_,fun b xs e=>tups b xs (I.base.tups b xs e),fun b o xs e=>frzs b o xs (I.base.frzs b o xs e),fun b ps e=>?_⟩,?_,fun x c e=>?_,?_,fun x c e=>?_,fun p hp=>?_,hok,I.len⟩
  · exact keep b o (neL b o e) hb (neC b o e hx) (I.base.keep b o e n hb hx) (I.base.free b o e n hx)
  · obtain ⟨sl,e1⟩:=I.base.slot b o e n hb hx
    obtain ⟨sl',e2⟩:=slot b _ (neL b o e) hb (neC b o e hx) e1 (I.base.free b o e n hx)
    exact ⟨sl',e2⟩
  · obtain ⟨o',e1⟩:=I.base.there b o e hx
    exact free b o' (neC b o e hx) e1 (I.base.free b o e n hx)
  · obtain ⟨o',e1⟩:=I.base.there b o e hx
    exact there b o' (neC b o e hx) e1
  · obtain ⟨m1,e1⟩:=I.base.tbls b ps e
    obtain ⟨m2,e2⟩:=tbls b _ e1
    exact ⟨m1++m2,by rw [e2,Array.append_assoc]⟩
  · obtain ⟨m,hn,hl⟩:=I.loc
    refine ⟨m,ns m hn,fun i x v e1 e2 e3=>?_⟩
    obtain ⟨u,r,l⟩:=hl i x v e1 e2 e3
    refine ⟨u,r,?_⟩
    rcases l with l|⟨k,c,e,z⟩
    · exact .inl l
    · exact .inr ⟨k,c,e,cellK x c e _ z⟩
  · obtain ⟨v,z⟩:=I.cell x c e
    exact ⟨v,cellK x c e v z⟩
  · obtain ⟨m,⟨o,_,_,ho,_⟩,_⟩:=I.loc
    exact free _ o (fun z=>(hch _ z).2.1 rfl) ho I.free
  · obtain ⟨v,o,ho,hd⟩:=I.cell x c e
    exact free c o (fun z=>(hch c z).2.2.1 x c e rfl) ho (I.freeC x c e)
  · obtain ⟨e,n,ne,nf,d⟩:=I.pin p hp
    have nch:p.1∉ch:=fun z=>(hch p.1 z).2.2.2 p hp rfl
    exact ⟨keep p.1 p.2 ne nf nch e n,free p.1 p.2 nch e n,ne,nf,d⟩
theorem Inv.un {t':Nat} (I:Inv X pins σ H s) (u:Un X.fs [] H H' s.heap h') (hok:HOk X.prog X.w H' h'):Inv X pins σ H' {s with heap:=h',toks:=t'}:=by
  obtain ⟨m,⟨o,es,ep,ho,r⟩,_⟩:=id I.loc
  obtain ⟨sl,hL⟩:=u.any ho I.free (by simp)
  exact I.step (g':=s.gens) (d':=s.drawn) (ch:=[]) (fun _ z=>nomatch z) (fun b o _ hb _ e n=>u.keep b o e n hb (by simp)) (fun b o _ hb _ e n=>u.slot b o e n hb (by simp)) (fun b o _ e n=>u.free b o e n (by simp)) (fun b o _ e=>u.there b o e (by simp)) u.tups u.frzs u.tbls (fun m' hm=>by
    obtain ⟨o',es',ep',ho',r'⟩:=hm
    rw [ho] at ho';cases ho'
    exact ⟨_,es',ep',hL,r'⟩) hok I.bare
theorem Inv.call {g':Array GenState} {t':Nat} {d':Drawn} {ch:List Addr} (I:Inv X pins σ H s) (u:Un (frs X.stack) ch H H' s.heap h') (hok:HOk X.prog X.w H' h') (hg:AllBare g')
    (hch:∀b∈ch,(b∈X.ex∨X.s₀.heap.objs.size≤b)∧b≠X.env.locals∧(∀x c,X.env.cells.lookup x=some c→c≠b)∧∀p∈X.pn++pins,p.1≠b) :
    Inv X pins σ H' {s with heap:=h',gens:=g',drawn:=d',toks:=t'}:=by
  obtain ⟨m,⟨o,es,ep,ho,r⟩,_⟩:=id I.loc
  obtain ⟨sl,hL⟩:=u.any ho I.free fun z=>(hch _ z).2.1 rfl
  exact I.step (ch:=ch) hch (fun b o hL hb hc e n=>u.keep b o e n (fun z=>(List.mem_cons.mp (I.stkSub b z)).elim hL hb) hc) (fun b o _ _ hc e n=>u.any e n hc) (fun b o hc e n=>u.free b o e n hc) (fun b o hc e=>u.there b o e hc) u.tups u.frzs u.tbls (fun m' hm=>by
    obtain ⟨o',es',ep',ho',r'⟩:=hm
    rw [ho] at ho';cases ho'
    exact ⟨_,es',ep',hL,r'⟩) hok hg
theorem Inv.turned {t':Nat} {it:Addr} (I:Inv X pins σ H s) (k:∀b o,b≠it→s.heap.get? b=some o→h'.get? b=some o) (hn:H it=none) (hL:it≠X.env.locals)
    (h1:it∈X.ex∨X.s₀.heap.objs.size≤it) (h2:∀x c,X.env.cells.lookup x=some c→c≠it) (h3:∀p∈X.pn++pins,p.1≠it):Inv X pins σ H {s with heap:=h',toks:=t'}:=by
  have nit:∀b u,H b=some u→b≠it:=fun b u e z=>by rw [z,hn] at e;cases e
  refine I.step (g':=s.gens) (d':=s.drawn) (ch:=[it]) (fun b hb=>?_) (fun b o _ _ hc e _=>k b o (fun z=>hc (by simp [z])) e) (fun b o _ _ hc e _=>⟨o.slots,k b o (fun z=>hc (by simp [z])) e⟩) (fun _ _ _ _ n=>n)
    (fun b o hc e=>⟨o,k b o (fun z=>hc (by simp [z])) e⟩) (fun _ _ e=>e) (fun _ _ _ e=>e) (fun b ps e=>⟨#[],by rw [e];simp⟩) (fun m hm=>?_) (fun b u e=>?_) I.bare
  · have e:b=it:=by simpa using hb
    subst e
    exact ⟨h1,hL,h2,h3⟩
  · obtain ⟨o,es,ep,ho,r⟩:=hm
    exact ⟨o,es,ep,k _ o (Ne.symm hL) ho,r⟩
  · refine (I.hok b u e).stay (fun c v hc q=>k c v ?_ q) (fun _ q=>q) fun _ _ q=>q
    rcases hc with z|z
    · rw [z];exact nit b u e
    · exact nit c _ z
theorem Inv.tok (I:Inv X pins σ H s) (t:Nat):Inv X pins σ H {s with toks:=t}:=I.un (h':=s.heap) (t':=t) Un.refl I.hok
theorem Inv.kept {t':Nat} (I:Inv X pins σ H s) (k:∀b u,s.heap.get? b=some u→h'.get? b=some u):Inv X pins σ H {s with heap:=h',toks:=t'}:=I.un (Un.kept k) (I.hok.kept k)
theorem Inv.laid {a:Addr} {o:HO} {t':Nat} (I:Inv X pins σ H s) (k:∀b u,s.heap.get? b=some u→h'.get? b=some u) (hp:s.heap.objs.size≤a) (new:ObjOk X.prog X.w (upd H a o) h' a o) :
    Inv X pins σ (upd H a o) {s with heap:=h',toks:=t'}:=I.un (Un.laid k hp (I.hok.fresh hp)) (I.hok.laid k hp new)
theorem Inv.write {x e:Addr} {o:HO} {t':Nat} (I:Inv X pins σ H s) (mu:Mut (H x)) (he:e=x∨H e=some (.own x)) (k:∀b u,b≠e→s.heap.get? b=some u→h'.get? b=some u) (heo:∃u,h'.get? e=some u)
    (new:ObjOk X.prog X.w (upd H x o) h' x o):Inv X pins σ (upd H x o) {s with heap:=h',toks:=t'}:=I.un (Un.write mu he k heo) (I.hok.write mu he k heo new)
theorem Inv.pins_of {pins':List (Addr×Obj)} (I:Inv X pins σ H s) (h:∀p∈pins',s.heap.get? p.1=some p.2∧H p.1=none∧p.1≠X.env.locals∧p.1∉X.fs∧∀v,p.2.data≠.cell v):Inv X pins' σ H s :=
  ⟨I.ok,I.os,I.bare,I.base,I.loc,I.cell,I.free,I.freeC,fun p hp=>(List.mem_append.mp hp).elim (fun z=>I.pin p (List.mem_append_left _ z)) (h p),I.hok,I.len⟩
theorem zgy {N:List Str} (hN:N.Nodup) {i j:Nat} {x:Str} (a:N[i]?=some x) (b:N[j]?=some x):i=j:=by
  obtain ⟨h1,e1⟩:=List.getElem?_eq_some_iff.mp a
  obtain ⟨h2,e2⟩:=List.getElem?_eq_some_iff.mp b
  exact (List.getElem_inj hN).mp (e1.trans e2.symm)
theorem zg9 {M:Model} {A:Around} {E:Value→Shared→Prop} {i:Nat} {x:Str} {v:V} {u:Value} {Q:Unit→Shared→Prop} (I:Inv X pins σ H s) (hN:X.N.Nodup) (hi:X.N[i]?=some x) (hx:Loc X.env.scope x) (r:RelV v u)
    (h:∀s',Inv X pins (σ.set i (some v)) H s'→(∃a,Heap.SameBut a s.heap s'.heap∧(a=X.env.locals∨X.env.cells.lookup x=some a))→Q () s') (hf:X.fn x=true∨X.env.scope.names.lookup x=some .local:=by first|exact .inl rfl|exact .inr rfl|assumption):wpAny M A (storeName X.env x u) Q E s:=by
  obtain ⟨m,hn,hl⟩:=id I.loc
  have hcls:(X.env.scope.kind == .class||(X.env.scope.kind == .module&&X.env.locals != X.env.globals))=false:=by rw [I.ok.kind];rfl
  have hiσ:i<σ.length:=by rw [I.len];exact (List.getElem?_eq_some_iff.mp hi).1
  have cne:=I.cne
  have tracked:∀{a:Addr} {h':Heap},(∃o,s.heap.get? a=some o∧H a=none)→Heap.SameBut a s.heap h'→HOk X.prog X.w H h':=fun {a h'} ha hs b ob e=>by
    obtain ⟨_,_,hfree⟩:=ha
    refine (I.hok b ob e).stay (fun c w' hc q=>(hs.2 c ?_).trans q) (fun _ q=>q) fun _ _ q=>q
    rintro rfl
    rcases hc with rfl|hc
    · rw [hfree] at e;cases e
    · rw [hfree] at hc;cases hc
  rcases hx with hk|hk
  · refine wpAny_storeName_local hk hn (fun h' hn' hs=>?_) hcls
    obtain ⟨oL,_,_,hoL,_⟩:=id hn
    refine h _ ⟨I.ok,I.os,I.bare,⟨fun b o e n hb hx=>?_,fun b o e n hb hx=>?_,I.base.free,fun b o e hx=>?_,I.base.tups,I.base.frzs,I.base.tbls⟩,⟨_,hn',fun j y v' e1 e2 e3=>?_⟩,fun y c e=>?_,I.free,I.freeC,fun p hp=>?_,tracked ⟨oL,hoL,I.free⟩ hs,by simpa using I.len⟩ ⟨_,hs,.inl rfl⟩
    · exact (hs.2 b (Nat.ne_of_lt (Nat.lt_of_lt_of_le (Heap.lt_size e) I.ok.above))).trans (I.base.keep b o e n hb hx)
    · obtain ⟨sl,e1⟩:=I.base.slot b o e n hb hx
      exact ⟨sl,(hs.2 b (Nat.ne_of_lt (Nat.lt_of_lt_of_le (Heap.lt_size e) I.ok.above))).trans e1⟩
    · obtain ⟨o',e1⟩:=I.base.there b o e hx
      exact ⟨o',(hs.2 b (Nat.ne_of_lt (Nat.lt_of_lt_of_le (Heap.lt_size e) I.ok.above))).trans e1⟩
    · by_cases hj:j=i
      · subst hj
        rw [hi] at e1;cases e1
        rw [List.getElem?_set_self hiσ] at e2
        cases e2
        exact ⟨u,r,.inl ⟨hk,by simp⟩⟩
      · rw [List.getElem?_set_ne (Ne.symm hj)] at e2
        obtain ⟨u',r',q⟩:=hl j y v' e1 e2 e3
        refine ⟨u',r',?_⟩
        rcases q with ⟨k,e⟩|⟨k,c,e,z⟩
        · refine .inl ⟨k,?_⟩
          have:y≠x:=fun e=>hj (zgy hN e1 (e▸hi))
          simp [this,e]
        · exact .inr ⟨k,c,e,z.sameBut hs (cne y c e)⟩
    · obtain ⟨w',z⟩:=I.cell y c e
      exact ⟨w',z.sameBut hs (cne y c e)⟩
    · obtain ⟨e,n,ne,nf,d⟩:=I.pin p hp
      exact ⟨(hs.2 p.1 ne).trans e,n,ne,nf,d⟩
  · have hfn:X.fn x=true:=by
      rcases hf with z|z
      · exact z
      · rw [z] at hk;cases hk
    obtain ⟨c,hc⟩:=I.ok.has x (.inl hk)
    obtain ⟨w',z⟩:=I.cell x c hc
    refine wpAny_storeName_cell I.ok.kind hk hc z (fun h' hc' hs=>?_)
    obtain ⟨oc,hoc,hocd⟩:=id z
    refine h {s with heap:=h'} ⟨I.ok,I.os,I.bare,⟨fun b o e n hb hx=>?_,fun b o e n hb hx=>?_,I.base.free,fun b o e hx=>?_,I.base.tups,I.base.frzs,I.base.tbls⟩,⟨m,hn.sameBut hs (Ne.symm (cne x c hc)),fun j y v' e1 e2 e3=>?_⟩,fun y c' e=>?_,I.free,I.freeC,fun p hp=>?_,tracked ⟨oc,hoc,I.freeC x c hc⟩ hs,by simpa using I.len⟩ ⟨c,hs,.inr hc⟩
    · exact (hs.2 b (Nat.ne_of_lt (Nat.lt_of_lt_of_le (Heap.lt_size e) (I.ok.cab x c hfn hc)))).trans (I.base.keep b o e n hb hx)
    · obtain ⟨sl,e1⟩:=I.base.slot b o e n hb hx
      exact ⟨sl,(hs.2 b (Nat.ne_of_lt (Nat.lt_of_lt_of_le (Heap.lt_size e) (I.ok.cab x c hfn hc)))).trans e1⟩
    · obtain ⟨o',e1⟩:=I.base.there b o e hx
      exact ⟨o',(hs.2 b (Nat.ne_of_lt (Nat.lt_of_lt_of_le (Heap.lt_size e) (I.ok.cab x c hfn hc)))).trans e1⟩
    · by_cases hj:j=i
      · subst hj
        rw [hi] at e1;cases e1
        rw [List.getElem?_set_self hiσ] at e2
        cases e2
        exact ⟨u,r,.inr ⟨.inl hk,c,hc,hc'⟩⟩
      · rw [List.getElem?_set_ne (Ne.symm hj)] at e2
        obtain ⟨u',r',q⟩:=hl j y v' e1 e2 e3
        refine ⟨u',r',?_⟩
        rcases q with q|⟨k,c',e,z'⟩
        · exact .inl q
        · refine .inr ⟨k,c',e,z'.sameBut hs ?_⟩
          rintro rfl
          exact hj (zgy hN e1 (I.ok.inj _ _ _ e hc▸hi))
    · by_cases hcc:c'=c
      · subst hcc;exact ⟨_,hc'⟩
      · obtain ⟨w2,z2⟩:=I.cell y c' e
        exact ⟨w2,z2.sameBut hs hcc⟩
    · obtain ⟨e,n,ne,nf,d⟩:=I.pin p hp
      refine ⟨(hs.2 p.1 ?_).trans e,n,ne,nf,d⟩
      intro q
      rw [q,hoc] at e
      have q':oc=p.2:=Option.some.inj e
      exact d w' (by rw [←q'];exact hocd)
theorem zey {M:Model} {A:Around} {E:Value→Shared→Prop} {i:Nat} {x:Str} {v:V} {u:Value} {Q:Unit→Shared→Prop} (I:Inv X pins σ H s) (hN:X.N.Nodup) (hi:X.N[i]?=some x) (hx:Loc X.env.scope x) (r:RelV v u)
    (h:∀s',Inv X pins (σ.set i (some v)) H s'→Q () s') (hf:X.fn x=true∨X.env.scope.names.lookup x=some .local:=by first|exact .inl rfl|exact .inr rfl|assumption):wpAny M A (storeName X.env x u) Q E s :=
  zg9 I hN hi hx r (fun s' I' _=>h s' I') hf
theorem Inv.call' {s':Shared} {ch:List Addr} (I:Inv X pins σ H s) (ho:s'.os=s.os) (u:Un (frs X.stack) ch H H' s.heap s'.heap) (hok:HOk X.prog X.w H' s'.heap) (hg:AllBare s'.gens)
    (hch:∀b∈ch,(b∈X.ex∨X.s₀.heap.objs.size≤b)∧b≠X.env.locals∧(∀x c,X.env.cells.lookup x=some c→c≠b)∧∀p∈X.pn++pins,p.1≠b):Inv X pins σ H' s':=by
  obtain ⟨h',g',d',t',o'⟩:=s'
  have e:o'=s.os:=ho
  subst e
  exact I.call (g':=g') (t':=t') (d':=d') u hok hg hch
end
noncomputable abbrev XK:=Value→Option Addr→Hp→Prop
noncomputable abbrev St:=List (Option V)
noncomputable abbrev VK:=V→Hp→Prop
noncomputable abbrev TE:=St→Hp→VK→Prop
noncomputable abbrev TT:=St→Hp→(Bool→Hp→Prop)→Prop
noncomputable abbrev TA:=St→Hp→(List V→Hp→Prop)→Prop
structure Ends where
  nx:St→Hp→Prop
  rt:VK
  bk:St→Hp→Prop:=fun _ _=>False
  ct:St→Hp→Prop:=fun _ _=>False
noncomputable abbrev TS:=Ends→St→Hp→Prop
inductive EP (X:Cx) (pins:List (Addr×Obj)) (σ:St) (Q:VK) (u:Value) (s':Shared):Prop where
  | mk (v:V) (H':Hp) (I:Inv X pins σ H' s') (r:RelV v u) (q:Q v H')
def TP (X:Cx) (pins:List (Addr×Obj)) (σ:St) (Q:Bool→Hp→Prop) (b:Bool) (s':Shared):Prop:=∃H',Inv X pins σ H' s'∧Q b H'
inductive AP (X:Cx) (pins:List (Addr×Obj)) (σ:St) (Q:List V→Hp→Prop) (us:List Value) (s':Shared):Prop where
  | mk (vs:List V) (H':Hp) (I:Inv X pins σ H' s') (r:Vals vs us) (q:Q vs H')
def SP (X:Cx) (pins:List (Addr×Obj)) (D:Ends) (f:Flow) (s':Shared):Prop :=
  match f with
  | .next=>∃σ' H',Inv X pins σ' H' s'∧D.nx σ' H'
  | .brk=>∃σ' H',Inv X pins σ' H' s'∧D.bk σ' H'
  | .cont=>∃σ' H',Inv X pins σ' H' s'∧D.ct σ' H'
  | .ret u=>∃v σ' H',Inv X pins σ' H' s'∧RelV v u∧D.rt v H'
def PE (X:Cx) (e:Expr) (t:TE):Prop :=
  ∀(pins:List (Addr×Obj)) (s:Shared) (σ:St) (H:Hp) (Q:VK),Inv X pins σ H s→t σ H Q→wpAny (model X.prog X.w) X.A (eval e X.env) (EP X pins σ Q) X.xe s
def PT (X:Cx) (e:Expr) (t:TT):Prop :=
  ∀(pins:List (Addr×Obj)) (s:Shared) (σ:St) (H:Hp) (Q:Bool→Hp→Prop),Inv X pins σ H s→t σ H Q→wpAny (model X.prog X.w) X.A (isTrue e X.env (eval e X.env)) (TP X pins σ Q) X.xe s
def PW (X:Cx) (e:Expr) (t:TT):Prop :=
  ∀(whole:Sem Value) (pins:List (Addr×Obj)) (s:Shared) (σ:St) (H:Hp) (Q:Bool→Hp→Prop),Inv X pins σ H s→t σ H Q→wpAny (model X.prog X.w) X.A (isTrue e X.env whole) (TP X pins σ Q) X.xe s
theorem PW.pt {X:Cx} {e:Expr} {t:TT} (h:PW X e t):PT X e t:=h _
def PA (X:Cx) (es:List Expr) (t:TA):Prop :=
  ∀(pos:Pos) (pins:List (Addr×Obj)) (s:Shared) (σ:St) (H:Hp) (Q:List V→Hp→Prop),Inv X pins σ H s→t σ H Q→wpAny (model X.prog X.w) X.A (spliced (backTo pos (starEach es X.env))) (AP X pins σ Q) X.xe s
def PS (X:Cx) (st:Stmt) (t:TS):Prop :=
  ∀(pins:List (Addr×Obj)) (s:Shared) (σ:St) (H:Hp) (D:Ends),Inv X pins σ H s→t D σ H→wpAny (model X.prog X.w) X.A (exec st X.env) (SP X pins D) X.xe s
def PSs (X:Cx) (st:List Stmt) (t:TS):Prop :=
  ∀(pins:List (Addr×Obj)) (s:Shared) (σ:St) (H:Hp) (D:Ends),Inv X pins σ H s→t D σ H→wpAny (model X.prog X.w) X.A (execs st X.env) (SP X pins D) X.xe s
theorem thn {α:Type} {t:Sem α} {Q Q':α→Shared→Prop} {M:Model} {A:Around} {E:Value→Shared→Prop} {s:Shared} (h:wpAny M A t Q E s) (hQ:∀a s,Q a s→Q' a s):wpAny M A t Q' E s:=wpAny_mono h hQ fun _ _ x=>x
end L2
namespace L2
open PySem PySem.Spec PyProof.Rows
section
variable {X:Cx}
theorem bin {a b:Expr} {ta tb:TE} (ha:PE X a ta) (hb:PE X b tb) {pins:List (Addr×Obj)} {s:Shared} {σ:St} {H:Hp} {R:V→V→Hp→Prop} (I:Inv X pins σ H s) (h:ta σ H fun x H1=>tb σ H1 fun y H2=>R x y H2)
    {α:Type} {Q:α→Shared→Prop} {f:Value→Value→Sem α}
    (hf:∀v u s2 x y H2,Inv X pins σ H2 s2→RelV x v→RelV y u→R x y H2→wpAny (model X.prog X.w) X.A (f v u) Q X.xe s2) :
    wpAny (model X.prog X.w) X.A (eval a X.env) (fun v s₁=>wpAny (model X.prog X.w) X.A (eval b X.env) (fun u s₂=>wpAny (model X.prog X.w) X.A (f v u) Q X.xe s₂) X.xe s₁) X.xe s:=by
  refine thn (ha pins s σ H _ I h) fun v s1 ⟨x,H1,I1,r1,q1⟩=>?_
  refine thn (hb pins s1 σ H1 _ I1 q1) fun u s2 ⟨y,H2,I2,r2,q2⟩=>?_
  exact hf v u s2 x y H2 I2 r1 r2 q2
def tVar (i:Nat):TE:=fun σ H Q=>∃v,σ[i]?=some (some v)∧Q v H
def tC (v:V):TE:=fun _ H Q=>Q v H
theorem pe_var {i:Nat} {x:Str} {pos:Pos} (hN:X.N[i]?=some x) (hv:Vis X.env.scope x) (hd:(x==("__debug__":Str))=false:=by decide) (hcd:(x==("__classdict__":Str))=false:=by decide):PE X (.Name x pos) (tVar i):=by
  intro pins s σ H Q I h
  obtain ⟨v,e,h⟩:=h
  obtain ⟨m,hn,hl⟩:=I.loc
  obtain ⟨u,r,l⟩:=hl i x v hN e hv
  have fin:EP X pins σ Q u s:=⟨v,H,I,r,h⟩
  rcases l with ⟨hk,hm⟩|⟨hk,c,hc,hcell⟩
  · exact wpAny_Name (wpAny_loadName_local I.ok.kind hk hn hm fin) hd
  · rcases hk with hk|hk
    · exact wpAny_Name (wpAny_loadName_cell I.ok.kind hk hc hcell fin) hd
    · exact wpAny_Name (wpAny_loadName_free I.ok.kind hk hc hcell fin hcd) hd
theorem pe_int {i j pos}:PE X (.Constant (.int i) j pos) (tC (.int i)):=fun _ _ _ H _ I h=>wpAny_Constant_int ⟨.int i,H,I.tok _,⟨_,rfl⟩,h⟩
theorem pe_bl {b j pos}:PE X (.Constant (.bool b) j pos) (tC (.bl b)):=fun _ _ _ H _ I h=>Constant_bool ⟨.bl b,H,I,rfl,h⟩
theorem pe_non {j pos}:PE X (.Constant .none j pos) (tC .non):=fun _ _ _ H _ I h=>Constant_none ⟨.non,H,I,rfl,h⟩
theorem pe_str {x j pos}:PE X (.Constant (.str x) j pos) (tC (.str x)):=fun _ _ _ H _ I h=>Calls.Constant_str ⟨.str x,H,I.tok _,⟨_,rfl⟩,h⟩
def Gl (X:Cx) (x:Str):Prop:=X.env.kindOf x=some .globalImplicit
theorem zfl {E:Value→Shared→Prop} {pins:List (Addr×Obj)} {s:Shared} {σ:St} {H:Hp} {x:Str} {u:Value} {pos:Pos} {Q:Value→Shared→Prop} (I:Inv X pins σ H s) (hg:Gl X x) (hm:X.mg x=some u) (h:Q u s)
    (hd:(x==("__debug__":Str))=false:=by decide):wpAny (model X.prog X.w) X.A (eval (.Name x pos) X.env) Q E s :=
  Calls.Name_function_global I.ok.kind hg (Calls.loadGlobal_global (by rw [I.ok.glob];exact I.mod.glob.keeps I.bk) hm h) hd
theorem zhn {E:Value→Shared→Prop} {pins:List (Addr×Obj)} {s:Shared} {σ:St} {H:Hp} {x:Str} {u:Value} {pos:Pos} {Q:Value→Shared→Prop} (I:Inv X pins σ H s) (hg:Gl X x) (hm:X.mg x=none) (hv:bootBuiltins x=some u) (h:Q u s)
    (hn:x≠"__name__":=by decide) (hd:(x==("__debug__":Str))=false:=by decide):wpAny (model X.prog X.w) X.A (eval (.Name x pos) X.env) Q E s:=by
  obtain ⟨mb,h1,h2⟩:=I.mod.blt
  exact Calls.Name_function_global I.ok.kind hg (Calls.loadGlobal_builtin (by rw [I.ok.glob];exact I.mod.glob.keeps I.bk) hm (by rw [I.ok.blt];exact h1.keeps I.bk) ((h2 x hn).trans hv) h) hd
theorem zlr {x:Str} {v:V} {u:Value} {pos:Pos} (hg:Gl X x) (hm:X.mg x=some u) (r:RelV v u) (hd:(x==("__debug__":Str))=false:=by decide):PE X (.Name x pos) (tC v) :=
  fun _ _ _ H _ I h=>zfl I hg hm ⟨v,H,I,r,h⟩ hd
variable {a b:Expr} {ta tb:TE} {pos:Pos}
def PC (X:Cx) (op:CmpOp) (a b:Expr) (t:TE):Prop :=
  ∀(pins:List (Addr×Obj)) (s:Shared) (σ:St) (H:Hp) (Q:VK),Inv X pins σ H s→t σ H Q →
    wpAny (model X.prog X.w) X.A (eval a X.env) (fun v s₁=>wpAny (model X.prog X.w) X.A (eval b X.env) (fun u s₂=>wpAny (model X.prog X.w) X.A (compareOp op v u) (EP X pins σ Q) X.xe s₂) X.xe s₁) X.xe s
theorem nobehind (b:Expr) {op:CmpOp} (h:op≠.In) (h2:op≠.NotIn):behindInMarks op b=false:=by
  have e1:(op==CmpOp.In)=false:=by cases op<;>first|rfl|exact absurd rfl h
  have e2:(op==CmpOp.NotIn)=false:=by cases op<;>first|rfl|exact absurd rfl h2
  cases b<;>simp [behindInMarks,e1,e2]
def tB (t:TE):TT:=fun σ H Q=>t σ H fun x H1=>∃c,x=.bl c∧Q c H1
theorem pt_cmp {op:CmpOp} {t:TE} (h:PC X op a b t) (h1:behindInMarks op b=false:=by first|exact nobehind _ (by decide) (by decide)|rfl):PT X (.Compare a [op] [b] pos) (tB t):=by
  intro pins s σ H Q I hw
  refine wpAny_isTrue_Compare1 (thn (h pins s σ H _ I hw) fun v s1 h1=>thn h1 fun u s2 h2=>thn h2 fun c s3 ⟨x,H1,I1,r1,q1⟩=>?_) h1
  obtain ⟨d,rfl,q⟩:=q1
  cases r1
  exact wpAny_truthy_bool ⟨H1,I1,q⟩
theorem pt_val {e:Expr} {t:TE} (h:PE X e t) (he:∀whole,isTrue e X.env whole=(do let v ←whole;standAt e.pos;holding [v] (truthy v)):=by intro _;rfl):PT X e (tB t):=by
  intro pins s σ H Q I hw
  refine isTrue_plain (thn (h pins s σ H _ I hw) fun v s1 ⟨x,H1,I1,r1,q1⟩=>?_) (he _)
  obtain ⟨d,rfl,q⟩:=q1
  cases r1
  exact wpAny_truthy_bool ⟨H1,I1,q⟩
variable {tA tB':TT} {rest:List Expr}
def tAnd (t u:TT):TT:=fun σ H Q=>t σ H fun c H1=>if c=true then u σ H1 Q else Q false H1
def tNot (t:TT):TT:=fun σ H Q=>t σ H fun c H1=>Q (!c) H1
theorem zo2 (ha:PT X a tA):PW X (.BoolOp .And [a] pos) tA:=by
  intro wh pins s σ H Q I h
  refine isTrue_and (thn (ha pins s σ H Q I h) fun c s1 e=>?_)
  cases c with
  | true=>exact isTrue_and_nil e
  | false=>exact e
theorem pw_and (ha:PT X a tA) (hb:PW X (.BoolOp .And (b::rest) pos) tB'):PW X (.BoolOp .And (a::b::rest) pos) (tAnd tA tB'):=by
  intro wh pins s σ H Q I h
  refine isTrue_and (thn (ha pins s σ H _ I h) fun c s1 ⟨H1,I1,q1⟩=>?_)
  cases c with
  | true=>exact hb wh pins s1 σ H1 Q I1 q1
  | false=>exact ⟨H1,I1,q1⟩
theorem pt_not (ha:PT X a tA):PT X (.UnaryOp .Not a pos) (tNot tA):=by
  intro pins s σ H Q I h
  exact isTrue_not (ha pins s σ H (fun c H1=>Q (!c) H1) I h)
def tIf (t:TT) (ta tb:TE):TE:=fun σ H Q=>t σ H fun c H1=>if c=true then ta σ H1 Q else tb σ H1 Q
theorem znk {c:Expr} (hc:PT X c tA) (ha:PE X a ta) (hb:PE X b tb):PE X (.IfExp c a b pos) (tIf tA ta tb):=by
  intro pins s σ H Q I h
  refine wpAny_IfExp (thn (hc pins s σ H _ I h) fun d s1 ⟨H1,I1,q1⟩=>?_)
  cases d with
  | true=>exact ha pins s1 σ H1 Q I1 q1
  | false=>exact hb pins s1 σ H1 Q I1 q1
end
end L2
namespace L2
open PySem PySem.Spec PyProof.Rows
def SqL (K:PySem.W.Frag) (H:Hp) (a:Addr) (xs:List V):Prop :=
  Rd H a (.lst xs) ∨
    ∃(o:Obj) (its:Array Value) (n:Nat),K.lookup a=some o∧o.cls=.type "list"∧o.dict=none∧o.data=.seq its n∧its.size≤sizeLine∧Vals xs its.toList
def SqT (K:PySem.W.Frag) (H:Hp) (a:Addr) (xs:List V):Prop :=
  Rd H a (.tup xs) ∨
    ∃(o:Obj) (its:Array Value) (n:Nat),K.lookup a=some o∧o.cls=.type "tuple"∧o.dict=none∧o.data=.seq its n∧its.size≤sizeLine∧Vals xs its.toList
noncomputable def absV:Value→Option V
  | .none=>some .non
  | .bool b=>some (.bl b)
  | .int i _=>some (.int i)
  | .str x _=>some (.str x)
  | .bytes b _=>some (.byt b)
  | .float b _=>some (.flt b)
  | .ref a=>some (.ref a)
  | .type n=>some (.ty n)
  | _=>none
theorem RelV.abs {x:V} {u:Value} (r:RelV x u):absV u=some x:=by
  cases x with
  | non=>cases r;rfl
  | bl _=>cases r;rfl
  | int _=>obtain ⟨t,rfl⟩:=r;rfl
  | str _=>obtain ⟨t,rfl⟩:=r;rfl
  | byt _=>obtain ⟨t,rfl⟩:=r;rfl
  | flt _=>obtain ⟨t,rfl⟩:=r;rfl
  | ref _=>cases r;rfl
  | ty _=>cases r;rfl
theorem RelV.inj {x y:V} {u:Value} (r:RelV x u) (q:RelV y u):x=y:=Option.some.inj (r.abs.symm.trans q.abs)
theorem Vals.inj:∀{xs ys:List V} {us:List Value},Vals xs us→Vals ys us→xs=ys
  | _,_,_,.nil,.nil=>rfl
  | _,_,_,.cons r t,.cons r' t'=>by rw [r.inj r',Vals.inj t t']
section
variable {X:Cx} {pins:List (Addr×Obj)} {σ:St} {H:Hp} {s:Shared} {a:Addr} {xs ys:List V}
theorem SqL.of {K:PySem.W.Frag} (h:H a=some (.lst xs)):SqL K H a xs:=.inl (.inl h)
theorem SqT.of {K:PySem.W.Frag} (h:H a=some (.tup xs)):SqT K H a xs:=.inl (.inl h)
theorem Inv.list (I:Inv X pins σ H s) (h:SqL X.K H a xs):∃its:List Value,Vals xs its∧PlainL s.heap a its.toArray∧xs.length≤sizeLine:=by
  rcases h with h|⟨o,its,n,hk,hc,hd,hs,hz,r⟩
  · obtain ⟨z,its,n,r,e⟩:=h.ok I.hok
    exact ⟨its,r,⟨_,n,e,rfl,rfl,rfl⟩,z⟩
  · refine ⟨its.toList,r,⟨o,n,I.kIn a o hk,hc,hd,by simpa using hs⟩,?_⟩
    have e:=r.length
    simp only [Array.length_toList] at e
    omega
theorem Inv.tuple (I:Inv X pins σ H s) (h:SqT X.K H a xs):∃its:List Value,Vals xs its∧IsTup s.heap a its.toArray∧xs.length≤sizeLine:=by
  rcases h with h|⟨o,its,n,hk,hc,_,hs,hz,r⟩
  · obtain ⟨z,its,r,p,_⟩:=h.ok I.hok
    exact ⟨its,r,p,z⟩
  · refine ⟨its.toList,r,⟨o,I.kIn a o hk,hc,n,by simpa using hs⟩,?_⟩
    have e:=r.length
    simp only [Array.length_toList] at e
    omega
theorem Inv.list_inj (I:Inv X pins σ H s) (h:SqL X.K H a xs) (h':SqL X.K H a ys):xs=ys:=by
  obtain ⟨its,r,⟨o,n,e,_,_,d⟩,_⟩:=I.list h
  obtain ⟨its',r',⟨o',n',e',_,_,d'⟩,_⟩:=I.list h'
  rw [e] at e';cases e'
  rw [d] at d'
  injection d' with d1 _
  have:its=its':=by simpa using congrArg Array.toList d1
  subst this
  exact r.inj r'
theorem Inv.tuple_inj (I:Inv X pins σ H s) (h:SqT X.K H a xs) (h':SqT X.K H a ys):xs=ys:=by
  obtain ⟨its,r,⟨o,e,_,n,d⟩,_⟩:=I.tuple h
  obtain ⟨its',r',⟨o',e',_,n',d'⟩,_⟩:=I.tuple h'
  rw [e] at e';cases e'
  rw [d] at d'
  injection d' with d1 _
  have:its=its':=by simpa using congrArg Array.toList d1
  subst this
  exact r.inj r'
end
noncomputable abbrev Cx.wish (X:Cx) (E:Value→Shared→Prop):Cx:={X with xe:=E}
noncomputable abbrev Cx.nox (X:Cx):Cx:=X.wish fun _ _=>False
theorem Cx.Ok.wish {X:Cx} (ok:X.Ok) (E:Value→Shared→Prop):(X.wish E).Ok :=
  ⟨ok.mod,ok.kind,ok.glob,ok.blt,ok.above,ok.inj,ok.has,ok.cab,ok.hd,ok.frames,ok.stk,ok.exf,ok.bs,ok.bsz,ok.noex,ok.exfs,ok.funs,ok.frf⟩
theorem Cx.Ok.unwish {X:Cx} {E:Value→Shared→Prop} (ok:(X.wish E).Ok):X.Ok :=
  ⟨ok.mod,ok.kind,ok.glob,ok.blt,ok.above,ok.inj,ok.has,ok.cab,ok.hd,ok.frames,ok.stk,ok.exf,ok.bs,ok.bsz,ok.noex,ok.exfs,ok.funs,ok.frf⟩
section
variable {X:Cx} {pins:List (Addr×Obj)} {σ:St} {H:Hp} {s:Shared} {E:Value→Shared→Prop}
theorem Inv.wish (I:Inv X pins σ H s) (E:Value→Shared→Prop):Inv (X.wish E) pins σ H s:=⟨I.ok.wish E,I.os,I.bare,I.base,I.loc,I.cell,I.free,I.freeC,I.pin,I.hok,I.len⟩
theorem Inv.unwish (I:Inv (X.wish E) pins σ H s):Inv X pins σ H s:=⟨I.ok.unwish,I.os,I.bare,I.base,I.loc,I.cell,I.free,I.freeC,I.pin,I.hok,I.len⟩
theorem SP.unwish {D:Ends} {f:Flow} {s':Shared} (h:SP (X.wish E) pins D f s'):SP X pins D f s':=by
  cases f with
  | next=>obtain ⟨σ',H',I,q⟩:=h;exact ⟨σ',H',I.unwish,q⟩
  | brk=>obtain ⟨σ',H',I,q⟩:=h;exact ⟨σ',H',I.unwish,q⟩
  | cont=>obtain ⟨σ',H',I,q⟩:=h;exact ⟨σ',H',I.unwish,q⟩
  | ret u=>obtain ⟨v,σ',H',I,r,q⟩:=h;exact ⟨v,σ',H',I.unwish,r,q⟩
theorem PSs.nox {st:List Stmt} {t:TS} (h:PSs X.nox st t):PSs X st t:=fun pins s σ H D I hw =>
  wpAny_mono (h pins s σ H D (I.wish _) hw) (fun _ _ q=>q.unwish) fun _ _ z=>False.elim z
end
section
variable {X:Cx} {st:Stmt} {rest:List Stmt} {t u:TS} {e:Expr} {te:TE} {pos:Pos}
def tNext:TS:=fun D σ H=>D.nx σ H
def tSeq (t u:TS):TS:=fun D σ H=>t {D with nx:=u D} σ H
theorem zo6:PSs X [] tNext:=fun _ _ σ H _ I h=>wpAny_execs_nil ⟨σ,H,I,h⟩
theorem znc (h1:PS X st t) (h2:PSs X rest u):PSs X (st::rest) (tSeq t u):=by
  intro pins s σ H D I h
  refine wpAny_execs_cons (thn (h1 pins s σ H {D with nx:=u D} I h) fun f s1 q=>?_)
  cases f with
  | next =>
    obtain ⟨σ',H',I',q⟩:=q
    exact h2 pins s1 σ' H' D I' q
  | ret v=>exact q
  | brk=>exact q
  | cont=>exact q
theorem zo5 (h1:PS X st t):PSs X [st] t:=by
  intro pins s σ H D I h
  refine wpAny_execs_cons (thn (h1 pins s σ H D I h) fun f s1 q=>?_)
  cases f with
  | next=>exact wpAny_execs_nil q
  | ret v=>exact q
  | brk=>exact q
  | cont=>exact q
theorem Inv.quiet {pins:List (Addr×Obj)} {σ:St} {H:Hp} {s:Shared} (I:Inv X pins σ H s):interactive X.env=false:=by simp [interactive,I.ok.kind]
def tDrop (te:TE):TS:=fun D σ H=>te σ H fun _ H1=>D.nx σ H1
theorem zo7 (he:PE X e te) (hs:swapsWith e none pos.line X.env=pure false:=by rfl):PS X (.Expr e pos) (tDrop te):=by
  intro pins s σ H D I h
  exact wpAny_Expr_any (thn (he pins s σ H _ I h) fun v s1 z_4=>by obtain ⟨x,H1,I1,r1,q1⟩:=z_4;exact ⟨σ,H1,I1,q1⟩) I.quiet hs
def tRet (te:TE):TS:=fun D σ H=>te σ H D.rt
theorem ps_ret (he:PE X e te):PS X (.Return (some e) pos) (tRet te):=by
  intro pins s σ H D I h
  exact wpAny_Return_some (thn (he pins s σ H _ I h) fun v s1 z_5=>by obtain ⟨x,H1,I1,r1,q1⟩:=z_5;exact ⟨x,σ,H1,I1,r1,q1⟩)
def tIfS (c:TT) (t u:TS):TS:=fun D σ H=>c σ H fun b H1=>if b=true then t D σ H1 else u D σ H1
theorem ps_if {c:Expr} {a b:List Stmt} {tc:TT} (hc:PT X c tc) (ha:PSs X a t) (hb:PSs X b u):PS X (.If c a b pos) (tIfS tc t u):=by
  intro pins s σ H D I h
  refine wpAny_If (thn (hc pins s σ H _ I h) fun d s1 ⟨H1,I1,q1⟩=>?_)
  cases d with
  | true=>exact ha pins s1 σ H1 D I1 q1
  | false=>exact hb pins s1 σ H1 D I1 q1
end
noncomputable abbrev TG:=V→St→Hp→(St→Hp→Prop)→Prop
def PG (X:Cx) (target:Expr) (t:TG):Prop :=
  ∀(pins:List (Addr×Obj)) (s:Shared) (σ:St) (H:Hp) (v:V) (u:Value) (Q:St→Hp→Prop),Inv X pins σ H s→RelV v u→t v σ H Q →
    wpAny (model X.prog X.w) X.A (assign target X.env u) (fun _ s'=>∃σ' H',Inv X pins σ' H' s'∧Q σ' H') X.xe s
noncomputable abbrev TSet:=V→V→V→Hp→(Hp→Prop)→Prop
def PSet (X:Cx) (t:TSet):Prop :=
  ∀(pins:List (Addr×Obj)) (s:Shared) (σ:St) (H:Hp) (o i v:V) (ov iv u:Value) (Q:Hp→Prop),Inv X pins σ H s→RelV o ov→RelV i iv→RelV v u→t o i v H Q →
    wpAny (model X.prog X.w) X.A (setItem ov iv u) (fun _ s'=>∃H',Inv X pins σ H' s'∧Q H') X.xe s
noncomputable abbrev TIp:=V→V→Hp→VK→Prop
def PIp (X:Cx) (op:Operator) (t:TIp):Prop :=
  ∀(pins:List (Addr×Obj)) (s:Shared) (σ:St) (H:Hp) (x y:V) (v u:Value) (Q:VK),Inv X pins σ H s→RelV x v→RelV y u→t x y H Q →
    wpAny (model X.prog X.w) X.A (inplaceOp op v u) (EP X pins σ Q) X.xe s
section
variable {X:Cx} {pos:Pos}
def gName (i:Nat):TG:=fun v σ H Q=>Q (σ.set i (some v)) H
theorem zlp {i:Nat} {x:Str} (hN:X.N.Nodup) (hi:X.N[i]?=some x) (hx:Loc X.env.scope x) (hf:X.fn x=true∨X.env.scope.names.lookup x=some .local:=by first|exact .inl rfl|exact .inr rfl|assumption):PG X (.Name x pos) (gName i):=by
  intro pins s σ H v u Q I r h
  exact wpAny_assign_Name (zey I hN hi hx r (fun s' I'=>⟨_,H,I',h⟩) hf)
def gSub (to ti:TE) (t:TSet):TG:=fun v σ H Q=>to σ H fun o H1=>ti σ H1 fun i H2=>t o i v H2 fun H3=>Q σ H3
theorem pg_sub {o i:Expr} {to ti:TE} {t:TSet} (ho:PE X o to) (hi:PE X i ti) (hs:PSet X t)
    (ha:∀v,assign (.Subscript o i pos) X.env v=(do
      let ov ←holding [v] (eval o X.env)
      let iv ←holding [v,ov] (eval i X.env)
      standAt pos
      holding [v,ov,iv] (setItem ov iv v)
      release [v,ov,iv] []):=by intro _;rfl):PG X (.Subscript o i pos) (gSub to ti t):=by
  intro pins s σ H v u Q I r h
  rw [ha]
  refine wpAny_bind (wpAny_holding (thn (ho pins s σ H _ I h) fun ov s1 ⟨x,H1,I1,r1,q1⟩=>?_))
  refine wpAny_bind (wpAny_holding (thn (hi pins s1 σ H1 _ I1 q1) fun iv s2 ⟨y,H2,I2,r2,q2⟩=>?_))
  refine wpAny_bind (wpAny_standAt (wpAny_bind (wpAny_holding (thn (hs pins s2 σ H2 x y v ov iv u _ I2 r1 r2 r q2) fun _ s3 ⟨H3,I3,q3⟩=>?_))))
  exact wpAny_release ⟨σ,H3,I3,q3⟩
def tAsg (te:TE) (g:TG):TS:=fun D σ H=>te σ H fun x H1=>g x σ H1 D.nx
theorem ps_asg {tg e:Expr} {te:TE} {g:TG} (he:PE X e te) (hg:PG X tg g) (hs:swapsWithSole [tg] e pos.line X.env=pure false:=by rfl) (hw:swappedStores [tg] e X.env=pure none:=by rfl)
    (h1:(assignEach [tg] X.env).map (·.2)=[assign tg X.env]:=by rfl):PS X (.Assign [tg] e pos) (tAsg te g):=by
  intro pins s σ H D I h
  refine wpAny_Assign_stores (thn (he pins s σ H _ I h) fun v s1 ⟨x,H1,I1,r1,q1⟩=>?_) hs hw
  rw [h1]
  exact thn (hg pins s1 σ H1 x v _ I1 r1 q1) fun _ s2 q=>q
theorem ps_set {i:Nat} {x:Str} {e:Expr} {te:TE} {pos':Pos} (hN:X.N.Nodup) (hi:X.N[i]?=some x) (hx:Loc X.env.scope x) (he:PE X e te) (hs:swapsWith e (some (.Name x pos')) pos.line X.env=pure false:=by rfl) (hf:X.fn x=true∨X.env.scope.names.lookup x=some .local:=by first|exact .inl rfl|exact .inr rfl|assumption) :
    PS X (.Assign [.Name x pos'] e pos) (tAsg te (gName i)):=by
  intro pins s σ H D I h
  refine wpAny_Assign_Name (thn (he pins s σ H _ I h) fun v s1 ⟨y,H1,I1,r1,q1⟩=>?_) hs
  exact zey I1 hN hi hx r1 (fun s2 I2=>⟨_,H1,I2,q1⟩) hf
def tAug (i:Nat) (te:TE) (ti:TIp):TS:=fun D σ H=>∃x,σ[i]?=some (some x)∧te σ H fun y H1=>ti x y H1 fun z H2=>D.nx (σ.set i (some z)) H2
theorem ps_aug {i:Nat} {x:Str} {e:Expr} {te:TE} {op:Operator} {ti:TIp} {pos':Pos} (hN:X.N.Nodup) (hi:X.N[i]?=some x) (hx:Loc X.env.scope x) (he:PE X e te) (ho:PIp X op ti) (hf:X.fn x=true∨X.env.scope.names.lookup x=some .local:=by first|exact .inl rfl|exact .inr rfl|assumption) :
    PS X (.AugAssign (.Name x pos') op e pos) (tAug i te ti):=by
  intro pins s σ H D I h
  obtain ⟨v,e1,h⟩:=h
  obtain ⟨m,hn,hl⟩:=I.loc
  have vis:Vis X.env.scope x:=by rcases hx with k|k;exact .inl k;exact .inr (.inl k)
  obtain ⟨u,r,l⟩:=hl i x v hi e1 vis
  refine wpAny_AugAssign_Name ?_
  have go:wpAny (model X.prog X.w) X.A (eval e X.env) (fun w s₂=>wpAny (model X.prog X.w) X.A (inplaceOp op u w) (fun r s₃=>wpAny (model X.prog X.w) X.A (storeName X.env x r) (fun _=>SP X pins D .next) X.xe s₃) X.xe s₂) X.xe s:=by
    refine thn (he pins s σ H _ I h) fun w s1 ⟨y,H1,I1,r1,q1⟩=>?_
    refine thn (ho pins s1 σ H1 v y u w _ I1 r r1 q1) fun z s2 ⟨zv,H2,I2,r2,q2⟩=>?_
    exact zey I2 hN hi hx r2 (fun s3 I3=>⟨_,H2,I3,q2⟩) hf
  rcases l with ⟨hk,hm⟩|⟨hk,c,hc,hcell⟩
  · exact wpAny_loadName_local I.ok.kind hk hn hm go
  · rcases hk with hk|hk
    · exact wpAny_loadName_cell I.ok.kind hk hc hcell go
    · rcases hx with k|k
      · have:X.env.scope.names.lookup x=some .free:=hk
        rw [k] at this;cases this
      · have:X.env.scope.names.lookup x=some .free:=hk
        rw [k] at this;cases this
noncomputable def ipI (f:Int→Int→Int):TIp:=fun x y H Q=>∃i j,x=.int i∧y=.int j∧Q (.int (f i j)) H
theorem zoh:PIp X .Add (ipI fun i j=>i+j):=by
  intro pins s σ H x y v u Q I r1 r2 h
  obtain ⟨i,j,e1,e2,q⟩:=h
  subst e1;subst e2
  obtain ⟨t,rfl⟩:=r1
  obtain ⟨t',rfl⟩:=r2
  exact iadd_int ⟨.int _,H,I.tok _,⟨_,rfl⟩,q⟩
theorem ip_sub:PIp X .Sub (ipI fun i j=>i-j):=by
  intro pins s σ H x y v u Q I r1 r2 h
  obtain ⟨i,j,e1,e2,q⟩:=h
  subst e1;subst e2
  obtain ⟨t,rfl⟩:=r1
  obtain ⟨t',rfl⟩:=r2
  exact isub_int ⟨.int _,H,I.tok _,⟨_,rfl⟩,q⟩
end
section
variable {X:Cx} {pos:Pos}
def tWhile (c:TT) (tb:TS):TS:=fun D σ H=>∃W:Nat→St→Hp→Prop,(∃m,W m σ H)∧∀m σ H,W m σ H →
  c σ H fun b H1=>if b=true then ∃N:St→Hp→Prop,(∀σ' H',N σ' H'→∃m',m'<m∧W m' σ' H')∧tb {D with nx:=N,ct:=N,bk:=D.nx} σ H1 else D.nx σ H1
theorem znd {c:Expr} {body:List Stmt} {tc:TT} {tb:TS} (hp:PassesOwn (model X.prog X.w) X.A X.env X.xe) (hc:PT X c tc) (hb:PSs X body tb):PS X (.While c body [] pos) (tWhile tc tb):=by
  intro pins s σ H D I h
  obtain ⟨W,⟨m0,w0⟩,turn⟩:=h
  refine wpAny_While (codeAny_whileLoop (fun n s'=>∃σ' H',Inv X pins σ' H' s'∧W n σ' H') ?_ m0 ⟨σ,H,I,w0⟩)
  rintro n s1 ⟨σ1,H1,I1,w1⟩
  refine wpAny_passesOwn hp (thn (hc pins s1 σ1 H1 _ I1 (turn n σ1 H1 w1)) fun b s2 ⟨H2,I2,q2⟩=>?_)
  cases b with
  | true =>
    obtain ⟨N,hN,q2⟩:=q2
    rw [if_pos rfl]
    refine wpAny_passesOwn hp (thn (hb pins s2 σ1 H2 _ I2 q2) fun f s3 q3=>?_)
    cases f with
    | next =>
      obtain ⟨σ3,H3,I3,n3⟩:=q3
      obtain ⟨m',hm,w3⟩:=hN σ3 H3 n3
      exact ⟨m',hm,σ3,H3,I3,w3⟩
    | cont =>
      obtain ⟨σ3,H3,I3,n3⟩:=q3
      obtain ⟨m',hm,w3⟩:=hN σ3 H3 n3
      exact ⟨m',hm,σ3,H3,I3,w3⟩
    | brk=>exact q3
    | ret v=>exact q3
  | false =>
    rw [if_neg Bool.false_ne_true]
    exact wpAny_execs_nil ⟨σ1,H2,I2,q2⟩
end
structure It where
  go:Nat→Hp→Prop
  yld:Nat→Hp→V→Hp→Prop
  stop:Nat→Hp→Prop
def FpOk (X:Cx) (pins:List (Addr×Obj)) (H:Hp) (b:Addr):Prop :=
  H b=none∧b≠X.env.locals∧b∉X.fs∧(b∈X.ex∨X.s₀.heap.objs.size≤b)∧(∀x c,X.env.cells.lookup x=some c→c≠b)∧∀p∈X.pn++pins,p.1≠b
theorem Inv.fpOk {X:Cx} {pins:List (Addr×Obj)} {σ:St} {H H':Hp} {s:Shared} {b:Addr} (I:Inv X pins σ H s) (hb:s.heap.objs.size≤b) (hn:H' b=none):FpOk X pins H' b:=by
  refine ⟨hn,Nat.ne_of_gt (Nat.lt_of_lt_of_le I.lt hb),I.nofs hb,.inr (Nat.le_trans I.sz hb),fun x c e z=>?_,fun p hp z=>?_⟩
  · obtain ⟨v,q⟩:=I.cell x c e
    exact absurd (Nat.lt_of_lt_of_le q.lt (by rw [z];exact hb)) (Nat.lt_irrefl _)
  · exact absurd (Nat.lt_of_lt_of_le (Heap.lt_size (I.pin p hp).1) (by rw [z];exact hb)) (Nat.lt_irrefl _)
structure Turn (P:Program) (w:World) (K:PySem.W.Frag) (tg:Expr) (J:It) (fp:List Addr) (it:Addr) (tn:Nat→Heap→Prop):Prop where
  mem:it∈fp
  obj:∀i h,tn i h→∀b∈fp,∃o,h.get? b=some o∧∀v,o.data≠.cell v
  keep:∀i h h',tn i h→(∀b∈fp,∀o,h.get? b=some o→h'.get? b=some o)→tn i h'
  item:∀(X:Cx),X.prog=P→X.w=w→X.K=K→X.calm=true→∀(i:Nat) (pins:List (Addr×Obj)) (s:Shared) (σ:St) (H:Hp) (E:Value→Shared→Prop),Inv X pins σ H s→(∀b∈fp,FpOk X pins H b)→tn i s.heap→J.go i H →
    wpAny (model P w) X.A (pyNext (.ref it)) (fun r s1=>∃u,r=some u ∧
      wpAny (model P w) X.A (letOwnedTupleGo tg (.ref it) u) (fun _ s2=>∃x H',Inv X pins σ H' s2∧RelV x u∧J.yld i H x H'∧tn (i+1) s2.heap∧∀b∈fp,H' b=none) E s1) E s
  done:∀(X:Cx),X.prog=P→X.w=w→X.K=K→X.calm=true→∀(i:Nat) (pins:List (Addr×Obj)) (s:Shared) (σ:St) (H:Hp) (E:Value→Shared→Prop),Inv X pins σ H s→(∀b∈fp,FpOk X pins H b)→tn i s.heap→J.stop i H →
    wpAny (model P w) X.A (pyNext (.ref it)) (fun r s1=>r=none∧Inv X pins σ H s1) E s
  self:∀(A:Around) (i:Nat) (s:Shared) (Q:Value→Shared→Prop) (E:Value→Shared→Prop),tn i s.heap→Q (.ref it) s→wpAny (model P w) A (pyIter (.ref it)) Q E s
noncomputable abbrev TI:=St→Hp→(It→Hp→Prop)→Prop
def PIE (X:Cx) (pins:List (Addr×Obj)) (σ:St) (tg:Expr) (R:It→Hp→Prop) (itv:Value) (s2:Shared):Prop :=
  ∃(it:Addr) (fp:List Addr) (tn:Nat→Heap→Prop) (J:It) (H':Hp),itv=.ref it∧Inv X pins σ H' s2∧Turn X.prog X.w X.K tg J fp it tn∧tn 0 s2.heap∧(∀b∈fp,FpOk X pins H' b)∧R J H'
def PI (X:Cx) (tg iter:Expr) (wi:TI):Prop :=
  ∀(pins:List (Addr×Obj)) (s:Shared) (σ:St) (H:Hp) (R:It→Hp→Prop),Inv X pins σ H s→wi σ H R →
    wpAny (model X.prog X.w) X.A (eval iter X.env) (fun v s1=>wpAny (model X.prog X.w) X.A (pyIter v) (PIE X pins σ tg R) X.xe s1) X.xe s
theorem zmg {M:Model} {A:Around} {E:Value→Shared→Prop} {s:Shared} {tg:Expr} {it:Addr} {u:Value} {o:Obj} {n:String} {vs:Array Value} {Q:Unit→Shared→Prop} (ho:s.heap.get? it=some o) (hc:o.cls=.type n) (hd:o.data=.fields vs)
    (hn:["enumerate","zip","dict_itemiterator","dict_reverseitemiterator","odict_iterator","itertools.zip_longest","itertools.pairwise"].contains n=false) (hQ:Q () s):wpAny M A (letOwnedTupleGo tg (.ref it) u) Q E s:=by
  unfold letOwnedTupleGo
  cases tg<;>first
    | exact wpAny_pure hQ
    | (cases u<;>first
        | exact wpAny_pure hQ
        | (refine wpAny_bind (wpAny_load ho ?_)
           rw [hc,hd]
           show wpAny M A (if (["enumerate","zip","dict_itemiterator","dict_reverseitemiterator","odict_iterator","itertools.zip_longest","itertools.pairwise"].contains n&&vs[0]?==some (rawInt _))=true then _ else _) Q E s
           rw [if_neg (by intro h;rw [hn,Bool.false_and] at h;cases h)]
           exact wpAny_pure hQ))
noncomputable def Itl (K:PySem.W.Frag) (a:Addr):It :=
  ⟨fun i H=>∃xs x,SqL K H a xs∧xs[i]?=some x,fun i H x H'=>H'=H∧∀xs,SqL K H a xs→xs[i]?=some x,fun i H=>∃xs,SqL K H a xs∧xs.length≤i⟩
noncomputable def Itt (K:PySem.W.Frag) (a:Addr):It :=
  ⟨fun i H=>∃xs x,SqT K H a xs∧xs[i]?=some x,fun i H x H'=>H'=H∧∀xs,SqT K H a xs→xs[i]?=some x,fun i H=>∃xs,SqT K H a xs∧xs.length≤i⟩
noncomputable def Itr (lo:Int) (n:Nat):It:=⟨fun i _=>i<n,fun i H x H'=>H'=H∧x=.int (lo+i),fun i _=>n≤i⟩
theorem zk1 {P:Program} {w:World} {K:PySem.W.Frag} {tg:Expr} (a it:Addr):Turn P w K tg (Itl K a) [it] it (fun i h=>h.IsListIter it a i) where
  mem:=by simp
  obj:=fun i h st b hb=>by
    have e:b=it:=by simpa using hb
    subst e
    obtain ⟨o,e,c,d⟩:=st
    exact ⟨o,e,fun v z=>by rw [d] at z;cases z⟩
  keep:=fun i h h' st k=>st.at fun o e=>k it (by simp) o e
  item:=by
    intro X hP hw hK hc i pins s σ H E I hf st hg
    subst hP hw hK
    obtain ⟨xs,x,hq,hx⟩:=hg
    obtain ⟨its,rv,p,hz⟩:=I.list hq
    obtain ⟨u,hu,ru⟩:=rv.get hx
    obtain ⟨f0,f1,f2,f3,f4,f5⟩:=hf it (by simp)
    refine wpAny_pyNext_list_item st p.isList (x:=u) (by simpa using hu) fun h' st' sb=>?_
    have I1:Inv X pins σ H {s with heap:=h'}:=I.turned (t':=s.toks) (fun b o hb e=>(sb.2 b hb).trans e) f0 f1 f3 f4 f5
    obtain ⟨o,e,c,d⟩:=id st'
    exact ⟨u,rfl,zmg (s:={s with heap:=h'}) e c d (by decide) ⟨x,H,I1,ru,⟨rfl,fun ys hy=>by rw [I.list_inj hy hq];exact hx⟩,st',fun b hb=>(hf b hb).1⟩⟩
  done:=by
    intro X hP hw hK hc i pins s σ H E I hf st hg
    subst hP hw hK
    obtain ⟨xs,hq,hx⟩:=hg
    obtain ⟨its,rv,p,hz⟩:=I.list hq
    obtain ⟨f0,f1,f2,f3,f4,f5⟩:=hf it (by simp)
    have hl:=rv.length
    exact wpAny_pyNext_list_end (I.ok.hd hc) st p.isList (by simp;omega) fun h' eb=>⟨rfl,I.turned (t':=s.toks) (fun b o hb e=>eb b o hb e) f0 f1 f3 f4 f5⟩
  self:=fun _ _ _ _ _ st h=>wpAny_pyIter_listiter st h
theorem zjp {P:Program} {w:World} {K:PySem.W.Frag} {tg:Expr} (a it:Addr):Turn P w K tg (Itt K a) [it] it (fun i h=>h.IsTupleIter it a i) where
  mem:=by simp
  obj:=fun i h st b hb=>by
    have e:b=it:=by simpa using hb
    subst e
    obtain ⟨o,e,c,d⟩:=st
    exact ⟨o,e,fun v z=>by rw [d] at z;cases z⟩
  keep:=fun i h h' st k=>st.at fun o e=>k it (by simp) o e
  item:=by
    intro X hP hw hK hc i pins s σ H E I hf st hg
    subst hP hw hK
    obtain ⟨xs,x,hq,hx⟩:=hg
    obtain ⟨its,rv,p,hz⟩:=I.tuple hq
    obtain ⟨u,hu,ru⟩:=rv.get hx
    obtain ⟨f0,f1,f2,f3,f4,f5⟩:=hf it (by simp)
    refine wpAny_pyNext_tuple_item st (show s.heap.IsTuple a its.toArray from p) (x:=u) (by simpa using hu) fun h' st' sb=>?_
    have I1:Inv X pins σ H {s with heap:=h'}:=I.turned (t':=s.toks) (fun b o hb e=>(sb.2 b hb).trans e) f0 f1 f3 f4 f5
    obtain ⟨o,e,c,d⟩:=id st'
    exact ⟨u,rfl,zmg (s:={s with heap:=h'}) e c d (by decide) ⟨x,H,I1,ru,⟨rfl,fun ys hy=>by rw [I.tuple_inj hy hq];exact hx⟩,st',fun b hb=>(hf b hb).1⟩⟩
  done:=by
    intro X hP hw hK hc i pins s σ H E I hf st hg
    subst hP hw hK
    obtain ⟨xs,hq,hx⟩:=hg
    obtain ⟨its,rv,p,hz⟩:=I.tuple hq
    obtain ⟨f0,f1,f2,f3,f4,f5⟩:=hf it (by simp)
    have hl:=rv.length
    exact wpAny_pyNext_tuple_end (I.ok.hd hc) st (show s.heap.IsTuple a its.toArray from p) (by simp;omega) fun h' eb=>⟨rfl,I.turned (t':=s.toks) (fun b o hb e=>eb b o hb e) f0 f1 f3 f4 f5⟩
  self:=fun _ _ _ _ _ st h=>wpAny_pyIter_tupleiter st h
theorem zjq {P:Program} {w:World} {K:PySem.W.Frag} {tg:Expr} (it:Addr) (lo:Int) (n:Nat):Turn P w K tg (Itr lo n) [it] it (fun i h=>IsRangeIter h it (lo+(i:Nat)*1) ((n:Int)-(i:Nat)) 1) where
  mem:=by simp
  obj:=fun i h st b hb=>by
    have e:b=it:=by simpa using hb
    subst e
    exact ⟨_,st,fun v z=>by
      have z':Data.fields _=Data.cell v:=z
      cases z'⟩
  keep:=fun i h h' st k=>k it (by simp) _ st
  item:=by
    intro X hP hw hK hc i pins s σ H E I hf st hg
    subst hP hw hK
    obtain ⟨f0,f1,f2,f3,f4,f5⟩:=hf it (by simp)
    have W:=Walks.range (prog:=X.prog) (w:=X.w) (I.ok.hd hc) it lo 1 n
    refine W.item i s _ _ hg st fun v h' tk hv st' kk=>?_
    obtain ⟨t,rfl⟩:=hv
    have I1:Inv X pins σ H {s with heap:=h',toks:=tk}:=I.turned (fun b o hb e=>kk b o (by simpa using hb) e) f0 f1 f3 f4 f5
    refine ⟨_,rfl,zmg (s:={s with heap:=h',toks:=tk}) (n:="range_iterator") st' rfl rfl (by decide) ⟨.int (lo+i),H,I1,⟨t,?_⟩,⟨rfl,rfl⟩,st',fun b hb=>(hf b hb).1⟩⟩
    rw [Int.mul_one]
  done:=by
    intro X hP hw hK hc i pins s σ H E I hf st hg
    subst hP hw hK
    obtain ⟨f0,f1,f2,f3,f4,f5⟩:=hf it (by simp)
    exact wpAny_pyNext_range_end (I.ok.hd hc) st (by have:n≤i:=hg;omega) fun h' eb=>⟨rfl,I.turned (t':=s.toks) (fun b o hb e=>eb b o hb e) f0 f1 f3 f4 f5⟩
  self:=fun _ _ _ _ _ st h=>wpAny_pyIter_rangeiter st h
end L2
namespace L2
open PySem PySem.Spec PyProof.Rows
section
variable {X:Cx} {tg:Expr}
def iList (K:PySem.W.Frag) (tl:TE):TI:=fun σ H R=>tl σ H fun x H1=>∃a,x=.ref a∧(∃xs,SqL K H1 a xs)∧R (Itl K a) H1
def iTup (K:PySem.W.Frag) (tl:TE):TI:=fun σ H R=>tl σ H fun x H1=>∃a,x=.ref a∧(∃xs,SqT K H1 a xs)∧R (Itt K a) H1
theorem zpd {l:Expr} {tl:TE} (hl:PE X l tl):PI X tg l (iList X.K tl):=by
  intro pins s σ H R I h
  refine thn (hl pins s σ H _ I h) fun v s1 ⟨x,H1,I1,r1,q1⟩=>?_
  obtain ⟨a,e,⟨xs,hq⟩,q⟩:=q1
  subst e
  cases r1
  obtain ⟨its,rv,p,hz⟩:=I1.list hq
  refine wpAny_pyIter_list p.isList ?_
  refine ⟨s1.heap.objs.size,[s1.heap.objs.size],_,_,H1,rfl,I1.kept (t':=s1.toks) fun b o e=>Heap.get?_push_of_some _ e,zk1 a _,⟨_,Heap.get?_push_size _ rfl,rfl,rfl⟩,fun b hb=>?_,q⟩
  have e:b=s1.heap.objs.size:=by simpa using hb
  subst e
  exact I1.fpOk (Nat.le_refl _) (I1.hok.fresh (Nat.le_refl _))
theorem pi_tup {l:Expr} {tl:TE} (hl:PE X l tl):PI X tg l (iTup X.K tl):=by
  intro pins s σ H R I h
  refine thn (hl pins s σ H _ I h) fun v s1 ⟨x,H1,I1,r1,q1⟩=>?_
  obtain ⟨a,e,⟨xs,hq⟩,q⟩:=q1
  subst e
  cases r1
  obtain ⟨its,rv,p,hz⟩:=I1.tuple hq
  refine wpAny_pyIter_tuple (show s1.heap.IsTuple a its.toArray from p) ?_
  refine ⟨s1.heap.objs.size,[s1.heap.objs.size],_,_,H1,rfl,I1.kept (t':=s1.toks) fun b o e=>Heap.get?_push_of_some _ e,zjp a _,⟨_,Heap.get?_push_size _ rfl,rfl,rfl⟩,fun b hb=>?_,q⟩
  have e:b=s1.heap.objs.size:=by simpa using hb
  subst e
  exact I1.fpOk (Nat.le_refl _) (I1.hok.fresh (Nat.le_refl _))
theorem zm8 {pins:List (Addr×Obj)} {σ:St} {H:Hp} {s:Shared} {R:It→Hp→Prop} {E:Value→Shared→Prop} {lo hi:Int} {t u v:Tok} {tk:Nat} (I:Inv X pins σ H s) (h1:-(2^62)≤lo) (h2:lo<2^62) (h3:-(2^62)≤hi) (h4:hi<2^62)
    (q:R (Itr lo (hi-lo).toNat) H):wpAny (model X.prog X.w) X.A (pyIter (.ref s.heap.objs.size)) (PIE X pins σ tg R) E {s with heap:=s.heap.push {cls:=.type "range",data:=.fields #[.int lo t,.int hi u,.int 1 v]},toks:=tk}:=by
  refine wpAny_pyIter_range (IsRange.new ..) (small_one h1 h2 h3 h4) ?_
  have I1:Inv X pins σ H {s with heap:=s.heap.push {cls:=.type "range",data:=.fields #[.int lo t,.int hi u,.int 1 v]},toks:=tk}:=I.kept fun b o e=>Heap.get?_push_of_some _ e
  refine ⟨(s.heap.push {cls:=.type "range",data:=.fields #[.int lo t,.int hi u,.int 1 v]}).objs.size,[(s.heap.push {cls:=.type "range",data:=.fields #[.int lo t,.int hi u,.int 1 v]}).objs.size],_,_,H,rfl,
    I1.kept (t':=tk) fun b o e=>Heap.get?_push_of_some _ e,zjq _ lo (hi-lo).toNat,?_,fun b hb=>?_,q⟩
  · have e1:lo+((0:Nat):Int)*1=lo:=by simp
    have e2:(((hi-lo).toNat:Nat):Int)-((0:Nat):Int)=Builtin.Range.rangeSize lo hi 1:=by rw [rangeSize_one];split<;>omega
    show IsRangeIter _ _ (lo+((0:Nat):Int)*1) ((((hi-lo).toNat:Nat):Int)-((0:Nat):Int)) 1
    rw [e1,e2]
    exact Heap.get?_push_size _ rfl
  · have e:b=(s.heap.push {cls:=.type "range",data:=.fields #[.int lo t,.int hi u,.int 1 v]}).objs.size:=by simpa using hb
    subst e
    exact I1.fpOk (Nat.le_refl _) (I1.hok.fresh (Nat.le_refl _))
def iRng1 (ta:TA):TI:=fun σ H R=>ta σ H fun vs H1=>∃j:Int,vs=[.int j]∧-(2^62)≤j∧j<2^62∧R (Itr 0 j.toNat) H1
theorem zlo {a:Expr} {ta:TA} {p pos:Pos} (hg:Gl X "range") (hm:X.mg "range"=none) (ha:PA X [a] ta) (hs:starEach [a] X.env=[(false,eval a X.env)]:=by rfl):PI X tg (.Call (.Name "range" p) [a] [] pos) (iRng1 ta):=by
  intro pins s σ H R I h
  refine Call_ (zhn I hg hm boot_range (PyProof.Rows.callWith_type1 (thn (ha pos pins s σ H _ I h) fun us s1 ⟨vs,H1,I1,r1,q1⟩=>?_) hs rfl))
  obtain ⟨j,e,q1,q2,q⟩:=q1
  subst e
  cases r1 with
  | cons r rr =>
    cases rr
    obtain ⟨t,rfl⟩:=r
    exact call_range_1 (zm8 I1 (by omega) (by omega) q1 q2 (by simpa using q))
def tFor (wi:TI) (g:TG) (tb:TS):TS:=fun D σ H=>wi σ H fun J H1=>∃W:Nat→Nat→St→Hp→Prop,(∃m,W 0 m σ H1)∧∀i m σ H,W i m σ H →
  (J.stop i H∧D.nx σ H)∨(J.go i H∧∃N:St→Hp→Prop,(∀σ' H',N σ' H'→∃m',m'<m∧W (i+1) m' σ' H')∧∀x H',J.yld i H x H'→g x σ H' fun σ2 H2=>tb {D with nx:=N,ct:=N,bk:=D.nx} σ2 H2)
noncomputable def pinsAt (fp:List Addr) (h:Heap):List (Addr×Obj):=fp.filterMap fun b=>(h.get? b).map fun o=>(b,o)
theorem zce {fp:List Addr} {h:Heap} {b:Addr} {o:Obj} (hb:b∈fp) (e:h.get? b=some o):(b,o)∈pinsAt fp h:=List.mem_filterMap.mpr ⟨b,hb,by rw [e];rfl⟩
theorem zlz {fp:List Addr} {h:Heap} {p:Addr×Obj} (hp:p∈pinsAt fp h):p.1∈fp∧h.get? p.1=some p.2:=by
  obtain ⟨b,hb,e⟩:=List.mem_filterMap.mp hp
  cases q:h.get? b with
  | none=>rw [q] at e;cases e
  | some o =>
    rw [q] at e
    have e':(b,o)=p:=Option.some.inj e
    subst e'
    exact ⟨hb,q⟩
theorem Inv.pinned {pins:List (Addr×Obj)} {σ:St} {H:Hp} {s:Shared} {fp:List Addr} (I:Inv X pins σ H s) (hf:∀b∈fp,FpOk X pins H b) (ho:∀b∈fp,∃o,s.heap.get? b=some o∧∀v,o.data≠.cell v):Inv X (pins++pinsAt fp s.heap) σ H s :=
  I.pins_of fun p hp=>(List.mem_append.mp hp).elim (fun z=>I.pin p (List.mem_append_right _ z)) fun z=>by
    obtain ⟨hb,e⟩:=zlz z
    obtain ⟨f0,f1,f2,_⟩:=hf p.1 hb
    obtain ⟨o,e',d⟩:=ho p.1 hb
    rw [e] at e';cases e'
    exact ⟨e,f0,f1,f2,d⟩
theorem Inv.unpinned {pins pl:List (Addr×Obj)} {σ:St} {H:Hp} {s:Shared} (I:Inv X (pins++pl) σ H s):Inv X pins σ H s:=I.pins_of fun p hp=>I.pin p (List.mem_append_right _ (List.mem_append_left _ hp))
theorem ps_for {iter:Expr} {body:List Stmt} {wi:TI} {g:TG} {tb:TS} {pos:Pos} (hp:PassesOwn (model X.prog X.w) X.A X.env X.xe) (hc:X.calm=true) (hi:PI X tg iter wi) (hg:PG X tg g) (hb:PSs X body tb)
    (hs:∀x,foldedSetIterable iter X.env x=pure x:=by intro _;rfl):PS X (.For tg iter body [] pos) (tFor wi g tb):=by
  intro pins s σ H D I h
  refine wpAny_For (thn (hi pins s σ H _ I h) fun v s1 h1=>thn h1 fun itv s2 h2=>?_) hs
  obtain ⟨it,fp,tn,J,H2,e,I2,T,st2,f2,W,⟨m0,w0⟩,turn⟩:=h2
  subst e
  have stat:∀{H':Hp},(∀b∈fp,H' b=none)→∀b∈fp,FpOk X pins H' b:=fun hn b hb=>⟨hn b hb,(f2 b hb).2⟩
  refine codeAny_forLoop_any (fun n s'=>∃i σ' H',Inv X pins σ' H' s'∧tn i s'.heap∧(∀b∈fp,H' b=none)∧W i n σ' H') ?_ m0 ⟨0,σ,H2,I2,st2,fun b hb=>(f2 b hb).1,w0⟩
  rintro n s3 ⟨i,σ3,H3,I3,st3,fr3,w3⟩
  rcases turn i n σ3 H3 w3 with ⟨stop,qn⟩|⟨go,N,hN,step⟩
  · refine wpAny_passesOwn hp (thn (T.done X rfl rfl rfl hc i pins s3 σ3 H3 X.xe I3 (stat fr3) st3 stop) fun r s4 ⟨hr,I4⟩=>?_)
    subst hr
    exact wpAny_execs_nil ⟨σ3,H3,I4,qn⟩
  · refine wpAny_passesOwn hp (thn (T.item X rfl rfl rfl hc i pins s3 σ3 H3 X.xe I3 (stat fr3) st3 go) fun r s4 ⟨u,hr,h4⟩=>?_)
    subst hr
    refine wpAny_passesOwn hp (thn h4 fun _ s5 ⟨x,H5,I5,r5,y5,st5,fr5⟩=>?_)
    have I5':=I5.pinned (stat fr5) (T.obj _ _ st5)
    refine wpAny_passesOwn hp (thn (hg _ s5 σ3 H5 x u _ I5' r5 (step x H5 y5)) fun _ s6 ⟨σ6,H6,I6,q6⟩=>?_)
    refine wpAny_passesOwn hp (thn (hb _ s6 σ6 H6 _ I6 q6) fun f s7 q7=>?_)
    have again:∀{σ7:St} {H7:Hp},Inv X (pins++pinsAt fp s5.heap) σ7 H7 s7→N σ7 H7→∃m,m<n∧∃i σ' H',Inv X pins σ' H' s7∧tn i s7.heap∧(∀b∈fp,H' b=none)∧W i m σ' H':=fun {σ7 H7} I7 n7=>by
      obtain ⟨m',hm,w7⟩:=hN σ7 H7 n7
      refine ⟨m',hm,i+1,σ7,H7,I7.unpinned,T.keep _ _ _ st5 fun b hb o e=>(I7.pin (b,o) (List.mem_append_right _ (List.mem_append_right _ (zce hb e)))).1,fun b hb=>?_,w7⟩
      obtain ⟨o,e,d⟩:=T.obj _ _ st5 b hb
      exact (I7.pin (b,o) (List.mem_append_right _ (List.mem_append_right _ (zce hb e)))).2.1
    cases f with
    | next=>obtain ⟨σ7,H7,I7,n7⟩:=q7;exact again I7 n7
    | cont=>obtain ⟨σ7,H7,I7,n7⟩:=q7;exact again I7 n7
    | brk=>obtain ⟨σ7,H7,I7,q7⟩:=q7;exact ⟨σ7,H7,I7.unpinned,q7⟩
    | ret v=>obtain ⟨x7,σ7,H7,I7,r7,q7⟩:=q7;exact ⟨x7,σ7,H7,I7.unpinned,r7,q7⟩
end
end L2
namespace L2
open PySem PySem.Spec PyProof.Rows
noncomputable abbrev R2:=V→V→Hp→VK→Prop
def OpR (X:Cx) (f:Value→Value→Sem Value) (r:R2):Prop :=
  ∀(pins:List (Addr×Obj)) (s:Shared) (σ:St) (H:Hp) (x y:V) (v u:Value) (Q:VK),Inv X pins σ H s→RelV x v→RelV y u→r x y H Q →
    wpAny (model X.prog X.w) X.A (f v u) (EP X pins σ Q) X.xe s
def CallR (X:Cx) (f:Value) (r:List V→Hp→VK→Prop):Prop :=
  ∀(pins:List (Addr×Obj)) (s:Shared) (σ:St) (H:Hp) (xs:List V) (us:List Value) (Q:VK),Inv X pins σ H s→Vals xs us→r xs H Q →
    wpAny (model X.prog X.w) X.A (call f us) (EP X pins σ Q) X.xe s
def TruR (X:Cx) (r:V→Hp→(Bool→Hp→Prop)→Prop):Prop :=
  ∀(pins:List (Addr×Obj)) (s:Shared) (σ:St) (H:Hp) (x:V) (v:Value) (Q:Bool→Hp→Prop),Inv X pins σ H s→RelV x v→r x H Q →
    wpAny (model X.prog X.w) X.A (truthy v) (TP X pins σ Q) X.xe s
def tOp (r:R2) (ta tb:TE):TE:=fun σ H Q=>ta σ H fun x H1=>tb σ H1 fun y H2=>r x y H2 Q
def rI (C:Int→Int→Prop) (g:Int→Int→V):R2:=fun x y H Q=>∃i j,x=.int i∧y=.int j∧C i j∧Q (g i j) H
def rI0 (g:Int→Int→V):R2:=fun x y H Q=>∃i j,x=.int i∧y=.int j∧Q (g i j) H
section
variable {X:Cx} {a b c:Expr} {ta tb tc:TE} {pos:Pos}
theorem binT (ha:PE X a ta) (hb:PE X b tb) {pins:List (Addr×Obj)} {s:Shared} {σ:St} {H:Hp} {R:V→V→Hp→Prop} (I:Inv X pins σ H s)
    (h:ta σ H fun x H1=>tb σ H1 fun y H2=>R x y H2) {Q:Value→Shared→Prop} {f:Value→Value→Sem Value}
    (hf:∀v u s2 x y H2,Inv X pins σ H2 s2→RelV x v→RelV y u→R x y H2→wpAny (model X.prog X.w) X.A (f v u) Q X.xe s2) :
    wpAny (model X.prog X.w) X.A (eval a X.env) (fun v s₁=>wpAny (model X.prog X.w) X.A (eval b X.env) (fun u s₂=>wpAny (model X.prog X.w) X.A (f v u) Q X.xe s₂) X.xe s₁) X.xe s:=by
  refine thn (ha pins s σ H _ I h) fun v s1 ⟨x,H1,I1,r1,q1⟩=>?_
  refine thn (hb pins s1 σ H1 _ I1 q1) fun u s2 ⟨y,H2,I2,r2,q2⟩=>?_
  exact hf v u s2 x y H2 I2 r1 r2 q2
theorem pe_op {op:Operator} {r:R2} (ho:OpR X (binaryOp op) r) (ha:PE X a ta) (hb:PE X b tb):PE X (.BinOp a op b pos) (tOp r ta tb):=by
  intro pins s σ H Q I h
  exact wpAny_BinOp (binT ha hb I h fun v u s2 x y H2 I2 rx ry q=>ho pins s2 σ H2 x y v u Q I2 rx ry q)
theorem opI {f:Value→Value→Sem Value} {C:Int→Int→Prop} {g:Int→Int→Int}
    (rule:∀(i j:Int) (t u:Tok) (s:Shared) (Q:Value→Shared→Prop) (E:Value→Shared→Prop),C i j→Q (.int (g i j) s.toks) {s with toks:=s.toks+1}→wpAny (model X.prog X.w) X.A (f (.int i t) (.int j u)) Q E s) :
    OpR X f (rI C fun i j=>.int (g i j)):=by
  intro pins s σ H x y v u Q I rx ry h
  obtain ⟨i,j,rfl,rfl,hc,q⟩:=h
  obtain ⟨t,rfl⟩:=rx
  obtain ⟨t',rfl⟩:=ry
  exact rule i j t t' s _ _ hc ⟨.int (g i j),H,I.tok _,⟨_,rfl⟩,q⟩
theorem opI0 {f:Value→Value→Sem Value} {g:Int→Int→Int}
    (rule:∀(i j:Int) (t u:Tok) (s:Shared) (Q:Value→Shared→Prop) (E:Value→Shared→Prop),Q (.int (g i j) s.toks) {s with toks:=s.toks+1}→wpAny (model X.prog X.w) X.A (f (.int i t) (.int j u)) Q E s) :
    OpR X f (rI0 fun i j=>.int (g i j)):=by
  intro pins s σ H x y v u Q I rx ry h
  obtain ⟨i,j,rfl,rfl,q⟩:=h
  obtain ⟨t,rfl⟩:=rx
  obtain ⟨t',rfl⟩:=ry
  exact rule i j t t' s _ _ ⟨.int (g i j),H,I.tok _,⟨_,rfl⟩,q⟩
theorem opB0 {f:Value→Value→Sem Value} {g:Int→Int→Bool}
    (rule:∀(i j:Int) (t u:Tok) (s:Shared) (Q:Value→Shared→Prop) (E:Value→Shared→Prop),Q (.bool (g i j)) s→wpAny (model X.prog X.w) X.A (f (.int i t) (.int j u)) Q E s) :
    OpR X f (rI0 fun i j=>.bl (g i j)):=by
  intro pins s σ H x y v u Q I rx ry h
  obtain ⟨i,j,rfl,rfl,q⟩:=h
  obtain ⟨t,rfl⟩:=rx
  obtain ⟨t',rfl⟩:=ry
  exact rule i j t t' s _ _ ⟨.bl (g i j),H,I,rfl,q⟩
def CDiv (i j:Int):Prop:=0<j∧j<1073741824
def CPow (i j:Int):Prop:=0≤j∧j≤1000000∧i.natAbs<2^64
def CMul (i j:Int):Prop:=(-(2^64)<i∧i<2^64)∨(-(2^64)<j∧j<2^64)
theorem CMul.ok {i j:Int} (h:CMul i j):IntMulOk i j:=by
  rcases h with ⟨h1,h2⟩|⟨h1,h2⟩
  · exact .of_left (intBits_le_64 h1 h2)
  · exact .of_right (intBits_le_64 h1 h2)
theorem zgh:OpR X (binaryOp .Add) (rI0 fun i j=>.int (i+j)):=opI0 fun _ _ _ _ _ _ _ q=>add_int q
theorem zlt:OpR X (binaryOp .Sub) (rI0 fun i j=>.int (i-j)):=opI0 fun _ _ _ _ _ _ _ q=>sub_int q
theorem op_mul:OpR X (binaryOp .Mult) (rI CMul fun i j=>.int (i*j)):=opI fun _ _ _ _ _ _ _ hc q=>mul_int q hc.ok
theorem zay:OpR X (binaryOp .FloorDiv) (rI CDiv fun i j=>.int (i/j)):=opI fun i j _ _ _ _ _ hc q=>by
  have h1:(0:Int)<j:=hc.1
  have h2:j<1073741824:=hc.2
  exact floordiv_int (by omega) (by rw [Int.fdiv_eq_ediv_of_nonneg i (by omega)];exact q) (.inl (PyProof.noPylong_small (by omega)))
theorem zax:OpR X (binaryOp .Mod) (rI (fun _ j=>0<j) fun i j=>.int (i%j)):=opI fun i j _ _ _ _ _ hc q=>by
  have h1:(0:Int)<j:=hc
  exact mod_int' (by omega) (by rw [Int.fmod_eq_emod_of_nonneg i (by omega)];exact q)
theorem zlu:OpR X (binaryOp .Pow) (rI CPow fun i j=>.int (i^j.toNat)):=opI fun _ _ _ _ _ _ _ hc q=>pow_int_small hc.1 hc.2.1 hc.2.2 q
end
noncomputable def scal:V→V→Bool
  | .non,.non=>true | .non,.int _=>true | .int _,.non=>true | .non,.bl _=>true | .bl _,.non=>true | .non,.str _=>true | .str _,.non=>true
  | .int _,.int _=>true | .bl _,.bl _=>true | .str _,.str _=>true | .byt _,.byt _=>true
  | .int _,.str _=>true | .str _,.int _=>true | .bl _,.str _=>true | .str _,.bl _=>true
  | _,_=>false
def rEq:R2:=fun x y H Q=>scal x y=true∧Q (.bl (decide (x=y))) H
def rNe:R2:=fun x y H Q=>scal x y=true∧Q (.bl (!decide (x=y))) H
theorem zis {i j:Int}:decide (V.int i=V.int j)=(i==j):=by
  rw [Bool.eq_iff_iff]
  simp
theorem zom {i j:Bool}:decide (V.bl i=V.bl j)=(i==j):=by
  rw [Bool.eq_iff_iff]
  simp
theorem zmp {i j:Str}:decide (V.str i=V.str j)=(i==j):=by
  rw [Bool.eq_iff_iff]
  simp
theorem zmq {i j:Array UInt8}:decide (V.byt i=V.byt j)=(i.toList==j.toList):=by
  rw [Bool.eq_iff_iff]
  cases i
  cases j
  simp
section
variable {X:Cx} {a b c:Expr} {ta tb tc:TE} {pos:Pos}
theorem za0 {pins:List (Addr×Obj)} {σ:St} {H:Hp} {s:Shared} {Q:VK} {k k':Bool} (I:Inv X pins σ H s) (q:Q (.bl k) H) (e:k=k'):EP X pins σ Q (.bool k') s:=by
  subst e
  exact ⟨.bl k,H,I,rfl,q⟩
theorem zbp:OpR X (compareOp .Eq) rEq:=by
  intro pins s σ H x y v u Q I rx ry h
  obtain ⟨hs,q⟩:=h
  cases x with
  | non =>
    cases rx
    cases y with
    | non=>cases ry;exact PySem.EqNone.eq_none_none (za0 I q (by simp))
    | bl j=>cases ry;exact PySem.EqNone.eq_none_bool (za0 I q (by simp))
    | int j=>obtain ⟨t',rfl⟩:=ry;exact PySem.EqNone.eq_none_int (za0 I q (by simp))
    | str j=>obtain ⟨t',rfl⟩:=ry;exact PySem.EqNone.eq_none_str (za0 I q (by simp))
    | _=>exact absurd (show false=true from hs) Bool.false_ne_true
  | bl i =>
    cases rx
    cases y with
    | non=>cases ry;exact PySem.EqNone.eq_bool_none (za0 I q (by simp))
    | bl j=>cases ry;exact eq_bool (za0 I q zom)
    | str j=>obtain ⟨t',rfl⟩:=ry;exact PySem.EqMixed.eq_bool_str (za0 I q (by simp))
    | _=>exact absurd (show false=true from hs) Bool.false_ne_true
  | int i =>
    obtain ⟨t,rfl⟩:=rx
    cases y with
    | non=>cases ry;exact PySem.EqNone.eq_int_none (za0 I q (by simp))
    | int j=>obtain ⟨t',rfl⟩:=ry;exact eq_int (za0 I q zis)
    | str j=>obtain ⟨t',rfl⟩:=ry;exact PySem.EqMixed.eq_int_str (za0 I q (by simp))
    | _=>exact absurd (show false=true from hs) Bool.false_ne_true
  | str i =>
    obtain ⟨t,rfl⟩:=rx
    cases y with
    | non=>cases ry;exact PySem.EqNone.eq_str_none (za0 I q (by simp))
    | bl j=>cases ry;exact PySem.EqMixed.eq_str_bool (za0 I q (by simp))
    | int j=>obtain ⟨t',rfl⟩:=ry;exact PySem.EqMixed.eq_str_int (za0 I q (by simp))
    | str j=>obtain ⟨t',rfl⟩:=ry;exact eq_str (za0 I q zmp)
    | _=>exact absurd (show false=true from hs) Bool.false_ne_true
  | byt i =>
    obtain ⟨t,rfl⟩:=rx
    cases y with
    | byt j=>obtain ⟨t',rfl⟩:=ry;exact PySem.W.eq_bytes (za0 I q zmq)
    | _=>exact absurd (show false=true from hs) Bool.false_ne_true
  | _=>cases y<;>exact absurd (show false=true from hs) Bool.false_ne_true
theorem op_ne:OpR X (compareOp .NotEq) rNe:=by
  intro pins s σ H x y v u Q I rx ry h
  obtain ⟨hs,q⟩:=h
  cases x with
  | non =>
    cases rx
    cases y with
    | non=>cases ry;exact PySem.EqNone.ne_none_none (za0 I q (by simp))
    | bl j=>cases ry;exact PySem.EqNone.ne_none_bool (za0 I q (by simp))
    | int j=>obtain ⟨t',rfl⟩:=ry;exact PySem.EqNone.ne_none_int (za0 I q (by simp))
    | str j=>obtain ⟨t',rfl⟩:=ry;exact PySem.EqNone.ne_none_str (za0 I q (by simp))
    | _=>exact absurd (show false=true from hs) Bool.false_ne_true
  | bl i =>
    cases rx
    cases y with
    | non=>cases ry;exact PySem.EqNone.ne_bool_none (za0 I q (by simp))
    | bl j=>cases ry;exact ne_bool (za0 I q (congrArg not zom))
    | str j=>obtain ⟨t',rfl⟩:=ry;exact PySem.EqMixed.ne_bool_str (za0 I q (by simp))
    | _=>exact absurd (show false=true from hs) Bool.false_ne_true
  | int i =>
    obtain ⟨t,rfl⟩:=rx
    cases y with
    | non=>cases ry;exact PySem.EqNone.ne_int_none (za0 I q (by simp))
    | int j=>obtain ⟨t',rfl⟩:=ry;exact ne_int (za0 I q (congrArg not zis))
    | str j=>obtain ⟨t',rfl⟩:=ry;exact PySem.EqMixed.ne_int_str (za0 I q (by simp))
    | _=>exact absurd (show false=true from hs) Bool.false_ne_true
  | str i =>
    obtain ⟨t,rfl⟩:=rx
    cases y with
    | non=>cases ry;exact PySem.EqNone.ne_str_none (za0 I q (by simp))
    | bl j=>cases ry;exact PySem.EqMixed.ne_str_bool (za0 I q (by simp))
    | int j=>obtain ⟨t',rfl⟩:=ry;exact PySem.EqMixed.ne_str_int (za0 I q (by simp))
    | str j=>obtain ⟨t',rfl⟩:=ry;exact ne_str (za0 I q (congrArg not zmp))
    | _=>exact absurd (show false=true from hs) Bool.false_ne_true
  | byt i =>
    obtain ⟨t,rfl⟩:=rx
    cases y with
    | byt j=>obtain ⟨t',rfl⟩:=ry;exact PySem.W.ne_bytes (za0 I q (congrArg not zmq))
    | _=>exact absurd (show false=true from hs) Bool.false_ne_true
  | _=>cases y<;>exact absurd (show false=true from hs) Bool.false_ne_true
theorem zpk:OpR X (compareOp .Lt) (rI0 fun i j=>.bl (decide (i<j))):=opB0 fun _ _ _ _ _ _ _ q=>lt_int q
theorem zlv:OpR X (compareOp .Gt) (rI0 fun i j=>.bl (decide (j<i))):=opB0 fun _ _ _ _ _ _ _ q=>gt_int q
theorem op_ge:OpR X (compareOp .GtE) (rI0 fun i j=>.bl (decide (j≤i))):=opB0 fun _ _ _ _ _ _ _ q=>ge_int q
theorem zjd:OpR X (compareOp .Is) (fun x y H Q=>y=.non∧Q (.bl (decide (x=.non))) H):=by
  intro pins s σ H x y v u Q I rx ry h
  obtain ⟨rfl,q⟩:=h
  cases ry
  refine is_none_gen (za0 I q ?_)
  cases x<;>first
    | (cases rx;rfl)
    | (obtain ⟨t,rfl⟩:=rx;rfl)
theorem zpj:OpR X (compareOp .IsNot) (fun x y H Q=>y=.non∧Q (.bl (!decide (x=.non))) H):=by
  intro pins s σ H x y v u Q I rx ry h
  obtain ⟨rfl,q⟩:=h
  cases ry
  refine isnot_none_gen (za0 I q ?_)
  cases x<;>first
    | (cases rx;rfl)
    | (obtain ⟨t,rfl⟩:=rx;rfl)
theorem nomark (b:Expr) {op:CmpOp} (h:op≠.In:=by decide) (h2:op≠.NotIn:=by decide):behindInMarks op b=false:=by
  have e1:(op==CmpOp.In)=false:=by cases op<;>first|rfl|exact absurd rfl h
  have e2:(op==CmpOp.NotIn)=false:=by cases op<;>first|rfl|exact absurd rfl h2
  cases b<;>simp [behindInMarks,e1,e2]
theorem zpg {op:CmpOp} {r:R2} (ho:OpR X (compareOp op) r) (ha:PE X a ta) (hb:PE X b tb) (hm:behindInMarks op b=false):PE X (.Compare a [op] [b] pos) (tOp r ta tb):=by
  intro pins s σ H Q I h
  exact wpAny_Compare1 (binT ha hb I h fun v u s2 x y H2 I2 rx ry q=>ho pins s2 σ H2 x y v u Q I2 rx ry q) hm
def tTest (t:TE):TT:=fun σ H Q=>t σ H fun x H'=>∃k,x=.bl k∧Q k H'
theorem zo4 {op:CmpOp} {r:R2} (ho:OpR X (compareOp op) r) (ha:PE X a ta) (hb:PE X b tb) (hm:behindInMarks op b=false):PT X (.Compare a [op] [b] pos) (tTest (tOp r ta tb)):=by
  intro pins s σ H Q I h
  refine wpAny_isTrue_Compare1 (thn (ha pins s σ H _ I h) fun v s1 ⟨x,H1,I1,r1,q1⟩=>thn (hb pins s1 σ H1 _ I1 q1) fun u s2 ⟨y,H2,I2,r2,q2⟩ =>
    thn (ho pins s2 σ H2 x y v u _ I2 r1 r2 q2) fun c s3 ⟨z,H3,I3,r3,k,e,q3⟩=>?_) hm
  subst e
  cases r3
  exact wpAny_truthy_bool ⟨H3,I3,q3⟩
def TruV (K:PySem.W.Frag) (x:V) (H:Hp) (k:Bool):Prop :=
  match x with
  | .non=>k=false
  | .bl b=>k=b
  | .int i=>k=(i != 0)
  | .str y=>y.length≤sizeLine∧k=((y.length:Int) != 0)
  | .byt y=>y.size≤sizeLine∧k=((y.size:Int) != 0)
  | .ref p=>(∃xs,SqL K H p xs∧k=!xs.isEmpty)∨(∃xs,SqT K H p xs∧k=!xs.isEmpty)∨∃kvs,H p=some (.dK kvs)∧k=!kvs.isEmpty
  | _=>False
theorem zko {κ:Type} {kvs:List (κ×V)} {vs:List (κ×Value)} (r:KV kvs vs):(!vs.isEmpty)=!kvs.isEmpty:=by
  cases r<;>rfl
theorem zgj {xs:List V} {its:List Value} (r:Vals xs its):(!its.toArray.isEmpty)=!xs.isEmpty:=by
  cases r<;>simp
theorem line63:(sizeLine:Nat)<2^63:=by rw [sizeLine_eq];decide
theorem tru_ok:TruR X (fun x H Q=>∃k,TruV X.K x H k∧Q k H):=by
  intro pins s σ H x v Q I rx h
  obtain ⟨k,e,q⟩:=h
  have hl:=line63
  have hs:sizeLine=16777216:=sizeLine_eq
  cases x with
  | non =>
    cases rx
    have e':k=false:=e
    subst e'
    exact truthy_none ⟨H,I,q⟩
  | bl b =>
    cases rx
    have e':k=b:=e
    subst e'
    exact wpAny_truthy_bool ⟨H,I,q⟩
  | int i =>
    obtain ⟨t,rfl⟩:=rx
    have e':k=(i != 0):=e
    subst e'
    exact PySem.P.truthy_int ⟨H,I,q⟩
  | str y =>
    obtain ⟨t,rfl⟩:=rx
    obtain ⟨hy,e'⟩:y.length≤sizeLine∧k=((y.length:Int) != 0):=e
    subst e'
    exact PySem.P.truthy_str (by omega) ⟨H,I.tok _,q⟩
  | byt y =>
    obtain ⟨t,rfl⟩:=rx
    obtain ⟨hy,e'⟩:y.size≤sizeLine∧k=((y.size:Int) != 0):=e
    subst e'
    exact PySem.W.truthy_bytes (by omega) ⟨H,I.tok _,q⟩
  | ref p =>
    cases rx
    have e':(∃xs,SqL X.K H p xs∧k=!xs.isEmpty)∨(∃xs,SqT X.K H p xs∧k=!xs.isEmpty)∨∃kvs,H p=some (.dK kvs)∧k=!kvs.isEmpty:=e
    rcases e' with ⟨xs,hx,e'⟩|⟨xs,hx,e'⟩|⟨kvs,hx,e'⟩
    · subst e'
      obtain ⟨its,r,pl,hz⟩:=I.list hx
      have hlen:=r.length
      exact wpAny_truthy_list pl.isList (by simp only [List.size_toArray];omega) ⟨H,I.tok _,by rw [zgj r];exact q⟩
    · subst e'
      obtain ⟨its,r,pl,hz⟩:=I.tuple hx
      have hlen:=r.length
      exact truthy_tuple pl (by simp only [List.size_toArray];omega) ⟨H,I.tok _,by rw [zgj r];exact q⟩
    · subst e'
      obtain ⟨hz,hS,vs,r,m⟩:kvs.length≤sizeLine∧(p==sysModules)=false∧∃vs,KV kvs vs∧s.heap.DictOf (mixKind X.prog X.w) p vs:=I.hok p _ hx
      have hlen:kvs.length=vs.length:=Paired.length r
      exact wpAny_truthy_dict hS m (by omega) ⟨H,I.tok _,by rw [zko r];exact q⟩
  | _=>exact (show False from e).elim
theorem znb (ha:PE X a ta) (he:∀whole,isTrue a X.env whole=(do let v ←whole;standAt a.pos;holding [v] (truthy v))) :
    PT X a (fun σ H Q=>ta σ H fun x H'=>∃k,TruV X.K x H' k∧Q k H'):=by
  intro pins s σ H Q I h
  exact isTrue_plain (thn (ha pins s σ H _ I h) fun v s1 z_10=>by obtain ⟨x,H1,I1,r1,q1⟩:=z_10;exact tru_ok pins s1 σ H1 x v Q I1 r1 q1) (he _)
theorem zbz:OpR X (binaryOp .Add) (fun x y H Q=>∃i j,x=.str i∧y=.str j∧i.length+j.length≤sizeLine∧Q (.str (i++j)) H):=by
  intro pins s σ H x y v u Q I rx ry h
  obtain ⟨i,j,rfl,rfl,hz,q⟩:=h
  obtain ⟨t,rfl⟩:=rx
  obtain ⟨t',rfl⟩:=ry
  exact add_str (fun t' tk=>⟨.str (i++j),H,I.tok _,⟨_,rfl⟩,q⟩) hz
theorem vals1 {x:V} {us:List Value} (r:Vals [x] us):∃u,us=[u]∧RelV x u:=by
  cases r with
  | cons r1 r2=>cases r2;exact ⟨_,rfl,r1⟩
theorem vals2 {x y:V} {us:List Value} (r:Vals [x,y] us):∃u w',us=[u,w']∧RelV x u∧RelV y w':=by
  cases r with
  | cons r1 r2 =>
    cases r2 with
    | cons r3 r4=>cases r4;exact ⟨_,_,rfl,r1,r3⟩
end
end L2
namespace L2
open PySem PySem.Spec PyProof.Rows
structure ObjM (h:Heap) (x dx C:Addr) (mA:Str→Option Value):Prop where
  obj:h.get? x=some (PySem.W.instObj C dx)
  ns:h.Ns1 dx mA
  ne:dx≠x
theorem zl3 {h:Heap} {dx:Addr} {mA:Str→Option Value} (n:h.Ns1 dx mA):∃od,h.get? dx=some od∧∀name,PySem.W.lookIn name od=some (mA name):=by
  obtain ⟨o,es,ep,ho,hd,hk,_,hm⟩:=n
  refine ⟨o,ho,fun name=>?_⟩
  have e:=hm name
  unfold nsFind findBy at e
  rw [←Array.find?_toList] at e
  unfold PySem.W.lookIn
  rw [hd]
  dsimp only
  split
  · rename_i y q
    rw [q] at e
    exact congrArg some e
  · rename_i q
    rw [q] at e
    have a:es.toList.any (·.refKey)=false:=by
      rw [List.any_eq_false]
      intro y hy
      obtain ⟨z,t,hkey⟩:=hk y (Array.mem_toList_iff.mp hy)
      simp [DictEntry.refKey,hkey]
    have a':¬es.toList.any (·.refKey)=true:=by rw [a];exact Bool.false_ne_true
    rw [if_neg a']
    exact congrArg some e
theorem ObjM.look {h:Heap} {x dx C:Addr} {mA:Str→Option Value} (I:ObjM h x dx C mA):∃od,PySem.W.InstAt h x (PySem.W.instObj C dx) C (some od)∧∀name,PySem.W.lookIn name od=some (mA name) :=
  let ⟨od,ho,hl⟩:=zl3 I.ns
  ⟨od,⟨I.obj,rfl,rfl,ho⟩,hl⟩
section
variable {prog:Program} {w:World} {A:Around} {E:Value→Shared→Prop} {s:Shared} {K:PySem.W.Frag} {x dx C f:Addr} {mA:Str→Option Value} {name:Str} {v:Value}
theorem zpu {expr:Bool} {Q:Value→Shared→Prop} (X:K.In s.heap) (I:ObjM s.heap x dx C mA) (hg:PySem.W.plainGet K C name=true) (hh:PySem.W.hasDictIn K C=true)
    (ha:PySem.W.findIn K (.ref C) name=some none) (hv:mA name=some v) (hv':PySem.W.handedIn v=true) (h:Q v {s with toks:=s.toks+1}) :
    wpAny (model prog w) A (getAttr (.ref x) name expr) Q E s:=by
  obtain ⟨od,J,hl⟩:=I.look
  exact PySem.W.get_value X J (PySem.W.plainGet_of hg).1 (PySem.W.findObj_own hh ha rfl (by rw [hl,hv])) hv' h
theorem zn1 {pl:Sem Bool} {Q:Value×List Value→Shared→Prop} (X:K.In s.heap) (I:ObjM s.heap x dx C mA) (hg:PySem.W.plainGet K C name=true)
    (hf:PySem.W.findIn K (.ref C) name=some (some (.ref f))) (ht:PySem.W.isFn K (.ref f)=true) (hv:mA name=none) (h:Q (.ref f,[.ref x]) s) :
    wpAny (model prog w) A (getMethod (.ref x) name pl) Q E s:=by
  obtain ⟨od,J,hl⟩:=I.look
  exact PySem.W.method_fn X J (PySem.W.plainGet_of hg).1 (PySem.W.plainGet_of hg).2 hf (beq_iff_eq.mp ht) (by show (PySem.W.lookIn name od).map (·.isSome)=some false;rw [hl,hv];rfl) h
theorem zov {ns:List Str} {Q:Unit→Shared→Prop} (X:K.In s.heap) (I:ObjM s.heap x dx C mA)
    (hs:PySem.W.findIn K (.ref C) "__setattr__"=some (some (.builtin "object.__setattr__"))) (hp:PySem.W.plainOver K C=true) (ht:PySem.W.takerIn K C name=some none) (hh:PySem.W.hasDictIn K C=true)
    (hw:PySem.Within mA ns) (hsz:ns.length≤sizeLine)
    (h:∀h',ObjM h' x dx C (fun y=>if y=name then some v else mA y)→Heap.SameBut dx s.heap h'→Q () {s with heap:=h',toks:=s.toks+2}) :
    wpAny (model prog w) A (setAttr (.ref x) name v) Q E s:=by
  obtain ⟨od,J,hl⟩:=I.look
  refine PySem.W.set_plain X J hs (PySem.W.osa_open (s:={s with toks:=s.toks+1}) (r:=none) X J hp ht fun b=>?_)
  obtain ⟨cd,hc,hd'⟩:=PySem.W.any_some hh
  have hx:s.heap.get? x=some ⟨.ref C,some dx,.plain,#[]⟩:=I.obj
  refine wpAny_bind (wpAny_pure (wpAny_bind (wpAny_bind (wpAny_loadPart hx (wpAny_bind (PySem.W.Looks.here (s:={s with toks:=s.toks+1}) (PySem.W.looks_clsIn X hc) ?_))))))
  rw [hd']
  refine wpAny_pure (a:=some dx) (wpAny_bind (wpAny_pure (wpAny_bind ?_)))
  refine wpAny_nsSet1 (s:={s with toks:=s.toks+1}) I.ns fun h' hn2 hs2=>?_
  obtain ⟨oD,esD,epD,hoD,hdD,hcD⟩:=hn2.count (PySem.Within.cons name v hw)
  refine wpAny_bind (wpAny_lookBehind hoD (by rw [hdD];exact pastItsLine_dict (Nat.le_trans hcD (by rw [List.length_cons];omega))) ?_)
  exact wpAny_pure (h _ ⟨(hs2.2 _ (Ne.symm I.ne)).trans I.obj,hn2,I.ne⟩ hs2)
theorem znw {R:Result→Shared→Prop} {vs:List Value} {kw:List (Str×Value)} (X:K.In s.heap) (hm:PySem.W.makesIn K C=true)
    (hi:PySem.W.findIn K (.ref C) "__init__"=some (some (.ref f))) (hf:PySem.W.typeIn K (.ref f)=some (.type "function"))
    (h:codeAny (model prog w) (A.under (.builtin "type.__call__" ⟨.ref C::vs,kw⟩)) (.call (.ref f) ⟨.ref (s.heap.objs.size+1)::vs,kw⟩) (PySem.W.InitBack (s.heap.objs.size+1) R)
      {s with heap:=(s.heap.push PySem.W.emptyDict).push (PySem.W.instObj C s.heap.objs.size)}) :
    codeAny (model prog w) A (.call (.ref C) ⟨vs,kw⟩) R s:=by
  obtain ⟨hh,g,d,t,os⟩:=s
  exact PySem.W.make_core (PySem.W.makes_of X hm) (PySem.W.looks_findIn X hi) (fun self=>PySem.W.bind_fn X self hf) (.inl rfl) h
end
noncomputable def putF (f:Str) (v:V):List (Str×V)→List (Str×V)
  | []=>[(f,v)]
  | (g,x)::r=>if g=f then (g,v)::r else (g,x)::putF f v r
theorem zfj (f g:Str) (v:V):∀fs:List (Str×V),(putF f v fs).lookup g=if g=f then some v else fs.lookup g
  | []=>by
    show List.lookup g [(f,v)]=_
    by_cases h:g=f
    · have hb:(g==f)=true:=beq_iff_eq.mpr h
      simp only [List.lookup,hb,if_pos h]
    · have hb:(g==f)=false:=beq_eq_false_iff_ne.mpr h
      simp only [List.lookup,hb,if_neg h]
  | (k,x)::r=>by
    have ih:=zfj f g v r
    rw [show putF f v ((k,x)::r)=(if k=f then (k,v)::r else (k,x)::putF f v r) from rfl]
    by_cases hk:k=f
    · rw [if_pos hk]
      by_cases h:g=k
      · have hb:(g==k)=true:=beq_iff_eq.mpr h
        simp only [List.lookup,hb,if_pos (h.trans hk)]
      · have hb:(g==k)=false:=beq_eq_false_iff_ne.mpr h
        simp only [List.lookup,hb,if_neg (fun e:g=f=>h (e.trans hk.symm))]
    · rw [if_neg hk]
      by_cases h:g=k
      · have hb:(g==k)=true:=beq_iff_eq.mpr h
        simp only [List.lookup,hb,if_neg (fun e:g=f=>hk (h.symm.trans e))]
      · have hb:(g==k)=false:=beq_eq_false_iff_ne.mpr h
        simp only [List.lookup,hb]
        exact ih
theorem zfm (f:Str) (v:V):∀fs:List (Str×V),f∈(putF f v fs).map (·.1)∧∀g,g∈fs.map (·.1)→g∈(putF f v fs).map (·.1)
  | []=>⟨by simp [putF],fun g h=>by simp at h⟩
  | (k,x)::r=>by
    obtain ⟨i1,i2⟩:=zfm f v r
    rw [show putF f v ((k,x)::r)=(if k=f then (k,v)::r else (k,x)::putF f v r) from rfl]
    by_cases hk:k=f
    · rw [if_pos hk]
      subst hk
      exact ⟨by simp,fun g h=>by simpa using h⟩
    · rw [if_neg hk]
      refine ⟨?_,fun g h=>?_⟩
      · rw [List.map_cons]
        exact List.mem_cons_of_mem _ i1
      · rw [List.map_cons] at h ⊢
        rcases List.mem_cons.mp h with e|e
        · exact List.mem_cons.mpr (.inl e)
        · exact List.mem_cons_of_mem _ (i2 g e)
theorem zfk (f:Str) (v:V):∀fs:List (Str×V),(putF f v fs).length≤fs.length+1
  | []=>by simp [putF]
  | (k,x)::r=>by
    have ih:=zfk f v r
    rw [show putF f v ((k,x)::r)=(if k=f then (k,v)::r else (k,x)::putF f v r) from rfl]
    by_cases hk:k=f
    · rw [if_pos hk,List.length_cons,List.length_cons];omega
    · rw [if_neg hk,List.length_cons,List.length_cons];omega
theorem RelO.some_of {v:V} {o:Option Value} (r:RelO (some v) o):∃u,o=some u∧RelV v u:=by
  cases o with
  | none=>exact (show False from r).elim
  | some u=>exact ⟨u,rfl,r⟩
theorem RelO.none_of {o:Option Value} (r:RelO none o):o=none:=by
  cases o with
  | none=>rfl
  | some u=>exact (show False from r).elim
theorem zmf {v:V} {u:Value} (r:RelV v u):PySem.W.handedIn u=true:=by
  cases v with
  | non=>cases (show u=Value.none from r);rfl
  | bl b=>cases (show u=Value.bool b from r);rfl
  | int i=>obtain ⟨t,e⟩:=(show ∃t,u=Value.int i t from r);cases e;rfl
  | str x=>obtain ⟨t,e⟩:=(show ∃t,u=Value.str x t from r);cases e;rfl
  | byt b=>obtain ⟨t,e⟩:=(show ∃t,u=Value.bytes b t from r);cases e;rfl
  | flt b=>obtain ⟨t,e⟩:=(show ∃t,u=Value.float b t from r);cases e;rfl
  | ref a=>cases (show u=Value.ref a from r);rfl
  | ty n=>cases (show u=Value.type n from r);rfl
section
variable {P:Program} {w:World} {H H':Hp} {h h':Heap} {a C dx:Addr} {fs fs':List (Str×V)}
theorem zim (hok:HOk P w H h) (e:H a=some (.ins C dx fs)):∃mA,ObjM h a dx C mA∧(∀f,RelO (fs.lookup f) (mA f))∧PySem.Within mA (fs.map (·.1))∧fs.length≤1000∧H dx=some (.own a):=by
  obtain ⟨d,z,ne,ob,mA,n,r,q⟩:=(show ObjOk P w H h a (.ins C dx fs) from hok a _ e)
  exact ⟨mA,⟨ob,n,ne⟩,r,q,z,d⟩
end
structure Cls (K:PySem.W.Frag) (C:Addr):Prop where
  pg:PySem.W.plainGet K C Str.empty=true
  hd:PySem.W.hasDictIn K C=true
  po:PySem.W.plainOver K C=true
  sa:PySem.W.findIn K (.ref C) "__setattr__"=some (some (.builtin "object.__setattr__"))
theorem Cls.get {K:PySem.W.Frag} {C:Addr} (c:Cls K C) (f:Str):PySem.W.plainGet K C f=true:=c.pg
def NoAttr (K:PySem.W.Frag) (C:Addr) (f:Str):Prop:=PySem.W.findIn K (.ref C) f=some none
theorem NoAttr.taker {K:PySem.W.Frag} {C:Addr} {f:Str} (n:NoAttr K C f):PySem.W.takerIn K C f=some none:=by
  unfold PySem.W.takerIn
  rw [show PySem.W.findIn K (.ref C) f=some none from n]
  rfl
structure Meth (K:PySem.W.Frag) (C:Addr) (m:Str) (f:Addr):Prop where
  at_:PySem.W.findIn K (.ref C) m=some (some (.ref f))
  fn:PySem.W.isFn K (.ref f)=true
  kp:PySem.W.keepIn K (.ref f)=true
section
variable {X:Cx} {pins:List (Addr×Obj)} {σ:St} {H:Hp} {s:Shared} {a C dx:Addr} {fs:List (Str×V)} {f:Str} {v:V} {A:Around} {E:Value→Shared→Prop}
theorem zkq {b:Bool} {Q:Value→Shared→Prop} (I:Inv X pins σ H s) (e:H a=some (.ins C dx fs)) (c:Cls X.K C) (n:NoAttr X.K C f) (l:fs.lookup f=some v)
    (h:∀u s',Inv X pins σ H s'→RelV v u→Q u s'):wpAny (model X.prog X.w) A (getAttr (.ref a) f b) Q E s:=by
  obtain ⟨mA,O,r,_,_,_⟩:=zim I.hok e
  obtain ⟨u,hu,ru⟩:=RelO.some_of (v:=v) (o:=mA f) (by rw [←l];exact r f)
  exact zpu I.kIn O (c.get f) c.hd n hu (zmf ru) (h u _ (I.tok _) ru)
theorem zgl {m:Str} {g:Addr} {pl:Sem Bool} {Q:Value×List Value→Shared→Prop} (I:Inv X pins σ H s) (e:H a=some (.ins C dx fs)) (c:Cls X.K C) (k:Meth X.K C m g) (l:fs.lookup m=none)
    (h:Q (.ref g,[.ref a]) s):wpAny (model X.prog X.w) A (getMethod (.ref a) m pl) Q E s:=by
  obtain ⟨mA,O,r,_,_,_⟩:=zim I.hok e
  have hn:mA m=none:=RelO.none_of (by rw [←l];exact r m)
  exact zn1 I.kIn O (c.get m) k.at_ k.fn hn h
theorem zjv {y:V} {u:Value} {Q:Unit→Shared→Prop} (I:Inv X pins σ H s) (e:H a=some (.ins C dx fs)) (c:Cls X.K C) (n:NoAttr X.K C f) (hl:fs.length<1000) (ry:RelV y u)
    (h:∀s',Inv X pins σ (upd H a (.ins C dx (putF f y fs))) s'→Q () s'):wpAny (model X.prog X.w) A (setAttr (.ref a) f u) Q E s:=by
  obtain ⟨mA,O,r,wi,_,ho⟩:=zim I.hok e
  have hz:(fs.map (·.1)).length≤sizeLine:=by rw [List.length_map,sizeLine_eq];omega
  refine zov I.kIn O c.sa c.po n.taker c.hd wi hz fun h' O' sb=>h _ ?_
  have hd:∃o,h'.get? dx=some o:=let ⟨o,_,_,e',_⟩:=O'.ns;⟨o,e'⟩
  refine I.write (x:=a) (e:=dx) (by rw [e];exact True.intro) (.inr ho) (fun b q hb z=>(sb.2 b hb).trans z) hd ?_
  refine ⟨by rw [zal O.ne];exact ho,?_,O.ne,O'.obj,_,O'.ns,fun g=>?_,fun g hg=>?_⟩
  · have:=zfk f y fs;omega
  · show RelO ((putF f y fs).lookup g) (if g=f then some u else mA g)
    rw [zfj]
    by_cases q:g=f
    · rw [if_pos q,if_pos q];exact ry
    · rw [if_neg q,if_neg q];exact r g
  · by_cases q:g=f
    · rw [q];exact (zfm f y fs).1
    · refine (zfm f y fs).2 g (wi g fun z=>hg ?_)
      show (if g=f then some u else mA g)=none
      rw [if_neg q];exact z
theorem Inv.made (I:Inv X pins σ H s):Inv X pins σ (upd (upd H s.heap.objs.size (.own (s.heap.objs.size+1))) (s.heap.objs.size+1) (.ins C s.heap.objs.size []))
    {s with heap:=(s.heap.push PySem.W.emptyDict).push (PySem.W.instObj C s.heap.objs.size)}:=by
  have e1:(s.heap.push PySem.W.emptyDict).get? s.heap.objs.size=some PySem.W.emptyDict:=Heap.get?_push_size s.heap rfl
  have e2:((s.heap.push PySem.W.emptyDict).push (PySem.W.instObj C s.heap.objs.size)).get? (s.heap.objs.size+1)=some (PySem.W.instObj C s.heap.objs.size):=by
    have:=Heap.get?_push_size (s.heap.push PySem.W.emptyDict) (o:=PySem.W.instObj C s.heap.objs.size) rfl
    rwa [Heap.size_push] at this
  have e3:(s.heap.push PySem.W.emptyDict).Ns s.heap.objs.size (fun _=>none):=⟨PySem.W.emptyDict,#[],_,e1,rfl,(fun e he=>absurd he (by simp)),fun _=>rfl⟩
  have I1:=I.laid (a:=s.heap.objs.size) (o:=.own (s.heap.objs.size+1)) (h':=s.heap.push PySem.W.emptyDict) (t':=s.toks) (fun b u q=>Heap.get?_push_of_some _ q) (Nat.le_refl _) ⟨_,e1⟩
  refine I1.laid (a:=s.heap.objs.size+1) (o:=.ins C s.heap.objs.size []) (t':=s.toks) (fun b u q=>Heap.get?_push_of_some _ q) (Nat.le_of_eq (Heap.size_push _ _)) ?_
  have ne:s.heap.objs.size≠s.heap.objs.size+1:=Nat.ne_of_lt (Nat.lt_succ_self _)
  refine ⟨by rw [zal ne,zat],Nat.zero_le _,ne,e2,fun _=>none,(Heap.Ns1.of_empty e3).at fun o q=>Heap.get?_push_of_some _ q,fun _=>True.intro,fun y hy=>absurd rfl hy⟩
theorem zp4 {prog:Program} {w:World} {env:Env} {e:Expr} {f:Str} {pos:Pos} {s:Shared} {Q:Value→Shared→Prop} (hb:attributeBase e f env (eval e env)=eval e env)
    (h:wpAny (model prog w) A (eval e env) (fun o s₁=>wpAny (model prog w) A (getAttr o f true) Q E s₁) E s):wpAny (model prog w) A (eval (.Attribute e f pos) env) Q E s :=
  Attribute_any_ h (by rw [arm_eval_Attribute,hb])
end
def tFld (K:PySem.W.Frag) (ta:TE) (f:Str):TE:=fun σ H Q=>ta σ H fun x H1=>∃a C dx fs v,x=.ref a∧H1 a=some (.ins C dx fs)∧Cls K C∧NoAttr K C f∧fs.lookup f=some v∧Q v H1
def sFld (K:PySem.W.Frag) (ta tv:TE) (f:Str):TS:=fun D σ H=>tv σ H fun y H1=>ta σ H1 fun x H2=>∃a C dx fs,x=.ref a∧H2 a=some (.ins C dx fs)∧Cls K C∧NoAttr K C f∧fs.length<1000 ∧
  D.nx σ (upd H2 a (.ins C dx (putF f y fs)))
section
variable {X:Cx} {o e value:Expr} {f:Str} {pos pos' tpos:Pos} {ta tv:TE}
theorem pe_fld (he:PE X e ta) (hb:attributeBase e f X.env (eval e X.env)=eval e X.env):PE X (.Attribute e f pos) (tFld X.K ta f):=by
  intro pins s σ H Q I h
  refine zp4 hb (thn (he pins s σ H _ I h) fun u s1 ⟨x,H1,I1,rx,a,C,dx,fs,v,ex,ea,c,n,l,q⟩=>?_)
  subst ex
  obtain rfl:u=Value.ref a:=rx
  exact zkq I1 ea c n l fun u' s2 I2 ru=>⟨v,H1,I2,ru,q⟩
theorem ps_fld (ha:PE X o ta) (hv:PE X value tv) (hs:swapsWith value (some (.Attribute o f pos')) pos.line X.env=pure false):PS X (.Assign [.Attribute o f pos'] value pos) (sFld X.K ta tv f):=by
  intro pins s σ H D I h
  refine plainObj_wpAny_Assign_Attribute (thn (hv pins s σ H _ I h) fun u s1 ⟨y,H1,I1,ry,q⟩=>thn (ha pins s1 σ H1 _ I1 q) fun ov s2 ⟨x,H2,I2,rx,a,C,dx,fs,ex,ea,c,n,l,q2⟩=>?_) hs
  subst ex
  obtain rfl:ov=Value.ref a:=rx
  exact zjv I2 ea c n l ry fun s3 I3=>⟨σ,_,I3,q2⟩
end
end L2
namespace L2
open PySem PySem.Spec PyProof.Rows
structure Room (k:Nat) (A:Around):Prop where
  hd:A.handled=none
  dp:A.depth+3*k+5<recursionLimit
  un:A.units+16*k+200<cLine
theorem Room.mono {j k:Nat} {A:Around} (r:Room k A) (h:j≤k):Room j A:=⟨r.hd,by have:=r.dp;omega,by have:=r.un;omega⟩
theorem Room.deeper {k:Nat} {A:Around} (r:Room (k+1) A) (env:Env):Room k (A.deeper env) :=
  ⟨r.hd,by have:=r.dp;show A.depth+1+3*k+5<_;omega,by have:=r.un;show A.units+3+16*k+200<_;omega⟩
theorem zkl {A:Around} {C:Addr} {us:List Value} {kw:List (Str×Value)}:(A.under (.builtin "type.__call__" ⟨.ref C::us,kw⟩)).depth=A.depth+1:=by
  first|rfl|simp [Around.under,Code.weight,Code.isCreation,Code.isGuard,Code.isCaller,Code.frames,Code.isFrame,guardIds]
theorem zkk {A:Around} {C:Addr} {us:List Value} {kw:List (Str×Value)}:(A.under (.builtin "type.__call__" ⟨.ref C::us,kw⟩)).units=A.units+1:=by
  first|rfl|simp [Around.under,Code.cUnits,Code.frames,Code.isFrame]
theorem Room.make {k:Nat} {A:Around} (r:Room (k+1) A) (C:Addr) (us:List Value) (kw:List (Str×Value)):Room k (A.under (.builtin "type.__call__" ⟨.ref C::us,kw⟩)) :=
  ⟨r.hd,by have:=r.dp;rw [zkl];omega,by have:=r.un;rw [zkk];omega⟩
theorem Room.depth {k:Nat} {A:Around} (r:Room k A):A.depth<recursionLimit:=by have:=r.dp;omega
theorem Room.units {k:Nat} {A:Around} (r:Room k A):A.units+64<cLine:=by have:=r.un;omega
def tNil:TA:=fun _ H Q=>Q [] H
def tCons (ta:TE) (tr:TA):TA:=fun σ H Q=>ta σ H fun x H1=>tr σ H1 fun xs H2=>Q (x::xs) H2
section
variable {X:Cx} {e:Expr} {es:List Expr} {te:TE} {t:TA} {pos:Pos}
theorem pa_nil:PA X [] tNil:=fun _ _ _ _ H Q I h=>Calls.spliced_nil ⟨[],H,I,.nil,h⟩
theorem zpi (ha:PE X e te) (hr:PA X es t) (hs:starEach (e::es) X.env=(false,eval e X.env)::starEach es X.env:=by rfl):PA X (e::es) (tCons te t):=by
  intro pos pins s σ H Q I h
  rw [hs]
  show wpAny _ _ (spliced ((false,eval e X.env)::backTo pos (starEach es X.env))) _ _ s
  refine Calls.spliced_cons (thn (ha pins s σ H _ I h) fun u s1 ⟨x,H1,I1,r1,q1⟩=>?_)
  exact thn (hr pos pins s1 σ H1 _ I1 q1) fun us s2 z_11=>by obtain ⟨xs,H2,I2,r2,q2⟩:=z_11;exact ⟨x::xs,H2,I2,.cons r1 r2,q2⟩
def tTup (t:TA):TE:=fun σ H Q=>t σ H fun xs H1=>xs.length≤sizeLine∧∀p,H1 p=none→Q (.ref p) (upd H1 p (.tup xs))
def tLst (t:TA):TE:=fun σ H Q=>t σ H fun xs H1=>xs.length≤sizeLine∧∀p,H1 p=none→Q (.ref p) (upd H1 p (.lst xs))
theorem pe_tup {x1} (h:PA X es t):PE X (.Tuple es x1 pos) (tTup t):=by
  intro pins s σ H Q I hq
  refine wpAny_Tuple_spliced (thn (h pos pins s σ H _ I hq) fun us s1 ⟨xs,H1,I1,r,z,q⟩=>⟨by rw [←r.length];exact z,?_⟩)
  have hf:H1 s1.heap.objs.size=none:=I1.hok.fresh (Nat.le_refl _)
  refine ⟨.ref s1.heap.objs.size,upd H1 s1.heap.objs.size (.tup xs),I1.laid (t':=s1.toks) (fun b u e=>Heap.get?_push_of_some _ e) (Nat.le_refl _) ?_,rfl,q _ hf⟩
  exact ⟨z,us,r,⟨_,Heap.get?_push_size _ rfl,rfl,_,rfl⟩,fun o q=>by rw [Heap.get?_push_size _ rfl] at q;cases q;rfl⟩
theorem pe_lst (h:PA X es t):PE X (.List es pos) (tLst t):=by
  intro pins s σ H Q I hq
  refine wpAny_List_spliced (thn (h pos pins s σ H _ I hq) fun us s1 ⟨xs,H1,I1,r,z,q⟩=>⟨by rw [←r.length];exact z,?_⟩)
  have hf:H1 s1.heap.objs.size=none:=I1.hok.fresh (Nat.le_refl _)
  refine ⟨.ref s1.heap.objs.size,upd H1 s1.heap.objs.size (.lst xs),I1.laid (t':=s1.toks) (fun b u e=>Heap.get?_push_of_some _ e) (Nat.le_refl _) ?_,rfl,q _ hf⟩
  exact ⟨z,us,0,r,Heap.get?_push_size _ rfl⟩
end
noncomputable abbrev Sp:=List V→Hp→VK→XK→Prop
noncomputable abbrev CXT:=List Env→Hp→Shared→XK→Value→Shared→Prop
structure Env0 (P:Program) (w:World) (K:PySem.W.Frag) (mg:Str→Option Value) (base:Heap) (A:Around) (outer:List Env) (s:Shared) (H:Hp):Prop where
  frames:A.frames=some outer
  mod:Mod K mg base
  bs:∀b o,base.get? b=some o→s.heap.get? b=some o∧H b=none
  bsz:base.objs.size≤s.heap.objs.size
  funs:s.heap.FunFrames base outer
  frf:∀b∈frs outer,H b=none
  hok:HOk P w H s.heap
  bare:AllBare s.gens
def CE (outer:List Env) (P:Program) (w:World) (H:Hp) (s:Shared) (Q:VK) (u:Value) (s':Shared):Prop :=
  ∃v H',s'.os=s.os∧AllBare s'.gens∧Un (frs outer) [] H H' s.heap s'.heap∧HOk P w H' s'.heap∧RelV v u∧Q v H'
def CR (CX:CXT) (outer:List Env) (P:Program) (w:World) (H:Hp) (s:Shared) (Q:VK) (E:XK) (r:Result) (s':Shared):Prop :=
  match r with
  | .ok (.ret u)=>CE outer P w H s Q u s'
  | .ok _=>False
  | .error e=>CX outer H s E e s'
structure FnOk (P:Program) (w:World) (K:PySem.W.Frag) (mg:Str→Option Value) (base:Heap) (CX:CXT) (k:Nat) (f:Addr) (fd:FuncData) (ps:List Str) (sp:Sp):Prop where
  len:∀vs H Q E,sp vs H Q E→vs.length=ps.length
  run:∀(A:Around) (outer:List Env) (s:Shared) (H:Hp) (args:Args) (us:List Value) (vs:List V) (Q:VK) (E:XK),Room k A→Env0 P w K mg base A outer s H→BindsTo s fd args (ps.zip us)→Vals vs us→sp vs H Q E →
    codeAny (model P w) A (.call (.ref f) args) (CR CX outer P w H s Q E) s
theorem FnOk.mono {P:Program} {w:World} {K:PySem.W.Frag} {mg:Str→Option Value} {base:Heap} {CX:CXT} {j k:Nat} {f:Addr} {fd:FuncData} {ps:List Str} {sp:Sp} (F:FnOk P w K mg base CX j f fd ps sp) (h:j≤k) :
    FnOk P w K mg base CX k f fd ps sp:=⟨F.len,fun A outer s H args us vs Q E hr=>F.run A outer s H args us vs Q E (hr.mono h)⟩
theorem FnOk.imp {P:Program} {w:World} {K:PySem.W.Frag} {mg:Str→Option Value} {base:Heap} {CX:CXT} {k:Nat} {f:Addr} {fd:FuncData} {ps:List Str} {sp sp':Sp} (F:FnOk P w K mg base CX k f fd ps sp)
    (h:∀vs H Q E,sp' vs H Q E→sp vs H Q E):FnOk P w K mg base CX k f fd ps sp' :=
  ⟨fun vs H Q E q=>F.len vs H Q E (h _ _ _ _ q),fun A outer s H args us vs Q E hr he hb hv hs=>F.run A outer s H args us vs Q E hr he hb hv (h _ _ _ _ hs)⟩
theorem Env0.make {P:Program} {w:World} {K:PySem.W.Frag} {mg:Str→Option Value} {base:Heap} {A:Around} {outer:List Env} {s:Shared} {H:Hp} (e:Env0 P w K mg base A outer s H) (C:Addr) (us:List Value) (kw:List (Str×Value)) :
    Env0 P w K mg base (A.under (.builtin "type.__call__" ⟨.ref C::us,kw⟩)) outer s H:=⟨by first|exact e.frames|(simpa [Around.under,Code.envs,Code.isFrame,pushEnvs] using e.frames),e.mod,e.bs,e.bsz,e.funs,e.frf,e.hok,e.bare⟩
section
variable {X:Cx} {pins:List (Addr×Obj)} {σ:St} {H:Hp} {s s':Shared}
theorem Inv.env0 (I:Inv X pins σ H s):Env0 X.prog X.w X.K X.mg X.base X.A X.stack s H :=
  ⟨I.ok.frames,I.ok.mod,I.bs,Nat.le_trans I.ok.bsz I.sz,I.stack,I.stkFree,I.hok,I.bare⟩
theorem Inv.after {Q:VK} {u:Value} (I:Inv X pins σ H s) (h:CE X.stack X.prog X.w H s Q u s'):EP X pins σ Q u s':=by
  obtain ⟨v,H',os,bare,un,hok,r,q⟩:=h
  obtain ⟨hh,g,d,t,os'⟩:=s'
  obtain rfl:os'=s.os:=os
  exact ⟨v,H',I.call (h':=hh) (g':=g) (d':=d) (t':=t) (ch:=[]) un hok bare (fun b z=>absurd z (by simp)),r,q⟩
end
def Binds (K:PySem.W.Frag) (fd:FuncData) (ps:List Str) (ds:List Value):Prop :=
  ∀(s:Shared) (us:List Value),K.In s.heap→(us++ds).length=ps.length→BindsTo s fd ⟨us,[]⟩ (ps.zip (us++ds))
theorem Binds.all {K:PySem.W.Frag} {fd:FuncData} {ps:List Str} (h:∀us:List Value,us.length=ps.length→bindArgs fd ⟨us,[]⟩=pure (ps.zip us)):Binds K fd ps []:=fun s us _ hl=>by
  rw [List.append_nil] at hl ⊢
  exact .of_eq (h us hl)
def Passes (CX:CXT) (X:Cx) (E:XK):Prop:=∀(pins:List (Addr×Obj)) (σ:St) (H:Hp) (s:Shared) (e:Value) (s':Shared),Inv X pins σ H s→CX X.stack H s E e s'→X.xe e s'
section
variable {X:Cx} {CX:CXT} {k:Nat} {f C:Addr} {fd:FuncData} {ps:List Str} {sp:Sp} {dvs:List V} {ds:List Value} {E:XK} {x m:Str} {p pos apos:Pos} {e o:Expr} {es:List Expr} {ta:TE} {t:TA}
structure Mk (K:PySem.W.Frag) (C f:Addr):Prop where
  makes:PySem.W.makesIn K C=true
  init:PySem.W.findIn K (.ref C) "__init__"=some (some (.ref f))
  fn:PySem.W.isFn K (.ref f)=true
  kp:PySem.W.keepIn K (.ref C)=true
end
structure FnScope (N P:List Str) (sc:Scope):Prop where
  kind:sc.kind=.function
  co:sc.isCoroutine=false
  gen:sc.isGenerator=false
  nd:N.Nodup
  pre:N.take P.length=P
  par:∀x∈P,sc.names.lookup x=some .local∨sc.names.lookup x=some .cell
  nofree:∀y∈sc.names,y.2≠.free
theorem zhz {kindOf:Str→Option NameKind} {x:Str}:∀{binds:List (Str×Value)} {m:Str→Option Value},(∀v,(x,v)∉binds)→bindL kindOf binds m x=m x
  | [],_,_=>rfl
  | (n,v)::r,m,h=>by
    unfold bindL
    rw [zhz fun w hw=>h w (List.mem_cons_of_mem _ hw)]
    split
    · have:x≠n:=by rintro rfl;exact h v List.mem_cons_self
      simp [this]
    · rfl
theorem zh1 {kindOf:Str→Option NameKind} {x:Str}:∀{binds:List (Str×Value)} {m:Str→Option Value},(∀v,(x,v)∉binds)→bindC kindOf binds m x=m x
  | [],_,_=>rfl
  | (n,v)::r,m,h=>by
    unfold bindC
    rw [zh1 fun w hw=>h w (List.mem_cons_of_mem _ hw)]
    split
    · rfl
    · have:x≠n:=by rintro rfl;exact h v List.mem_cons_self
      simp [this]
theorem zh0 {kindOf:Str→Option NameKind} {x:Str} {v:Value}:∀{P:List Str} {vs:List Value} {i:Nat} {m:Str→Option Value},P.Nodup→P[i]?=some x→vs[i]?=some v→kindOf x=some .local →
    bindL kindOf (P.zip vs) m x=some v
  | [],_,_,_,_,h,_,_=>by simp at h
  | _::_,[],_,_,_,_,h,_=>by simp at h
  | p::P,w::vs,0,m,nd,h1,h2,hk=>by
    simp at h1 h2;subst h1;subst h2
    show bindL kindOf ((p,w)::P.zip vs) m p=_
    unfold bindL
    rw [zhz fun v hv=>(List.nodup_cons.mp nd).1 (List.of_mem_zip hv).1,if_pos hk]
    simp
  | p::P,w::vs,i+1,m,nd,h1,h2,hk=>by
    show bindL kindOf ((p,w)::P.zip vs) m x=_
    unfold bindL
    exact zh0 (i:=i) (List.nodup_cons.mp nd).2 (by simpa using h1) (by simpa using h2) hk
theorem zh2 {kindOf:Str→Option NameKind} {x:Str} {v:Value}:∀{P:List Str} {vs:List Value} {i:Nat} {m:Str→Option Value},P.Nodup→P[i]?=some x→vs[i]?=some v→kindOf x≠some .local →
    bindC kindOf (P.zip vs) m x=some v
  | [],_,_,_,_,h,_,_=>by simp at h
  | _::_,[],_,_,_,_,h,_=>by simp at h
  | p::P,w::vs,0,m,nd,h1,h2,hk=>by
    simp at h1 h2;subst h1;subst h2
    show bindC kindOf ((p,w)::P.zip vs) m p=_
    unfold bindC
    rw [zh1 fun v hv=>(List.nodup_cons.mp nd).1 (List.of_mem_zip hv).1,if_neg hk]
    simp
  | p::P,w::vs,i+1,m,nd,h1,h2,hk=>by
    show bindC kindOf ((p,w)::P.zip vs) m x=_
    unfold bindC
    exact zh2 (i:=i) (List.nodup_cons.mp nd).2 (by simpa using h1) (by simpa using h2) hk
noncomputable def start (N:List Str) (vs:List V):St:=vs.map some++List.replicate (N.length-vs.length) none
noncomputable def cxOf (CX:CXT) (P:Program) (w:World) (K:PySem.W.Frag) (mg:Str→Option Value) (base:Heap) (N:List Str) (qual:Str) (scope:Scope) (f:Addr) (cd:Value) (A:Around) (outer:List Env) (s:Shared) (H:Hp) (E:XK):Cx where
  prog:=P
  w:=w
  K:=K
  mg:=mg
  base:=base
  A:=A.deeper (envOfC qual scope s.heap.objs.size f cd)
  N:=N
  s₀:=s
  H₀:=H
  env:=envOfC qual scope s.heap.objs.size f cd
  outer:=outer
  stack:=envOfC qual scope s.heap.objs.size f cd::outer
  ex:=[]
  calm:=true
  fn:=fun _=>true
  pn:=[]
  xe:=fun e s'=>wpAny (model P w) (A.deeper (envOfC qual scope s.heap.objs.size f cd)) (leaving (envOfC qual scope s.heap.objs.size f cd) e) (fun _ s''=>CX outer H s E e s'') (fun e' s''=>CX outer H s E e' s'') s'
theorem zjm {sc:Scope} {n:Nat} {x:Str} (h:sc.names.lookup x=some .cell):∃c,(cellsFrom n sc.names []).lookup x=some c:=by
  have q:=PySem.W.cellsFrom_some sc.names n [] (.inl h)
  exact Option.isSome_iff_exists.mp q
theorem zmb {CX:CXT} {P:Program} {w:World} {K:PySem.W.Frag} {mg:Str→Option Value} {base:Heap} {N ps:List Str} {qual:Str} {scope:Scope} {f:Addr} {cd:Value} {A:Around} {outer:List Env} {s s1:Shared} {H:Hp} {E:XK} {us:List Value} {vs:List V}
    (S:FnScope N ps scope) (hd:A.handled=none) (e0:Env0 P w K mg base A outer s H) (hl:vs.length=ps.length) (r:Vals vs us)
    (x:InCallC s s.heap.objs.size (bindL (envOfC qual scope s.heap.objs.size f cd).kindOf (ps.zip us) fun _=>none) (cellsFrom (s.heap.objs.size+1) scope.names []) (bindC (envOfC qual scope s.heap.objs.size f cd).kindOf (ps.zip us) fun _=>none) s1) :
    Inv (cxOf CX P w K mg base N qual scope f cd A outer s H E) [] (start N vs) H s1:=by
  have hpl:ps.length≤N.length:=by have:=congrArg List.length S.pre;rw [List.length_take] at this;omega
  obtain ⟨h1,tk,rfl,hk⟩:=x.done
  have noA:∀b:Addr,b∉(cxOf CX P w K mg base N qual scope f cd A outer s H E).ex:=fun b z=>absurd (show b∈([]:List Addr) from z) (by simp)
  refine ⟨⟨e0.mod,S.kind,rfl,rfl,Nat.le_refl _,fun y z c h1 h2=>?_,fun y hy=>?_,fun y c _ h=>?_,fun _=>hd,Around.frames_deeper e0.frames,.inr ⟨rfl,rfl⟩,fun b z=>absurd z (noA b),e0.bs,e0.bsz,fun b _ _=>noA b,fun b z=>absurd z (noA b),e0.funs,e0.frf⟩,
    rfl,e0.bare,Un.kept hk,⟨_,x.toInCall.ns,fun i y v h1 h2 h3=>?_⟩,fun y c h=>⟨_,x.cell y c h⟩,e0.hok.fresh (Nat.le_refl _),fun y c h=>?_,fun p hp=>absurd (show p∈([]:List (Addr×Obj)) from hp) (by simp),e0.hok.kept hk,?_⟩
  · exact name_of_addr x.apart (PySem.mem_of_lookup h1) (PySem.mem_of_lookup h2)
  · have hy:scope.names.lookup y=some .cell∨scope.names.lookup y=some .free:=hy
    rcases hy with hy|hy
    · exact zjm hy
    · exact absurd rfl (S.nofree _ (PySem.mem_of_lookup hy))
  · exact Nat.le_of_lt (x.above y c (PySem.mem_of_lookup h))
  · have hi:i<vs.length:=by
      unfold start at h2
      by_cases hi:i<vs.length
      · exact hi
      · rw [List.getElem?_append_right (by simpa using hi)] at h2
        rw [List.getElem?_replicate] at h2
        split at h2<;>cases h2
    have ha:vs[i]?=some v:=by
      unfold start at h2
      rw [List.getElem?_append_left (by simpa using hi),List.getElem?_map] at h2
      cases e:vs[i]? with
      | none=>rw [e] at h2;cases h2
      | some a=>rw [e] at h2;cases h2;rfl
    obtain ⟨u,hu,rv⟩:=r.get ha
    have hp:ps[i]?=some y:=by
      rw [←S.pre,List.getElem?_take_of_lt (by omega)];exact h1
    have ndP:ps.Nodup:=by rw [←S.pre];exact S.nd.sublist (List.take_sublist _ _)
    refine ⟨u,rv,?_⟩
    rcases S.par y (List.mem_of_getElem? hp) with k|k
    · exact .inl ⟨k,zh0 ndP hp hu k⟩
    · obtain ⟨c,e⟩:=zjm (n:=s.heap.objs.size+1) k
      refine .inr ⟨.inl k,c,e,?_⟩
      have q:=x.cell y c e
      rw [zh2 ndP hp hu (by show scope.names.lookup y≠_;rw [k];decide)] at q
      exact q
  · exact e0.hok.fresh (Nat.le_of_lt (x.above y c (PySem.mem_of_lookup h)))
  · unfold start
    show _=N.length
    rw [List.length_append,List.length_map,List.length_replicate]
    omega
theorem zn2 {CX:CXT} {P:Program} {w:World} {K:PySem.W.Frag} {mg:Str→Option Value} {base:Heap} {k:Nat} {f:Addr} {name qual:Str} {params:Arguments} {body:List Stmt} {scope:Scope} {dV kV doc pm cdv ct oc:Value} {an od:Option Addr}
    {osl:Array (Option Value)} {N ps:List Str} {sp:Sp} (lk:K.lookup f=some ⟨oc,od,.func (PySem.W.fnOf name qual params body scope dV kV doc pm an cdv ct),osl⟩) (hcd:PySem.W.codeIn K cdv qual=true) (S:FnScope N ps scope)
    (len:∀vs H Q E,sp vs H Q E→vs.length=ps.length)
    (hbody:∀(A:Around) (outer:List Env) (s:Shared) (H:Hp) (vs:List V) (Q:VK) (E:XK),Room k (A.deeper (envOfC qual scope s.heap.objs.size f cdv))→sp vs H Q E →
      ∃t,PSs (cxOf CX P w K mg base N qual scope f cdv A outer s H E) body t∧t {nx:=fun _ H'=>Q .non H',rt:=Q} (start N vs) H) :
    FnOk P w K mg base CX (k+1) f (PySem.W.fnOf name qual params body scope dV kV doc pm an cdv ct) ps sp:=by
  refine ⟨len,fun A outer s H args us vs Q E hr e0 hb r hsp=>?_⟩
  have hl:=len _ _ _ _ hsp
  have KX:K.In s.heap:=e0.mod.kin.keeps fun b o e=>(e0.bs b o e).1
  have lim:s.heap.NoLimit:=e0.mod.nolimit.keeps fun b o e=>(e0.bs b o e).1
  have hkind:∀y∈ps.zip us,scope.names.lookup y.1=some .local∨(scope.names.lookup y.1=some .cell∧((cellsFrom (s.heap.objs.size+1) scope.names []).lookup y.1).isSome=true):=fun z_13 hy=>by
    obtain ⟨n,v⟩:=z_13
    rcases S.par n (List.of_mem_zip hy).1 with q|q
    · exact .inl q
    · exact .inr ⟨q,PySem.W.cellsFrom_some _ _ _ (.inl q)⟩
  refine codeAny_call_function hr.depth (KX _ _ lk) rfl S.co S.gen rfl (PySem.W.codeRec_of KX hcd) (hb _ _ _ _ ?_)
  refine wpAny_newFunctionEnv_cells S.kind hkind fun env he s1 x=>?_
  subst he
  refine ⟨lim.keeps x.toInCall.keep,codeAny_func ?_⟩
  obtain ⟨t,ht,hq⟩:=hbody A outer s H vs Q E (hr.deeper _) hsp
  have I:Inv (cxOf CX P w K mg base N qual scope f cdv A outer s H E) [] (start N vs) H s1:=zmb S hr.hd e0 hl r x
  refine wpAny_mono (ht [] s1 (start N vs) H _ I hq) (fun fl s' hs=>?_) fun e s' hs=>hs
  have fin:∀{σ':St} {H':Hp} {v:V} {u:Value},Inv (cxOf CX P w K mg base N qual scope f cdv A outer s H E) [] σ' H' s'→RelV v u→Q v H'→CE outer P w H s Q u s' :=
    fun {σ' H' v u} J rv q=>⟨v,H',J.os,J.bare,J.base,J.hok,rv,q⟩
  cases fl with
  | ret u =>
    obtain ⟨v,σ',H',J,rv,q⟩:=hs
    exact fin J rv q
  | next =>
    obtain ⟨σ',H',J,q⟩:=hs
    exact fin (v:=V.non) (u:=Value.none) J rfl q
  | brk =>
    obtain ⟨_,_,_,q⟩:=hs
    exact False.elim q
  | cont =>
    obtain ⟨_,_,_,q⟩:=hs
    exact False.elim q
end L2
namespace L2
open PySem PySem.Spec PyProof.Rows
section
variable {X:Cx} {x:Str} {p pos:Pos} {e:Expr} {es:List Expr} {t:TA} {id T:String} {r:List V→Hp→VK→Prop}
def tCB (r:List V→Hp→VK→Prop) (t:TA):TE:=fun σ H Q=>t σ H fun vs H1=>r vs H1 Q
theorem znp (hc:CallR X (.builtin id) r) (hg:Gl X x) (hm:X.mg x=none) (hv:bootBuiltins x=some (.builtin id)) (ha:PA X (e::es) t) (hn:x≠"__name__":=by decide) (hdb:(x==("__debug__":Str))=false:=by decide)
    (he:starEach (e::es) X.env=(false,eval e X.env)::starEach es X.env:=by rfl) (hpl:(backTo pos (starEach es X.env)).any (·.1)=false:=by rfl):PE X (.Call (.Name x p) (e::es) [] pos) (tCB r t):=by
  intro pins s σ H Q I h
  refine wpAny_Call_Name_kw (zhn I hg hm hv ?_ hn hdb)
  exact PyProof.Rows.callWith_builtin1 (thn (ha pos pins s σ H _ I h) fun us s1 z_14=>by obtain ⟨vs,H1,I1,r1,q1⟩:=z_14;exact hc pins s1 σ H1 vs us Q I1 r1 q1) he hpl
theorem zls (hc:CallR X (.type T) r) (hg:Gl X x) (hm:X.mg x=none) (hv:bootBuiltins x=some (.type T)) (ha:PA X (e::es) t) (hn:x≠"__name__":=by decide) (hdb:(x==("__debug__":Str))=false:=by decide)
    (he:starEach (e::es) X.env=(false,eval e X.env)::starEach es X.env:=by rfl) (hpl:(backTo pos (starEach es X.env)).any (·.1)=false:=by rfl):PE X (.Call (.Name x p) (e::es) [] pos) (tCB r t):=by
  intro pins s σ H Q I h
  refine wpAny_Call_Name_kw (zhn I hg hm hv ?_ hn hdb)
  exact PyProof.Rows.callWith_type1 (thn (ha pos pins s σ H _ I h) fun us s1 z_15=>by obtain ⟨vs,H1,I1,r1,q1⟩:=z_15;exact hc pins s1 σ H1 vs us Q I1 r1 q1) he hpl
end
end L2
namespace HT
open PySem PyProof.Rows
section
open PySem.SeqAt
open PySem.AutoSeq1 (wpAny_loadPart')
open PySem.MeetsSeq PySem.MeetsSeq2 PySem.MeetsSeq3
end
section
variable {prog:Program} {w:World} {A:Around} {E:Value→Shared→Prop} {s:Shared}
theorem zp3 {t b:Addr} {vs ws:List Value} {Q:Value→Shared→Prop} (ht:IsTup s.heap t vs.toArray) (hb:IsTup s.heap b ws.toArray) (hv:vs≠[])
    (h1:ws=[]→Q (.ref t) s) (h2:ws≠[]→Q (.ref s.heap.objs.size) {s with heap:=s.heap.push {cls:=.type "tuple",data:=.seq (vs++ws).toArray}})
    (hsz:vs.length+ws.length≤sizeLine):wpAny (model prog w) A (binaryOp .Add (.ref t) (.ref b)) Q E s:=by
  obtain ⟨⟨cls,dd,data,sl⟩,ho,hc,n,hd⟩:=id ht
  obtain ⟨⟨cls2,dd2,data2,sl2⟩,ho2,hc2,n2,hd2⟩:=id hb
  simp only at hc hd hc2 hd2
  subst hc hd hc2 hd2
  have e:vs.toArray++ws.toArray=(vs++ws).toArray:=by simp
  by_cases hw:ws=[]
  · exact concat_meets ⟨_,ho,rfl⟩ ⟨_,ho2,rfl⟩ noFill_tuple_add seq_tuple_add PySem.F.slot_tuple_add PySem.F.entry_tuple_add (PySem.F.args_tuple_add_2 _ _)
      (tuple_addW1 t b vs.toArray ws.toArray n n2 dd dd2 sl sl2 (by simpa using hv) (by simp [hw])) ⟨ho,ho2,h1 hw⟩
  · refine concat_meets ⟨_,ho,rfl⟩ ⟨_,ho2,rfl⟩ noFill_tuple_add seq_tuple_add PySem.F.slot_tuple_add PySem.F.entry_tuple_add (PySem.F.args_tuple_add_2 _ _)
      (tuple_addW2 t b vs.toArray ws.toArray n n2 dd dd2 sl sl2 (by simpa using hv) (by simpa using hw) (by rw [List.size_toArray,List.size_toArray];exact hsz)) ⟨ho,ho2,?_⟩
    rw [e]
    exact h2 hw
noncomputable def sIx (n d:Nat):Option Int→Nat
  | none=>d
  | some v=>if v<0 then (v+(n:Int)).toNat else min v.toNat n
theorem zdy (n d:Nat):sIx n d none=d:=rfl
theorem zff (n d k:Nat):sIx n d (some (k:Int))=min k n:=by
  show (if (k:Int)<0 then ((k:Int)+(n:Int)).toNat else min (k:Int).toNat n)=min k n
  rw [if_neg (by omega),Int.toNat_natCast]
theorem zlh (n d:Nat) (hd:d≤n) (o:Option Int):sIx n d o≤n:=by
  cases o with
  | none=>exact hd
  | some v =>
    show (if v<0 then (v+(n:Int)).toNat else min v.toNat n)≤n
    by_cases hv:v<0
    · rw [if_pos hv];omega
    · rw [if_neg hv];exact Nat.min_le_right _ _
theorem zmw (v:Int) (n d:Nat):(if v<0 then max (v+(n:Int)) 0 else min v (n:Int))=((sIx n d (some v):Nat):Int):=by
  show (if v<0 then max (v+(n:Int)) 0 else min v (n:Int))=(((if v<0 then (v+(n:Int)).toNat else min v.toNat n):Nat):Int)
  by_cases hv:v<0
  · simp only [if_pos hv];omega
  · simp only [if_neg hv];omega
theorem zkv (lo hi:Option Int) (n:Nat):Builtin.Slice.sliceAdjust lo hi 1 (n:Int)=(((sIx n 0 lo:Nat):Int),((sIx n n hi:Nat):Int)):=by
  have h1:¬((1:Int)<0):=by omega
  unfold Builtin.Slice.sliceAdjust
  simp only [h1,if_false]
  refine Prod.ext ?_ ?_
  · cases lo with
    | none=>rfl
    | some v=>exact zmw v n 0
  · cases hi with
    | none=>rfl
    | some v=>exact zmw v n n
theorem zj7 (i j:Nat):Builtin.Slice.slicePlaces (i:Int) (j:Int) 1=j-i:=by
  unfold Builtin.Slice.slicePlaces
  have h1:(1:Int)>0:=by omega
  simp only [h1,if_true,Int.ediv_one]
  split<;>omega
theorem zga {v:Value} {o:Option Int} {Q:Option Int→Shared→Prop} (p:IsPart v o) (h:Q o s):wpAny (model prog w) A (Builtin.Slice.slicePartIndex v) Q E s:=by
  cases p with
  | none=>exact slicePart_none h
  | int i t=>exact slicePart_int h
theorem zc9 {sl:Addr} {vl vu:Value} {lo hi:Option Int} {n:Nat} {Q:Int×Int×Nat→Shared→Prop} (hs:s.heap.IsSliceOf sl vl vu .none) (pl:IsPart vl lo) (pu:IsPart vu hi)
    (h:Q (((sIx n 0 lo:Nat):Int),1,sIx n n hi-sIx n 0 lo) s):wpAny (model prog w) A (Builtin.Slice.sliceApplied (.ref sl) (pure (n:Int))) Q E s:=by
  obtain ⟨os,hos,hcs,hds⟩:=id hs
  unfold Builtin.Slice.sliceApplied Builtin.Slice.sliceFields
  refine wpAny_bind (wpAny_bind (wpAny_field hos hds (x:=vl) rfl (wpAny_bind (wpAny_field hos hds (x:=vu) rfl (wpAny_bind (wpAny_field hos hds (x:=.none) rfl (wpAny_pure ?_)))))))
  refine wpAny_bind (slicePart_none ?_)
  show wpAny _ _ (if ((1:Int)==0)=true then _ else _) _ _ s
  rw [if_neg (by decide)]
  refine wpAny_bind (zga pl (wpAny_bind (zga pu (wpAny_bind (wpAny_pure ?_)))))
  show wpAny _ _ (match Builtin.Slice.sliceAdjust lo hi 1 (n:Int) with|(lo,hi)=>pure (lo,(1:Int),Builtin.Slice.slicePlaces lo hi 1)) _ _ s
  rw [zkv lo hi n]
  show wpAny _ _ (pure (((sIx n 0 lo:Nat):Int),(1:Int),Builtin.Slice.slicePlaces ((sIx n 0 lo:Nat):Int) ((sIx n n hi:Nat):Int) 1)) _ _ s
  rw [zj7]
  exact wpAny_pure h
theorem zng (xs:Array Value) (i k:Nat):((List.range k).filterMap fun (m:Nat)=>xs[((i:Int)+(m:Int)*1).toNat]?).toArray=((xs.toList.drop i).take k).toArray:=by
  have e:(fun (m:Nat)=>xs[((i:Int)+(m:Int)*1).toNat]?)=fun m=>xs[i+m]?:=by
    funext m
    have:((i:Int)+(m:Int)*1).toNat=i+m:=by omega
    rw [this]
  rw [e]
  have:=pick_run xs i k
  rw [List.filterMap_map] at this
  have e2:((fun x=>xs[x]?) ∘ fun x=>i+x)=fun m=>xs[i+m]?:=rfl
  rw [e2] at this
  rw [this]
theorem zef {t sl:Addr} {items:Array Value} {vl vu:Value} {lo hi:Option Int} {Q:Value→Shared→Prop} (ht:IsTup s.heap t items) (hs:s.heap.IsSliceOf sl vl vu .none) (pl:IsPart vl lo) (pu:IsPart vu hi)
    (hw:¬(sIx items.size 0 lo=0∧sIx items.size items.size hi=items.size))
    (h:Q (.ref s.heap.objs.size) {s with heap:=s.heap.push {cls:=.type "tuple",data:=.seq ((items.toList.drop (sIx items.size 0 lo)).take (sIx items.size items.size hi-sIx items.size 0 lo)).toArray}})
    (hsz:items.size≤sizeLine):wpAny (model prog w) A (getItem (.ref t) (.ref sl)) Q E s:=by
  have htake:sizeOk (.seq ((items.toList.drop (sIx items.size 0 lo)).take (sIx items.size items.size hi-sIx items.size 0 lo)).toArray):=by
    show ((items.toList.drop (sIx items.size 0 lo)).take (sIx items.size items.size hi-sIx items.size 0 lo)).toArray.size≤sizeLine
    rw [List.size_toArray,List.length_take,List.length_drop,Array.length_toList]
    omega
  have hj:sIx items.size items.size hi≤items.size:=zlh _ _ (Nat.le_refl _) hi
  obtain ⟨os,hos,hcs,hds⟩:=id hs
  have hTs:s.TypeIs (.ref sl) "slice":=⟨os,hos,hcs⟩
  unfold getItem
  try with_reducible refine wpAny_holding ?_
  first|refine wpAny_bind (wpAny_pure ?_)|skip
  refine wpAny_bind (wpAny_sequenceKey ht.typeIs (by decide) ?_)
  refine wpAny_bind (wpAny_callSpecial?_slot (name:=Str.ofString "__getitem__") ht.typeIs PyProof.Rows.slot_tuple_getitem
    (wpAny_call_entry PyProof.Rows.slot_tuple_getitem ht.typeIs entry_tuple_getitem ?_ (args_tuple_getitem _ _)))
  show wpAny _ _ (Builtin.Tuple.tupleItemsOf (.ref t) >>= _) _ _ s
  refine wpAny_bind (tupleItemsOf_ ht ?_)
  refine wpAny_bind (wpAny_typeOf hTs ?_)
  rw [if_pos (by decide)]
  refine wpAny_bind (zc9 hs pl pu ?_)
  have hno:¬((((sIx items.size 0 lo:Nat):Int)==0&&(1:Int)==1&&(sIx items.size items.size hi-sIx items.size 0 lo)==items.size)=true):=by
    intro q
    rw [Bool.and_eq_true,Bool.and_eq_true] at q
    have q1:((sIx items.size 0 lo:Nat):Int)=0:=eq_of_beq q.1.1
    have q2:sIx items.size items.size hi-sIx items.size 0 lo=items.size:=eq_of_beq q.2
    exact hw ⟨by omega,by omega⟩
  show wpAny _ _ (if (((sIx items.size 0 lo:Nat):Int)==0&&(1:Int)==1&&(sIx items.size items.size hi-sIx items.size 0 lo)==items.size)=true then _ else _) _ _ s
  rw [if_neg hno,zng]
  first
    | exact wpAny_bind (m:=Builtin.Tuple.tupleExact _) (wpAny_newObj_type (wpAny_pure ⟨_,rfl,wpAny_pure h⟩) htake)
    | exact wpAny_bind (m:=Builtin.Tuple.tupleExact _) (wpAny_newObj_type (wpAny_bind (wpAny_pure (wpAny_pure ⟨_,rfl,wpAny_pure h⟩))) htake)
    | exact wpAny_bind (wpAny_bind (m:=Builtin.Tuple.tupleExact _) (wpAny_newObj_type (wpAny_pure (wpAny_pure ⟨_,rfl,wpAny_pure h⟩)) htake))
    | exact wpAny_bind (wpAny_bind (m:=Builtin.Tuple.tupleExact _) (wpAny_newObj_type (wpAny_pure ⟨_,rfl,wpAny_pure h⟩) htake))
end
end HT
namespace L2
open PySem PySem.Spec PyProof.Rows
noncomputable abbrev TO:=St→Hp→(Option Int→Hp→Prop)→Prop
def PO (X:Cx) (e:Option Expr) (t:TO):Prop :=
  ∀(pins:List (Addr×Obj)) (s:Shared) (σ:St) (H:Hp) (Q:Option Int→Hp→Prop),Inv X pins σ H s→t σ H Q →
    wpAny (model X.prog X.w) X.A (evalPart e X.env) (fun u s'=>∃o H',Inv X pins σ H' s'∧IsPart u o∧Q o H') X.xe s
noncomputable def tNoPart:TO:=fun _ H Q=>Q none H
noncomputable def tPart (t:TE):TO:=fun σ H Q=>t σ H fun x H1=>∃i,x=.int i∧Q (some i) H1
section
variable {X:Cx} {e:Expr} {te:TE} {lo hi:Option Expr} {tl th:TO} {pos p2:Pos}
theorem zpb:PO X none tNoPart:=by
  intro pins s σ H Q I h
  rw [evalPart_none]
  exact wpAny_pure ⟨none,H,I,.none,h⟩
theorem zpa (h:PE X e te):PO X (some e) (tPart te):=by
  intro pins s σ H Q I hw
  rw [evalPart_some]
  refine thn (h pins s σ H _ I hw) fun u s1 ⟨x,H1,I1,r1,q1⟩=>?_
  obtain ⟨i,rfl,q⟩:=q1
  obtain ⟨t,rfl⟩:=r1
  exact ⟨some i,H1,I1,.int i t,q⟩
def SlR (X:Cx) (r:V→Option Int→Option Int→Hp→VK→Prop):Prop :=
  ∀(pins:List (Addr×Obj)) (s:Shared) (σ:St) (H:Hp) (x:V) (v vl vu:Value) (lo hi:Option Int) (sl:Addr) (Q:VK),Inv X pins σ H s→RelV x v→s.heap.IsSliceOf sl vl vu .none→IsPart vl lo→IsPart vu hi→r x lo hi H Q →
    ∃T id,typeLookup (.type T) "__getitem__"=pure (some (.builtin id))∧s.TypeIs v T∧wpAny (model X.prog X.w) X.A (getItem v (.ref sl)) (EP X pins σ Q) X.xe s
def tSl (r:V→Option Int→Option Int→Hp→VK→Prop) (te:TE) (tl th:TO):TE:=fun σ H Q=>te σ H fun x H1=>tl σ H1 fun l H2=>th σ H2 fun u H3=>r x l u H3 Q
theorem znh {r:V→Option Int→Option Int→Hp→VK→Prop} (hr:SlR X r) (he:PE X e te) (hl:PO X lo tl) (hu:PO X hi th):PE X (.Subscript e (.Slice lo hi none p2) pos) (tSl r te tl th):=by
  intro pins s σ H Q I h
  refine Subscript_ (thn (he pins s σ H _ I h) fun v s1 ⟨x,H1,I1,r1,q1⟩=>?_)
  refine wpAny_Slice (thn (hl pins s1 σ H1 _ I1 q1) fun vl s2 ⟨l,H2,I2,pl,q2⟩=>thn (hu pins s2 σ H2 _ I2 q2) fun vu s3 ⟨u,H3,I3,pu,q3⟩=>?_)
  rw [evalPart_none]
  refine wpAny_pure ?_
  have I4:Inv X pins σ H3 {s3 with heap:=s3.heap.push {cls:=.type "slice",data:=.fields #[vl,vu,.none]}}:=I3.kept (t':=s3.toks) fun b ob q=>Heap.get?_push_of_some _ q
  obtain ⟨T,id,hT,ht,hg⟩:=hr pins {s3 with heap:=s3.heap.push {cls:=.type "slice",data:=.fields #[vl,vu,.none]}} σ H3 x v vl vu l u s3.heap.objs.size Q I4 r1 (Heap.IsSliceOf.new ..) pl pu q3
  show wpAny (model X.prog X.w) X.A (subscriptTail e (.Slice lo hi none p2) v (.ref s3.heap.objs.size)) (EP X pins σ Q) X.xe {s3 with heap:=s3.heap.push {cls:=.type "slice",data:=.fields #[vl,vu,.none]}}
  exact tail_any (ops:=[.ref s3.heap.objs.size,v]) ht hT hg (by with_unfolding_all rfl)
noncomputable def cutV (xs:List V) (lo hi:Option Int):List V:=(xs.drop (HT.sIx xs.length 0 lo)).take (HT.sIx xs.length xs.length hi-HT.sIx xs.length 0 lo)
theorem zft (xs:List V) (lo hi:Option Int):(cutV xs lo hi).length≤xs.length:=by
  unfold cutV
  rw [List.length_take,List.length_drop]
  omega
def rSlT (K:PySem.W.Frag):V→Option Int→Option Int→Hp→VK→Prop:=fun x lo hi H Q=>∃a xs,x=.ref a∧SqT K H a xs ∧
  ¬(HT.sIx xs.length 0 lo=0∧HT.sIx xs.length xs.length hi=xs.length)∧∀p,H p=none→Q (.ref p) (upd H p (.tup (cutV xs lo hi)))
theorem sl_tup:SlR X (rSlT X.K):=by
  intro pins s σ H x v vl vu lo hi sl Q I rx hs pl pu h
  obtain ⟨a,xs,rfl,hx,hw,q⟩:=h
  cases rx
  obtain ⟨its,r,ht,hz⟩:=I.tuple hx
  have hlen:its.toArray.size=xs.length:=by rw [List.size_toArray];exact r.length.symm
  refine ⟨"tuple",_,PyProof.Rows.slot_tuple_getitem.lookup,ht.typeIs,?_⟩
  refine HT.zef ht hs pl pu (by rw [hlen];exact hw) ?_ (by rw [hlen];exact hz)
  rw [hlen]
  refine ⟨.ref s.heap.objs.size,_,I.laid (t':=s.toks) (o:=.tup (cutV xs lo hi)) (fun b ob q=>Heap.get?_push_of_some _ q) (Nat.le_refl _) ?_,rfl,q _ (I.hok.fresh (Nat.le_refl _))⟩
  exact ⟨Nat.le_trans (zft xs lo hi) hz,_,(r.drop (HT.sIx xs.length 0 lo)).take (HT.sIx xs.length xs.length hi-HT.sIx xs.length 0 lo),IsTup.new _ _,fun o q=>by rw [Heap.get?_push_size _ rfl] at q;cases q;rfl⟩
def rCatT (K:PySem.W.Frag):R2:=fun x y H Q=>∃a b xs ys,x=.ref a∧y=.ref b∧SqT K H a xs∧SqT K H b ys∧xs≠[]∧xs.length+ys.length≤sizeLine ∧
  (ys=[]→Q (.ref a) H)∧(ys≠[]→∀p,H p=none→Q (.ref p) (upd H p (.tup (xs++ys))))
theorem Vals.nil_iff {xs:List V} {us:List Value} (r:Vals xs us):us=[]↔xs=[]:=by
  cases r with
  | nil=>simp
  | cons _ _=>simp
theorem zid:OpR X (binaryOp .Add) (rCatT X.K):=by
  intro pins s σ H x y v u Q I rx ry h
  obtain ⟨a,b,xs,ys,rfl,rfl,ha,hb,hx,hz,q1,q2⟩:=h
  cases rx
  cases ry
  obtain ⟨its,r1,p1,_⟩:=I.tuple ha
  obtain ⟨its2,r2,p2,_⟩:=I.tuple hb
  refine HT.zp3 p1 p2 (fun z=>hx (r1.nil_iff.mp z)) (fun z=>⟨.ref a,H,I,rfl,q1 (r2.nil_iff.mp z)⟩) (fun z=>?_) (by rw [←r1.length,←r2.length];exact hz)
  refine ⟨.ref s.heap.objs.size,_,I.laid (t':=s.toks) (o:=.tup (xs++ys)) (fun b ob q=>Heap.get?_push_of_some _ q) (Nat.le_refl _) ?_,rfl,q2 (fun w=>z (r2.nil_iff.mpr w)) _ (I.hok.fresh (Nat.le_refl _))⟩
  exact ⟨by rw [List.length_append];exact hz,_,r1.append r2,IsTup.new _ _,fun o q=>by rw [Heap.get?_push_size _ rfl] at q;cases q;rfl⟩
end
end L2
namespace L2
open PySem PySem.Spec PyProof.Rows
noncomputable def ixN (n:Nat) (i:Int):Option Nat:=if 0≤i then (if i<n then some i.toNat else none) else if -(n:Int)≤i then some (i+n).toNat else none
noncomputable def atI {α:Type} (xs:List α) (i:Int):Option α:=(ixN xs.length i).bind fun j=>xs[j]?
theorem zl9 {n:Nat} {i:Int} {j:Nat} (h:ixN n i=some j):seqIndex? i n=some j∧j<n∧-(n:Int)≤i∧i<n:=by
  unfold ixN at h
  by_cases h0:0≤i
  · rw [if_pos h0] at h
    by_cases h1:i<n
    · rw [if_pos h1] at h
      have e:i.toNat=j:=Option.some.inj h
      exact ⟨by rw [seqIndex_of h0 h1,e],by omega,by omega,h1⟩
    · rw [if_neg h1] at h;cases h
  · rw [if_neg h0] at h
    by_cases h1:-(n:Int)≤i
    · rw [if_pos h1] at h
      have e:(i+n).toNat=j:=Option.some.inj h
      exact ⟨by rw [seqIndex_neg (by omega) h1,e],by omega,h1,by omega⟩
    · rw [if_neg h1] at h;cases h
theorem ziy {α:Type} {xs:List α} {i:Int} {v:α} (h:atI xs i=some v):∃j,seqIndex? i xs.length=some j∧xs[j]?=some v∧j<xs.length∧-(xs.length:Int)≤i∧i<xs.length:=by
  unfold atI at h
  cases e:ixN xs.length i with
  | none=>rw [e] at h;cases h
  | some j =>
    rw [e] at h
    obtain ⟨h1,h2,h3,h4⟩:=zl9 e
    exact ⟨j,h1,h,h2,h3,h4⟩
theorem zdg {α:Type} {xs:List α} {j:Nat} {v:α} (h:xs[j]?=some v):atI xs (j:Int)=some v:=by
  have hj:j<xs.length:=(List.getElem?_eq_some_iff.mp h).1
  have e:ixN xs.length (j:Int)=some j:=by
    unfold ixN
    rw [if_pos (by omega),if_pos (by omega)];simp
  unfold atI;rw [e];exact h
def PlainIx (b:Expr):Prop:=∀o i,subscripted b false o i=operate [o,i] (getItem o i)
def IxR (X:Cx) (r:R2):Prop :=
  ∀(value slice:Expr) (pins:List (Addr×Obj)) (s:Shared) (σ:St) (H:Hp) (x y:V) (v u:Value) (Q:VK),Inv X pins σ H s→RelV x v→RelV y u→r x y H Q →
    subscripted slice false v u=operate [v,u] (getItem v u)→wpAny (model X.prog X.w) X.A (subscriptTail value slice v u) (EP X pins σ Q) X.xe s
def MtR (X:Cx) (id:String) (r:V→List V→Hp→VK→Prop):Prop :=
  ∀(pins:List (Addr×Obj)) (s:Shared) (σ:St) (H:Hp) (x:V) (xs:List V) (v:Value) (us:List Value) (Q:VK),Inv X pins σ H s→RelV x v→Vals xs us→r x xs H Q →
    wpAny (model X.prog X.w) X.A (call (.builtin id) (v::us)) (EP X pins σ Q) X.xe s
section
variable {X:Cx} {a b:Expr} {ta tb:TE} {pos:Pos}
theorem pe_ix {r:R2} (hr:IxR X r) (ha:PE X a ta) (hb:PE X b tb) (hs:PlainIx b):PE X (.Subscript a b pos) (tOp r ta tb):=by
  intro pins s σ H Q I h
  exact Subscript_ (binT ha hb I h fun v u s2 x y H2 I2 rx ry q=>hr a b pins s2 σ H2 x y v u Q I2 rx ry q (hs _ _))
def rIxL (K:PySem.W.Frag):R2:=fun x y H Q=>∃p xs i v,x=.ref p∧y=.int i∧SqL K H p xs∧atI xs i=some v∧Q v H
def rIxT (K:PySem.W.Frag):R2:=fun x y H Q=>∃p xs i v,x=.ref p∧y=.int i∧SqT K H p xs∧atI xs i=some v∧Q v H
def rIxS:R2:=fun x y H Q=>∃z i c,x=.str z∧y=.int i∧z.length≤sizeLine∧atI z.cps.toList i=some c∧Q (.str ⟨#[c]⟩) H
theorem zb1:IxR X (rIxL X.K):=by
  intro value slice pins s σ H x y v u Q I rx ry h hs
  obtain ⟨p,xs,i,z,rfl,rfl,hq,he,q⟩:=h
  cases rx
  obtain ⟨t,rfl⟩:=ry
  obtain ⟨its,r,pl,hz⟩:=I.list hq
  obtain ⟨j,h1,h2,h3,h4,h5⟩:=ziy he
  obtain ⟨w,ew,rw'⟩:=r.get h2
  have hl:=r.length
  have hn:=line63
  have fin:EP X pins σ Q w s:=⟨z,H,I,rw',q⟩
  by_cases h0:0≤i
  · have hj:i.toNat=j:=by
      rw [seqIndex_of h0 h5] at h1
      exact Option.some.inj h1
    exact item_listR pl.isList h0 (by omega) (by rw [hj];simpa using ew) fin hs
  · have hj:(i+(its.toArray.size:Int)).toNat=j:=by
      rw [seqIndex_neg (by omega) h4] at h1
      rw [List.size_toArray,←hl]
      exact Option.some.inj h1
    exact subscriptTail_builtinR (x:=w) pl.isList.typeIs slot_list_getitem.lookup
      (wpAny_getItem_list_neg (Q:=fun r s'=>r=w∧EP X pins σ Q r s') pl.isList (by omega) (by rw [List.size_toArray]<;>omega) (by omega) (by rw [hj];simpa using ew) ⟨rfl,fin⟩) hs
theorem zap:IxR X (rIxT X.K):=by
  intro value slice pins s σ H x y v u Q I rx ry h hs
  obtain ⟨p,xs,i,z,rfl,rfl,hq,he,q⟩:=h
  cases rx
  obtain ⟨t,rfl⟩:=ry
  obtain ⟨its,r,pl,hz⟩:=I.tuple hq
  obtain ⟨j,h1,h2,h3,h4,h5⟩:=ziy he
  obtain ⟨w,ew,rw'⟩:=r.get h2
  have hl:=r.length
  have hn:=line63
  have fin:EP X pins σ Q w s:=⟨z,H,I,rw',q⟩
  exact subscriptTail_builtinR (x:=w) pl.typeIs slot_tuple_getitem.lookup
    (getItem_tuple (j:=j) (Q:=fun r s'=>r=w∧EP X pins σ Q r s') pl (by omega) (by omega) (by rw [List.size_toArray,←hl];exact h1) (by simpa using ew) ⟨rfl,fin⟩) hs
theorem zog:IxR X rIxS:=by
  intro value slice pins s σ H x y v u Q I rx ry h hs
  obtain ⟨z,i,c,rfl,rfl,hz,he,q⟩:=h
  obtain ⟨t,rfl⟩:=rx
  obtain ⟨t',rfl⟩:=ry
  obtain ⟨j,h1,h2,h3,h4,h5⟩:=ziy he
  have hl:z.cps.toList.length=z.length:=by simp [Str.length]
  rw [hl] at h1 h4 h5
  have hn:=line63
  exact tail_any (typeIs_str s z t) slot_str_getitem.lookup (getItem_str (c:=c) (by
    have e1:decide (i < -(2^63:Int))=false:=decide_eq_false (by omega)
    have e2:decide (i≥2^63)=false:=decide_eq_false (by omega)
    rw [e1,e2,Bool.or_false]) (by rw [h1];simpa using h2) ⟨.str ⟨#[c]⟩,H,I.tok _,⟨_,rfl⟩,q⟩) hs
theorem zkj (its:List Value) (n j:Nat) (u:Value):Obj.mapSeq (·.setIfInBounds j u) {cls:=.type "list",data:=.seq its.toArray n}={cls:=.type "list",data:=.seq (its.set j u).toArray n}:=by
  simp [Obj.mapSeq]
theorem Inv.lst {pins:List (Addr×Obj)} {σ:St} {H:Hp} {s:Shared} {p:Addr} {xs:List V} (I:Inv X pins σ H s) (h:H p=some (.lst xs)) :
    ∃(its:List Value) (n:Nat),Vals xs its∧s.heap.get? p=some {cls:=.type "list",data:=.seq its.toArray n}∧xs.length≤sizeLine:=by
  obtain ⟨z,its,n,r,e⟩:=I.hok p _ h
  exact ⟨its,n,r,e,z⟩
theorem Inv.lstUpd {pins:List (Addr×Obj)} {σ:St} {H:Hp} {s:Shared} {p:Addr} {xs ys:List V} {its its':List Value} {n n':Nat} {f:Obj→Obj} (I:Inv X pins σ H s) (h:H p=some (.lst xs))
    (ho:s.heap.get? p=some {cls:=.type "list",data:=.seq its.toArray n}) (hf:f {cls:=.type "list",data:=.seq its.toArray n}={cls:=.type "list",data:=.seq its'.toArray n'}) (r:Vals ys its') (hz:ys.length≤sizeLine) (t:Nat) :
    Inv X pins σ (upd H p (.lst ys)) {s with heap:=s.heap.update p f,toks:=t}:=by
  have e:(s.heap.update p f).get? p=some {cls:=.type "list",data:=.seq its'.toArray n'}:=by
    rw [Heap.get?_update_self f ho (by rw [hf]<;>rfl),hf]
  refine I.write (x:=p) (e:=p) (by rw [h];trivial) (.inl rfl) (fun b u hb q=>(Heap.get?_update_other _ _ (Ne.symm hb)).trans q) ⟨_,e⟩ ?_
  exact ⟨hz,its',n',r,e⟩
def rSetL:V→V→V→Hp→(Hp→Prop)→Prop:=fun o i v H Q=>∃p xs k j,o=.ref p∧i=.int k∧H p=some (.lst xs)∧ixN xs.length k=some j∧Q (upd H p (.lst (xs.set j v)))
theorem set_list:PSet X rSetL:=by
  intro pins s σ H o i v ov iv u Q I ro ri rv h
  obtain ⟨p,xs,k,j,rfl,rfl,hp,hj,q⟩:=h
  cases ro
  obtain ⟨t,rfl⟩:=ri
  obtain ⟨its,n,r,ho,hz⟩:=I.lst hp
  obtain ⟨h1,h2,h3,h4⟩:=zl9 hj
  have hl:=r.length
  have hn:=line63
  have I':Inv X pins σ (upd H p (.lst (xs.set j v))) {s with heap:=s.heap.update p (Obj.mapSeq (·.setIfInBounds j u))} :=
    I.lstUpd hp ho (zkj its n j u) (r.set rv j) (by rw [List.length_set];exact hz) s.toks
  by_cases h0:0≤k
  · have hk:k.toNat=j:=by
      rw [seqIndex_of h0 h4] at h1
      exact Option.some.inj h1
    exact PySem.W.ki_setAt ho h0 (by omega) (by rw [List.size_toArray,←hl];exact h4) (by rw [hk];exact ⟨_,I',q⟩)
  · have hk:(k+(its.toArray.size:Int)).toNat=j:=by
      rw [seqIndex_neg (by omega) h3] at h1
      rw [List.size_toArray,←hl]
      exact Option.some.inj h1
    exact PySem.W.ki_setBack ho (by omega) (by rw [List.size_toArray,←hl];exact h3) (by omega) (by rw [hk];exact ⟨_,I',q⟩)
theorem zhc (lo hi:Option Int) (n:Nat):(sliceBounds lo hi none n).1=((HT.sIx n 0 lo:Nat):Int)∧(sliceBounds lo hi none n).2.1=((HT.sIx n n hi:Nat):Int)∧(sliceBounds lo hi none n).2.2=1:=by
  refine ⟨?_,?_,rfl⟩
  · cases lo with
    | none=>simp [sliceBounds,HT.sIx]
    | some i =>
      simp only [sliceBounds,HT.sIx,Option.getD_none,show (1:Int)>0 by decide,if_true]
      by_cases h:i<0
      · simp only [h,if_true]<;>omega
      · simp only [h,if_false]<;>omega
  · cases hi with
    | none=>simp [sliceBounds,HT.sIx]
    | some i =>
      simp only [sliceBounds,HT.sIx,Option.getD_none,show (1:Int)>0 by decide,if_true]
      by_cases h:i<0
      · simp only [h,if_true]<;>omega
      · simp only [h,if_false]<;>omega
theorem zgr (its:List Value) (lo hi:Option Int):slicePick its.toArray lo hi none=((its.drop (HT.sIx its.length 0 lo)).take (HT.sIx its.length its.length hi-HT.sIx its.length 0 lo)).toArray:=by
  obtain ⟨h1,h2,h3⟩:=zhc lo hi its.toArray.size
  unfold slicePick
  rw [h1,h2,h3]
  simp only [sliceRange_one,pick_run,List.size_toArray]<;>rfl
def rSlL (K:PySem.W.Frag):V→Option Int→Option Int→Hp→VK→Prop:=fun x lo hi H Q=>∃a xs,x=.ref a∧SqL K H a xs∧∀p,H p=none→Q (.ref p) (upd H p (.lst (cutV xs lo hi)))
theorem zc0:SlR X (rSlL X.K):=by
  intro pins s σ H x v vl vu lo hi sl Q I rx hs pl pu h
  obtain ⟨a,xs,rfl,hx,q⟩:=h
  cases rx
  obtain ⟨its,r,ht,hz⟩:=I.list hx
  have hlen:=r.length
  refine ⟨"list",_,slot_list_getitem.lookup,ht.isList.typeIs,?_⟩
  refine wpAny_getItem_list_slice ht.isList hs pl pu .none (by simp) ?_ (by rw [List.size_toArray]<;>omega)
  rw [zgr,←hlen]
  refine ⟨.ref s.heap.objs.size,_,I.laid (t':=s.toks) (o:=.lst (cutV xs lo hi)) (fun b ob q=>Heap.get?_push_of_some _ q) (Nat.le_refl _) ?_,rfl,q _ (I.hok.fresh (Nat.le_refl _))⟩
  exact ⟨Nat.le_trans (zft xs lo hi) hz,_,0,(r.drop (HT.sIx xs.length 0 lo)).take (HT.sIx xs.length xs.length hi-HT.sIx xs.length 0 lo),Heap.get?_push_size _ rfl⟩
noncomputable def flatV:V→Bool
  | .non=>true
  | .bl _=>true
  | .int _=>true
  | .str _=>true
  | _=>false
noncomputable def eqV:V→V→Bool
  | .non,.non=>true
  | .bl a,.bl b=>a==b
  | .bl a,.int b=>(if a then 1 else 0)==b
  | .int a,.bl b=>a==(if b then 1 else 0)
  | .int a,.int b=>a==b
  | .str a,.str b=>a==b
  | _,_=>false
theorem eqAt_V {A:Around} {s:Shared} {y x:V} {u v:Value} (ry:RelV y u) (rx:RelV x v) (fy:flatV y=true) (fx:flatV x=true):SeqAt.EqAt A s u v (eqV y x):=by
  cases y with
  | non =>
    cases ry
    cases x with
    | non=>cases rx;exact SeqAt.EqAt.same _
    | bl b=>cases rx;exact SeqAt.EqAt.none_bool b
    | int b=>obtain ⟨t,rfl⟩:=rx;exact SeqAt.EqAt.none_int b t
    | str b=>obtain ⟨t,rfl⟩:=rx;exact SeqAt.EqAt.none_str b t
    | _=>exact absurd (show false=true from fx) Bool.false_ne_true
  | bl a =>
    cases ry
    cases x with
    | non=>cases rx;exact SeqAt.EqAt.bool_none a
    | bl b=>cases rx;exact SeqAt.EqAt.bool_bool a b
    | int b=>obtain ⟨t,rfl⟩:=rx;exact SeqAt.EqAt.bool_int a b t
    | str b=>obtain ⟨t,rfl⟩:=rx;exact SeqAt.EqAt.bool_str a b t
    | _=>exact absurd (show false=true from fx) Bool.false_ne_true
  | int a =>
    obtain ⟨t',rfl⟩:=ry
    cases x with
    | non=>cases rx;exact SeqAt.EqAt.int_none a t'
    | bl b=>cases rx;exact SeqAt.EqAt.int_bool a t' b
    | int b=>obtain ⟨t,rfl⟩:=rx;exact SeqAt.EqAt.int_int a t' b t
    | str b=>obtain ⟨t,rfl⟩:=rx;exact SeqAt.EqAt.int_str a t' b t
    | _=>exact absurd (show false=true from fx) Bool.false_ne_true
  | str a =>
    obtain ⟨t',rfl⟩:=ry
    cases x with
    | non=>cases rx;exact SeqAt.EqAt.str_none a t'
    | bl b=>cases rx;exact SeqAt.EqAt.str_bool a t' b
    | int b=>obtain ⟨t,rfl⟩:=rx;exact SeqAt.EqAt.str_int a t' b t
    | str b=>obtain ⟨t,rfl⟩:=rx;exact SeqAt.EqAt.str_str a t' b t
    | _=>exact absurd (show false=true from fx) Bool.false_ne_true
  | _=>exact absurd (show false=true from fy) Bool.false_ne_true
noncomputable def eqU (x:V) (u:Value):Bool:=match u with
  | .none=>eqV .non x
  | .bool b=>eqV (.bl b) x
  | .int i _=>eqV (.int i) x
  | .str z _=>eqV (.str z) x
  | _=>false
theorem zoj {x y:V} {u:Value} (r:RelV y u) (f:flatV y=true):eqU x u=eqV y x:=by
  cases y with
  | non=>cases r;rfl
  | bl b=>cases r;rfl
  | int i=>obtain ⟨t,rfl⟩:=r;rfl
  | str z=>obtain ⟨t,rfl⟩:=r;rfl
  | _=>exact absurd (show false=true from f) Bool.false_ne_true
theorem zfv {x:V}:∀{xs:List V} {us:List Value},Vals xs us→xs.all flatV=true→us.any (eqU x)=xs.any fun y=>eqV y x
  | _,_,.nil,_=>rfl
  | y::xs,u::us,.cons r t,f=>by
    rw [List.all_cons,Bool.and_eq_true] at f
    rw [List.any_cons,List.any_cons,zoj r f.1,zfv t f.2]
theorem zd1 {A:Around} {s:Shared} {x:V} {v:Value} (rx:RelV x v) (fx:flatV x=true):∀{xs:List V} {us:List Value},Vals xs us→xs.all flatV=true→∀u∈us,SeqAt.EqAt A s u v (eqU x u)
  | _,_,.nil,_=>fun u hu=>by cases hu
  | y::xs,u::us,.cons r t,f=>fun u' hu=>by
    rw [List.all_cons,Bool.and_eq_true] at f
    rcases List.mem_cons.mp hu with rfl|hu
    · rw [zoj r f.1];exact eqAt_V r rx f.1 fx
    · exact zd1 rx fx t f.2 u' hu
noncomputable def inV (x:V) (xs:List V):Bool:=xs.any fun y=>eqV y x
def rIn (K:PySem.W.Frag) (neg:Bool):R2:=fun x y H Q=>∃p xs,y=.ref p∧(SqL K H p xs∨SqT K H p xs)∧flatV x=true∧xs.all flatV=true∧Q (.bl (if neg then !inV x xs else inV x xs)) H
theorem zhi:OpR X (compareOp .In) (rIn X.K false):=by
  intro pins s σ H x y v u Q I rx ry h
  obtain ⟨p,xs,rfl,hq,fx,fs,q⟩:=h
  cases ry
  rcases hq with hq|hq
  · obtain ⟨its,r,pl,hz⟩:=I.list hq
    refine SeqAt.in_listAt (eqU x) pl.isList (fun w hw=>zd1 rx fx r fs w (by simpa using hw)) ⟨.bl _,H,I,rfl,?_⟩
    rw [show its.toArray.any (eqU x)=its.any (eqU x) by simp,zfv r fs]
    exact q
  · obtain ⟨its,r,pl,hz⟩:=I.tuple hq
    refine SeqAt.in_tupleAt (eqU x) pl (fun w hw=>zd1 rx fx r fs w (by simpa using hw)) ⟨.bl _,H,I,rfl,?_⟩
    rw [show its.toArray.any (eqU x)=its.any (eqU x) by simp,zfv r fs]
    exact q
theorem zhh:OpR X (compareOp .NotIn) (rIn X.K true):=by
  intro pins s σ H x y v u Q I rx ry h
  obtain ⟨p,xs,rfl,hq,fx,fs,q⟩:=h
  cases ry
  rcases hq with hq|hq
  · obtain ⟨its,r,pl,hz⟩:=I.list hq
    refine SeqAt.notIn_listAt (eqU x) pl.isList (fun w hw=>zd1 rx fx r fs w (by simpa using hw)) ⟨.bl _,H,I,rfl,?_⟩
    rw [show its.toArray.any (eqU x)=its.any (eqU x) by simp,zfv r fs]
    exact q
  · obtain ⟨its,r,pl,hz⟩:=I.tuple hq
    refine SeqAt.notIn_tupleAt (eqU x) pl (fun w hw=>zd1 rx fx r fs w (by simpa using hw)) ⟨.bl _,H,I,rfl,?_⟩
    rw [show its.toArray.any (eqU x)=its.any (eqU x) by simp,zfv r fs]
    exact q
theorem zak:CallR X (.builtin "len") (fun xs H Q=>∃p ys,xs=[.ref p]∧(SqL X.K H p ys∨SqT X.K H p ys)∧Q (.int ys.length) H):=by
  intro pins s σ H xs us Q I r h
  obtain ⟨p,ys,rfl,hq,q⟩:=h
  obtain ⟨u,rfl,rx⟩:=vals1 r
  cases rx
  have hn:=line63
  rcases hq with hq|hq
  · obtain ⟨its,r',pl,hz⟩:=I.list hq
    have hlen:=r'.length
    exact Calls.call_len_list pl.isList (by simp only [List.size_toArray]<;>omega) ⟨.int ys.length,H,I.tok _,⟨s.toks+1,by rw [List.size_toArray,hlen]⟩,q⟩
  · obtain ⟨its,r',pl,hz⟩:=I.tuple hq
    have hlen:=r'.length
    exact len_tuple pl (by simp only [List.size_toArray]<;>omega) ⟨.int ys.length,H,I.tok _,⟨s.toks+1,by rw [List.size_toArray,hlen]⟩,q⟩
theorem zhy:CallR X (.builtin "len") (fun xs H Q=>∃z,xs=[.str z]∧z.length≤sizeLine∧Q (.int z.length) H):=by
  intro pins s σ H xs us Q I r h
  obtain ⟨z,rfl,hz,q⟩:=h
  obtain ⟨u,rfl,t,rfl⟩:=vals1 r
  have hn:=line63
  exact len_str (by omega) ⟨.int z.length,H,I.tok _,⟨_,rfl⟩,q⟩
theorem zhx:CallR X (.type "list") (fun xs H Q=>∃p ys,xs=[.ref p]∧(SqL X.K H p ys∨SqT X.K H p ys)∧∀l,H l=none→Q (.ref l) (upd H l (.lst ys))):=by
  intro pins s σ H xs us Q I r h
  obtain ⟨p,ys,rfl,hq,q⟩:=h
  obtain ⟨u,rfl,rx⟩:=vals1 r
  cases rx
  have fin:∀(its:List Value),Vals ys its→ys.length≤sizeLine→∀(h':Heap) (c':Nat),(∀b o',s.heap.get? b=some o'→h'.get? b=some o') →
      h'.get? s.heap.objs.size=some {cls:=.type "list",dict:=none,data:=.seq its.toArray c',slots:=#[]}→EP X pins σ Q (.ref s.heap.objs.size) {s with heap:=h'}:=fun its r' hz h' c' kp e =>
    ⟨.ref s.heap.objs.size,_,I.laid (t':=s.toks) kp (Nat.le_refl _) (show ObjOk X.prog X.w _ h' _ (.lst ys) from ⟨hz,its,c',r',e⟩),rfl,q _ (I.hok.fresh (Nat.le_refl _))⟩
  rcases hq with hq|hq
  · obtain ⟨its,r',pl,hz⟩:=I.list hq
    have hlen:=r'.length
    obtain ⟨o,ho,hc,n,hd⟩:=pl.isList
    exact call_list_seq p (.inl rfl) ho hc hd (fun h' c' kp e=>fin its r' hz h' c' kp e) (by simp only [List.size_toArray]<;>omega)
  · obtain ⟨its,r',pl,hz⟩:=I.tuple hq
    have hlen:=r'.length
    obtain ⟨o,ho,hc,n,hd⟩:=pl
    exact call_list_seq p (.inr rfl) ho hc hd (fun h' c' kp e=>fin its r' hz h' c' kp e) (by simp only [List.size_toArray]<;>omega)
theorem zbv:CallR X (.type "tuple") (fun xs H Q=>∃p ys,xs=[.ref p]∧((SqL X.K H p ys∧∀l,H l=none→Q (.ref l) (upd H l (.tup ys)))∨(SqT X.K H p ys∧Q (.ref p) H))):=by
  intro pins s σ H xs us Q I r h
  obtain ⟨p,ys,rfl,h⟩:=h
  obtain ⟨u,rfl,rx⟩:=vals1 r
  cases rx
  rcases h with ⟨hq,q⟩|⟨hq,q⟩
  · obtain ⟨its,r',pl,hz⟩:=I.list hq
    have hlen:=r'.length
    refine call_tuple_list pl.isList (fun h' kp=>?_) (by simp only [List.size_toArray]<;>omega)
    have I1:Inv X pins σ H {s with heap:=h'}:=I.kept (t':=s.toks) kp
    have I2:Inv X pins σ (upd H h'.objs.size (.tup ys)) {s with heap:=h'.push {cls:=.type "tuple",data:=.seq its.toArray}} :=
      I1.laid (t':=s.toks) (fun b o e=>Heap.get?_push_of_some _ e) (Nat.le_refl _) (show ObjOk X.prog X.w _ _ _ (.tup ys) from ⟨hz,its,r',IsTup.new _ _,fun o q=>by rw [Heap.get?_push_size _ rfl] at q;cases q;rfl⟩)
    exact ⟨.ref h'.objs.size,_,I2,rfl,q _ (I1.hok.fresh (Nat.le_refl _))⟩
  · obtain ⟨its,r',pl,hz⟩:=I.tuple hq
    exact call_tuple_same pl ⟨.ref p,H,I,rfl,q⟩
def tyV (K:PySem.W.Frag) (T:String) (x:V) (H:Hp):Prop:=match x with
  | .str _=>T="str"
  | .int _=>T="int"
  | .ref p=>(T="list"∧∃xs,SqL K H p xs)∨(T="tuple"∧∃o,K.lookup p=some o∧o.cls=.type "tuple"∧o.dict=none) ∨
      (T="dict"∧((∃kvs,H p=some (.dK kvs))∨∃kvs,H p=some (.dT kvs)))∨(T="set"∧∃S n,H p=some (.set S n))
  | _=>False
theorem zoe {pins:List (Addr×Obj)} {σ:St} {H:Hp} {s:Shared} {T:String} {x:V} {v:Value} (I:Inv X pins σ H s) (r:RelV x v) (ty:tyV X.K T x H) :
    s.TypeIs v T∧∀a,v=.ref a→∃ob,s.heap.get? a=some ob∧ob.dict=none:=by
  cases x with
  | str z =>
    obtain ⟨t,rfl⟩:=r
    cases (show T="str" from ty)
    exact ⟨typeIs_str s z t,fun _ e=>nomatch e⟩
  | int i =>
    obtain ⟨t,rfl⟩:=r
    cases (show T="int" from ty)
    exact ⟨typeIs_int s i t,fun _ e=>nomatch e⟩
  | ref p =>
    cases r
    rcases ty with ⟨rfl,xs,hq⟩|⟨rfl,o,hk,hc,hd⟩|⟨rfl,hk⟩|⟨rfl,S,n,hk⟩
    · obtain ⟨its,_,pl,_⟩:=I.list hq
      refine ⟨pl.isList.typeIs,fun a e=>?_⟩
      cases e
      obtain ⟨o,n,e,c,hd,_⟩:=pl
      exact ⟨o,e,hd⟩
    · refine ⟨⟨o,I.kIn p o hk,hc⟩,fun a e=>?_⟩
      cases e
      exact ⟨o,I.kIn _ o hk,hd⟩
    · have z:∃o,s.heap.get? p=some o∧o.ExactDict:=by
        rcases hk with ⟨kvs,hk⟩|⟨kvs,hk⟩
        · obtain ⟨_,_,_,_,o,_,_,e,ex,_⟩:=I.hok p _ hk
          exact ⟨o,e,ex⟩
        · obtain ⟨_,_,_,_,o,_,_,e,ex,_⟩:=I.hok p _ hk
          exact ⟨o,e,ex⟩
      obtain ⟨o,e,ex⟩:=z
      refine ⟨⟨o,e,ex.1⟩,fun a e2=>?_⟩
      cases e2
      exact ⟨o,e,ex.2.1⟩
    · obtain ⟨o,_,_,_,e,ex,_⟩:=I.hok p _ hk
      refine ⟨⟨o,e,ex.1⟩,fun a e2=>?_⟩
      cases e2
      exact ⟨o,e,ex.2.1⟩
  | _=>exact False.elim ty
def tBM0 (K:PySem.W.Frag) (T:String) (r:V→List V→Hp→VK→Prop) (to:TE):TE:=fun σ H Q=>to σ H fun x H1=>tyV K T x H1∧r x [] H1 Q
def tBM (K:PySem.W.Frag) (T:String) (r:V→List V→Hp→VK→Prop) (to:TE) (t:TA):TE:=fun σ H Q=>to σ H fun x H1=>tyV K T x H1∧t σ H1 fun xs H2=>r x xs H2 Q
variable {o e:Expr} {es:List Expr} {to:TE} {t:TA} {name:Str} {apos cpos:Pos} {T id:String} {r:V→List V→Hp→VK→Prop}
theorem pe_bm0 (pa:PlainAttrs T) (slot:Slot T name id) (hty:typeOf (.builtin id)=pure (.type "method_descriptor")) (hm:MtR X id r) (ho:PE X o to)
    (hbase:attributeBase o name X.env (eval o X.env)=eval o X.env:=by rfl) (hline:(apos.endLine==cpos.line)=true:=by rfl):PE X (.Call (.Attribute o name apos) [] [] cpos) (tBM0 X.K T r to):=by
  intro pins s σ H Q I h
  refine wpAny_Call_method0_late hbase hline (thn (ho pins s σ H _ I h) fun v s1 ⟨x,H1,I1,r1,ty,q1⟩=>?_)
  obtain ⟨h1,h2⟩:=zoe I1 r1 ty
  exact ⟨T,id,pa,slot,hty,h1,h2,Calls.callWith_builtin rfl (PySem.evalArgs_none (hm pins s1 σ H1 x [] v [] Q I1 r1 .nil q1))⟩
theorem pe_bm (pa:PlainAttrs T) (slot:Slot T name id) (hty:typeOf (.builtin id)=pure (.type "method_descriptor")) (hm:MtR X id r) (ho:PE X o to) (ha:PA X (e::es) t)
    (hbase:attributeBase o name X.env (eval o X.env)=eval o X.env:=by rfl)
    (hfew:((backTo cpos (starEach (e::es) X.env)).all (fun x=>!x.1)&&(backToKw cpos (keywordEach [] X.env)).all (fun x=>x.1.isSome)
      && decide ((e::es).length+([]:List Keyword).length+(if ([]:List Keyword).isEmpty then 0 else 1)<30))=true:=by rfl)
    (hline:(apos.endLine==cpos.line)=true:=by rfl) (hs:starEach (e::es) X.env=(false,eval e X.env)::starEach es X.env:=by rfl) (hplain:(backTo cpos (starEach es X.env)).any (·.1)=false:=by rfl) :
    PE X (.Call (.Attribute o name apos) (e::es) [] cpos) (tBM X.K T r to t):=by
  intro pins s σ H Q I h
  refine wpAny_Call_method_late hbase hfew hline rfl (thn (ho pins s σ H _ I h) fun v s1 ⟨x,H1,I1,r1,ty,q1⟩=>?_)
  obtain ⟨h1,h2⟩:=zoe I1 r1 ty
  refine ⟨T,id,pa,slot,hty,h1,h2,?_⟩
  have hA:=ha cpos pins s1 σ H1 _ I1 q1
  rw [hs] at hA ⊢
  refine Calls.callWith_builtin (by show (false||(backTo cpos (starEach es X.env)).any (·.1))=false;rw [hplain]<;>rfl) (Calls.evalArgs_plain ?_)
  exact thn hA fun us s2 z_16=>by obtain ⟨vs,H2,I2,r2,q2⟩:=z_16;exact hm pins s2 σ H2 x vs v us Q I2 r1 r2 q2
/- xs.append(e),list.index on a module's tuple .. are MtR facts of 06m -/
end
end L2
namespace L2
open PySem PySem.Spec PyProof.Rows
def MtM (X:Cx) (id:String) (r:V→List V→Hp→VK→Prop):Prop :=
  ∀(pins:List (Addr×Obj)) (s:Shared) (σ:St) (H:Hp) (x:V) (xs:List V) (v:Value) (us:List Value) (Q:VK),Inv X pins σ H s→RelV x v→Vals xs us→r x xs H Q →
    wpAny (model X.prog X.w) X.A (call (.builtin id) (v::us)) (EP X pins σ Q) X.xe s
theorem Vals.one:∀{x:V} {us:List Value},Vals [x] us→∃u,us=[u]∧RelV x u
  | _,_,.cons r .nil=>⟨_,rfl,r⟩
theorem Vals.zero:∀{us:List Value},Vals [] us→us=[]
  | _,.nil=>rfl
theorem Vals.dropLast {xs:List V} {us:List Value} (h:Vals xs us):Vals xs.dropLast us.dropLast:=by
  induction h with
  | nil=>exact .nil
  | cons r t ih =>
    cases t with
    | nil=>exact .nil
    | cons q t'=>exact .cons r ih
theorem zkr {α:Type} (l:List α):l.eraseIdx (l.length-1)=l.dropLast:=by
  induction l with
  | nil=>rfl
  | cons a r ih =>
    cases r with
    | nil=>rfl
    | cons b r =>
      have e:(a::b::r).length-1=((b::r).length-1)+1:=by
        have h1:(a::b::r).length=r.length+2:=rfl
        have h2:(b::r).length=r.length+1:=rfl
        omega
      rw [e,List.eraseIdx_cons_succ,ih]
      all_goals rfl
section
variable {X:Cx} {pins:List (Addr×Obj)} {σ:St} {H:Hp} {s:Shared} {l b:Addr} {xs ys zs:List V}
theorem Inv.lset {its its':List Value} {n:Nat} {f:Array Value→Array Value} {t':Nat} (I:Inv X pins σ H s) (hH:H l=some (.lst xs))
    (e:s.heap.get? l=some {cls:=.type "list",data:=.seq its.toArray n}) (hf:f its.toArray=its'.toArray) (hv:Vals ys its') (hz:ys.length≤sizeLine) :
    Inv X pins σ (upd H l (.lst ys)) {s with heap:=s.heap.update l (Obj.mapSeq f),toks:=t'}:=by
  have q:=PySem.IsL.update e f
  rw [hf] at q
  refine I.write (x:=l) (e:=l) (by rw [hH];exact trivial) (.inl rfl) (fun b' u hb hu=>(Heap.get?_update_other s.heap (Obj.mapSeq f) (Ne.symm hb)).trans hu) ⟨_,q⟩ ?_
  exact ⟨hz,its',_,hv,q⟩
theorem Inv.lnew {its:List Value} {t':Nat} (I:Inv X pins σ H s) (hv:Vals ys its) (hz:ys.length≤sizeLine) :
    Inv X pins σ (upd H s.heap.objs.size (.lst ys)) {s with heap:=s.heap.push {cls:=.type "list",data:=.seq its.toArray},toks:=t'} :=
  I.laid (fun _ _ q=>Heap.get?_push_of_some _ q) (Nat.le_refl _) ⟨hz,its,0,hv,Heap.get?_push_size _ rfl⟩
theorem Inv.fresh (I:Inv X pins σ H s):H s.heap.objs.size=none:=I.hok.fresh (Nat.le_refl _)
theorem Inv.lstM (I:Inv X pins σ H s) (hH:H l=some (.lst xs)):xs.length≤sizeLine∧∃(its:List Value) (n:Nat),Vals xs its∧xs.length=its.length∧s.heap.get? l=some {cls:=.type "list",data:=.seq its.toArray n}:=by
  obtain ⟨z,its,n,r,e⟩:=I.hok l _ hH
  exact ⟨z,its,n,r,r.length,e⟩
theorem notLongL {n:Nat} (h:n≤sizeLine):Builtin.List.listTooLong n=false:=by
  unfold Builtin.List.listTooLong
  exact decide_eq_false (by omega)
end
section
variable {X:Cx}
def rAppend:V→List V→Hp→VK→Prop:=fun x vs H Q=>∃l xs y,x=.ref l∧vs=[y]∧H l=some (.lst xs)∧xs.length<sizeLine∧Q .non (upd H l (.lst (xs++[y])))
theorem zam:MtM X "list.append" rAppend:=by
  intro pins s σ H x vs v us Q I rx rv h
  obtain ⟨l,xs,y,rfl,rfl,hH,hz,q⟩:=h
  cases rx
  obtain ⟨u,rfl,ru⟩:=rv.one
  obtain ⟨z,its,n,r,hl,e⟩:=I.lstM hH
  refine call_meets F.slot_list_append ⟨_,e,rfl⟩ F.entry_list_append (F.args_list_append_2 _ _) (PySem.list_append l its.toArray n u (by rw [List.size_toArray];omega)) ⟨e,?_⟩
  refine ⟨.non,_,I.lset (its':=its++[u]) hH e (by simp) (r.append (.cons ru .nil)) ?_,rfl,q⟩
  rw [List.length_append,List.length_singleton]
  omega
def rPop:V→List V→Hp→VK→Prop:=fun x vs H Q=>∃l xs y,x=.ref l∧vs=[]∧H l=some (.lst xs)∧xs[xs.length-1]?=some y∧Q y (upd H l (.lst xs.dropLast))
theorem mt_pop:MtM X "list.pop" rPop:=by
  intro pins s σ H x vs v us Q I rx rv h
  obtain ⟨l,xs,y,rfl,rfl,hH,hy,q⟩:=h
  cases rx
  have hus:=rv.zero
  subst hus
  obtain ⟨z,its,n,r,hl,e⟩:=I.lstM hH
  obtain ⟨u,hu,ru⟩:=r.get hy
  have hy':its.toArray[its.toArray.size-1]?=some u:=by
    show its.toArray[its.length-1]?=some u
    rw [←Array.getElem?_toList,←hl]
    exact hu
  refine call_meets F.slot_list_pop ⟨_,e,rfl⟩ F.entry_list_pop (F.args_list_pop_1 _) (MeetsSeq.list_pop_last l its.toArray n u hy' (by rw [List.size_toArray];omega)) ⟨e,?_⟩
  refine ⟨y,_,I.lset (its':=its.dropLast) hH e ?_ r.dropLast ?_,ru,q⟩
  · show its.toArray.eraseIdxIfInBounds (its.toArray.size-1)=its.dropLast.toArray
    rw [List.size_toArray,List.eraseIdxIfInBounds_toArray,zkr]
  · rw [List.length_dropLast]
    omega
def rCat:R2:=fun x y H Q=>∃l b xs zs,x=.ref l∧y=.ref b∧H l=some (.lst xs)∧H b=some (.lst zs)∧xs.length+zs.length≤sizeLine∧∀p,H p=none→Q (.ref p) (upd H p (.lst (xs++zs)))
theorem zlw:OpR X (binaryOp .Add) rCat:=by
  intro pins s σ H x y v u Q I rx ry h
  obtain ⟨l,b,xs,zs,rfl,rfl,hH,hB,hz,q⟩:=h
  cases rx
  cases ry
  obtain ⟨z,its,n,r,hl,e⟩:=I.lstM hH
  obtain ⟨z2,its2,n2,r2,hl2,e2⟩:=I.lstM hB
  refine PySem.P.add_list e e2 ?_ (by rw [List.size_toArray,List.size_toArray];omega)
  have ea:its.toArray++its2.toArray=(its++its2).toArray:=by simp
  rw [ea]
  exact ⟨.ref _,_,I.lnew (t':=s.toks) (r.append r2) (by rw [List.length_append];omega),rfl,q _ I.fresh⟩
end
end L2
namespace Att
open PySem PySem.W PySem.Calls PyProof.Rows
theorem zfo {P:Params} {h:Heap}:∀(ns:List Int) (vs:List Value),WellAll P h vs (ns.map WData.int)→IntsAre vs ns:=by
  intro ns
  induction ns with
  | nil =>
    intro vs w
    rw [List.map_nil] at w
    cases w
    exact .nil
  | cons n ns ih =>
    intro vs w
    rw [List.map_cons] at w
    cases w with
    | cons a b =>
      cases a
      exact .cons _ _ (ih _ b)
theorem zlc {l:OpenLaw} {n:Nat} (hn:l.most=some n) {P:Params} {h:Heap} {args:List WData} {vals:List Value}
    (hpre:l.row.toRowW.claim.pre args=true) (hwl:WellAll P h vals args) :
    ∃a vs ns,vals=[Value.ref a]∧args=[WData.list (ns.map WData.int)]∧h.get? a=some {cls:=.type "list",data:=.seq vs.toArray}∧IntsAre vs ns∧ns.length≤n:=by
  have hsh:WShape.hasAll [] args [.list .int]=true:=(pre_splitW hpre).1
  have hc:l.pre.holds [] {args:=args}=true:=(pre_splitW hpre).2
  obtain ⟨d,r,rfl,h1,h2⟩:=hasAllW_cons hsh
  obtain rfl:=hasAllW_nil h2
  obtain ⟨xs,rfl,h3⟩:=hasW_list h1
  obtain ⟨ns,rfl⟩:=items_int h3
  have hlen:ns.length≤n:=by
    unfold OpenLaw.pre at hc
    have h4:(WTm.not (.lt (.lit (.int (n:Int))) (.len (.arg 0)))).holds [] {args:=[.list (ns.map .int)]}=true:=by
      have h4:=(holds_andW hc).1
      rw [hn] at h4
      exact h4
    have h5:=condW_of h4 (w_not (w_lt w_lit (w_len_list (w_arg rfl))))
    rw [List.length_map] at h5
    refine Nat.le_of_not_lt fun q=>?_
    have q':(n:Int)<((ns.length:Nat):Int):=by omega
    first
      | (rw [decide_eq_true q'] at h5;exact absurd h5 (by decide))
      | (simp at h5;omega)
  cases hwl with
  | cons w1 w2 =>
    cases w2
    cases w1 with
    | list ho hall=>exact ⟨_,_,ns,rfl,rfl,ho,zfo ns _ hall,hlen⟩
theorem zln (l:OpenLaw) (args:List WData):l.row.toRowW.claim.post args (.bool true) args=true :=
  postW_of (r:=l.row.toRowW) (X:=(true==true))
    (show WShape.has [] (.bool true) .bool=true by first|rfl|decide|simp [WShape.has,WShape.arms,WShape.armsAll])
    (show (WTm.eq .res (.lit (.bool true))).value [] {args:=args,res:=some (.bool true),after:=args}=some (.bool (true==true)) from w_eq_bool (w_res rfl) w_lit) rfl
theorem ziw {l:OpenLaw} {n:Nat} {q:Program} {loose:List Str} {XP:(Str→Option Value)→Heap→Prop} {YP:World→Heap→Prop} {d:DefRec}
    (hn:l.most=some n) (hdf:d.params.defaults=[])
    (call:∀(w:World) (s₀ s₁:Shared) (mg mb:Str→Option Value) (fa:Addr) (o:Obj) (pm cd doc:Value) (a:Addr) (vs:List Value) (ns:List Int),
      Ground q loose [] XP w s₀ mg mb s₁.heap→YP w s₁.heap →
      s₁.heap.get? fa=some o→o.data=.func (docDef d.name d.params d.body d.scope pm cd doc)→s₁.heap.CodeRec cd d.name→mg d.name=some (.ref fa) →
      s₁.heap.get? a=some {cls:=.type "list",data:=.seq vs.toArray}→IntsAre vs ns→ns.length≤n→s₁.gens=#[] →
      codeAny (model l.prog w) callerA (.call (.ref fa) ⟨[.ref a],[]⟩) (fun r s'=>r=.ok (.ret (.bool true))∧OldK s₁.heap s'.heap∧s'.os=s₁.os∧AllBare s'.gens) s₁) :
    WalkO q loose XP YP l.row.toRowW d [] (fun f vs=>PySem.call f vs):=by
  intro w s₀ s₁ mg mb G Y fa o pm cd doc dV kV ho hd hcd hD hmg hg args vals as hpre hlay hrd hwl hlo
  obtain rfl:dV=.none:=Dflts.none hD hdf
  obtain rfl:kV=.none:=Dflts.noKw hD
  obtain ⟨a,vs,ns,rfl,rfl,hobj,hints,hlen⟩:=zlc hn hpre hwl
  refine enter_call (codeAny_mono (call w s₀ s₁ mg mb fa o pm cd doc a vs ns G Y ho (fd_plain hd) hcd hmg hobj hints hlen hg) fun r s' hq=>?_)
  obtain ⟨rfl,h2,h3,h4⟩:=hq
  exact ⟨.inl ⟨.bool true,.bool true,[],rfl,fun _=>rfl,.bool true,zln l _,fun _=>⟨List.Pairwise.nil,fun _ hm=>(nomatch hm)⟩⟩,h2,h3,h4⟩
end Att
namespace L2
open PySem PySem.Spec PyProof.Rows
theorem zdv:∀{vs:List Value} {ns:List Int},IntsAre vs ns→Vals (ns.map V.int) vs
  | _,_,.nil=>.nil
  | _,_,.cons n t h=>.cons ⟨t,rfl⟩ (zdv h)
def Only (H:Hp):Prop:=∀b,H b=none∨∃o xs,H b=some (.frz o (.lst xs))
theorem znx {P:Program} {w:World} {K:PySem.W.Frag} {mg mb:Str→Option Value} {CX:CXT} {k:Nat} {fa a:Addr} {fd:FuncData} {x:Str} {sp:Sp} {s₁:Shared} {vs:List Value} {ns:List Int}
    (KX:K.In s₁.heap) (hns:s₁.heap.Ns mainGlobals mg) (hb:s₁.heap.Ns builtinsNs mb) (hbb:∀x:Str,x≠"__name__"→mb x=bootBuiltins x) (hlim:s₁.heap.NoLimit) (hg:s₁.gens=#[])
    (ha:s₁.heap.get? a=some {cls:=.type "list",data:=.seq vs.toArray}) (hi:IntsAre vs ns) (hl:ns.length≤sizeLine) (hr:Room k callerA)
    (F:∀base:Heap,K.In base→base.Ns mainGlobals mg→FnOk P w K mg base CX k fa fd [x] sp) (hbind:∀(s:Shared) (u:Value),BindsTo s fd ⟨[u],[]⟩ [(x,u)])
    (hsp:∀H:Hp,Only H→SqL K H a (ns.map V.int)→sp [.ref a] H (fun v _=>v=.bl true) fun _ _ _=>False)
    (hCX:∀H e s',CX [] H s₁ (fun _ _ _=>False) e s'→False) :
    codeAny (model P w) callerA (.call (.ref fa) ⟨[.ref a],[]⟩) (fun r s'=>r=.ok (.ret (.bool true))∧OldK s₁.heap s'.heap∧s'.os=s₁.os∧AllBare s'.gens) s₁:=by
  have rv:=zdv hi
  have lenV:=hi.length
  have core:∀H:Hp,Only H→SqL K H a (ns.map V.int)→HOk P w H s₁.heap→(∀b,H b≠none→b=a)→(H a≠none→K.lookup a=none) →
      codeAny (model P w) callerA (.call (.ref fa) ⟨[.ref a],[]⟩) (fun r s'=>r=.ok (.ret (.bool true))∧OldK s₁.heap s'.heap∧s'.os=s₁.os∧AllBare s'.gens) s₁:=by
    intro H hO hS hok hA hK
    have base_of:∀{b:Addr} {o:Obj},s₁.heap.get? b=some o→H b=none→(hidT s₁.heap H).get? b=some o:=fun e n=>zn0 e n
    have noA:∀{b:Addr} {o:Obj} {es:Array DictEntry} {ep:Nat},s₁.heap.get? b=some o→o.data=.dict es ep→H b=none:=fun {b o es ep} e d=>by
      cases q:H b with
      | none=>rfl
      | some u =>
        have e':b=a:=hA b (by rw [q];simp)
        subst e'
        rw [ha] at e;cases e
        have d':Data.seq vs.toArray _=Data.dict es ep:=d
        cases d'
    have nsK:∀{b:Addr} {m:Str→Option Value},s₁.heap.Ns b m→(hidT s₁.heap H).Ns b m:=fun {b m} z_19=>by obtain ⟨o,es,ep,e,d,r⟩:=z_19;exact ⟨o,es,ep,base_of e (noA e d),d,r⟩
    have hKb:K.In (hidT s₁.heap H):=fun b o e=>base_of (KX b o e) (by
      cases q:H b with
      | none=>rfl
      | some u =>
        have e':b=a:=hA b (by rw [q];simp)
        subst e'
        rw [hK (by rw [q];simp)] at e;cases e)
    have hM:Mod K mg (hidT s₁.heap H):=⟨hKb,nsK hns,⟨mb,nsK hb,hbb⟩,let ⟨mc,h1,h2⟩:=hlim;⟨mc,nsK h1,h2⟩⟩
    have e0:Env0 P w K mg (hidT s₁.heap H) callerA [] s₁ H:=⟨rfl,hM,fun b o e=>zps e,Nat.le_of_eq (zme _ _),trivial,fun b hb=>absurd (show b∈([]:List Addr) from hb) (by simp),hok,.of_eq hg⟩
    refine codeAny_mono ((F _ hKb (nsK hns)).run callerA [] s₁ H ⟨[.ref a],[]⟩ [.ref a] [.ref a] _ _ hr e0 (hbind s₁ (.ref a)) (.cons rfl .nil) (hsp H hO hS)) fun r s' h=>?_
    cases r with
    | error e=>exact (hCX H e s' h).elim
    | ok fl =>
      cases fl with
      | next=>exact False.elim h
      | brk=>exact False.elim h
      | cont=>exact False.elim h
      | ret u =>
        obtain ⟨v,H',os,bare,un,hok',r',q⟩:=h
        have q':v=.bl true:=q
        subst q'
        obtain rfl:u=Value.bool true:=r'
        refine ⟨rfl,OldK.of_keep fun b o e=>?_,os,bare⟩
        cases q:H b with
        | none=>exact un.keep b o e q (by intro z;exact absurd (show b∈([]:List Addr) from z) (by simp)) (by simp)
        | some u =>
          rcases hO b with z|⟨ob,xs,z⟩
          · rw [q] at z;cases z
          · have z2:=un.frzs b ob _ z
            obtain ⟨e1,_⟩:=hok b _ z
            obtain ⟨e2,_⟩:=hok' b _ z2
            rw [e] at e1;cases e1
            exact e2
  cases hk:K.lookup a with
  | some o =>
    have e:=KX a o hk
    rw [ha] at e
    cases e
    refine core (fun _=>none) (fun _=>.inl rfl) (.inr ⟨_,vs.toArray,_,hk,rfl,rfl,rfl,by rw [List.size_toArray,lenV];exact hl,by simpa using rv⟩) (fun b u z=>by have z':(none:Option HO)=some u:=z;cases z') (fun b z=>absurd rfl z) fun z=>absurd rfl z
  | none =>
    refine core (fun b=>if b=a then some (.frz {cls:=.type "list",data:=.seq vs.toArray} (.lst (ns.map V.int))) else none) (fun b=>?_) (.inl (.inr ⟨{cls:=.type "list",data:=.seq vs.toArray},if_pos rfl⟩)) (fun b u z=>?_) (fun b z=>?_) fun _=>hk
    · by_cases hb:b=a
      · exact .inr ⟨_,_,if_pos hb⟩
      · exact .inl (if_neg hb)
    · by_cases hb:b=a
      · have z':=(if_pos hb).symm.trans z
        cases z'
        subst hb
        exact ⟨ha,by rw [List.length_map];exact hl,vs,_,rv,ha⟩
      · have z':=(if_neg hb).symm.trans z
        cases z'
    · by_cases hb:b=a
      · exact hb
      · exact absurd (if_neg hb) z
end L2
namespace L2
open PySem PySem.Spec PyProof.Rows
theorem zkz {l:PySem.W.OpenLaw} {n k:Nat} {q:Program} {loose:List Str} {XP:(Str→Option Value)→Heap→Prop} {YP:World→Heap→Prop} {d:DefRec} {K:Params→PySem.W.Frag} {CX:World→CXT} {sp:World→Sp} {x:Str}
    (hn:l.most=some n) (hn2:n≤sizeLine) (hdf:d.params.defaults=[]) (hr:Room k callerA)
    (hY:∀(w:World) (h:Heap),YP w h→(K w.params).In h)
    (F:∀(w:World) (mg:Str→Option Value) (fa:Addr) (h:Heap),(K w.params).In h→h.Ns mainGlobals mg→mg d.name=some (.ref fa) →
      ∃fd:FuncData,(∀(s:Shared) (u:Value),BindsTo s fd ⟨[u],[]⟩ [(x,u)]) ∧
        ∀base:Heap,(K w.params).In base→base.Ns mainGlobals mg→FnOk l.prog w (K w.params) mg base (CX w) k fa fd [x] (sp w))
    (hsp:∀(w:World) (H:Hp) (a:Addr) (ns:List Int),ns.length≤n→Only H→SqL (K w.params) H a (ns.map V.int)→sp w [.ref a] H (fun v _=>v=.bl true) fun _ _ _=>False)
    (hCX:∀(w:World) (H:Hp) (s:Shared) (e:Value) (s':Shared),CX w [] H s (fun _ _ _=>False) e s'→False) :
    PySem.W.WalkO q loose XP YP l.row.toRowW d [] (fun f vs=>PySem.call f vs):=by
  refine Att.ziw hn hdf fun w s₀ s₁ mg mb fa o pm cd doc a vs ns G Y ho hd hcd hmg hobj hints hlen hg=>?_
  have KX:=hY w _ Y
  obtain ⟨fd,hb,hF⟩:=F w mg fa _ KX G.T.g hmg
  exact znx KX G.T.g G.T.b G.T.builtins G.T.nolimit hg hobj hints (Nat.le_trans hlen hn2) hr hF hb (fun H hO hS=>hsp w H a ns hlen hO hS) fun H e s'=>hCX w H s₁ e s'
end L2
/- THE LAST THEOREM (shape;LID,My.* are yours):
   My.Adr: a structure of the addresses that your layer names (classes,functions);My.Txt K t: a structure (Prop) of the equations over K;
   My.txt_mk:{K} {implicit addresses ..} (e1:nsIn K mainGlobals "law"=some (some (.ref f))) (e2:K.lookup f=some ⟨oc,od,.func (fnOf "law" "law" params body scope dV kV doc pm an cdv ct),sl⟩) (e3:codeIn K cdv "law"=true) ..:∃t,My.Txt K t
set_option maxRecDepth 100000 in
set_option maxHeartbeats 0 in
theorem PySem.Challenge.cw_LID_holds:PySem.Challenge.rw_LID.Holds:=by
  w_on;o_law;k_head;(case hw=>w_witness2)
  k_fill
  refine L2.zkz (l:=PySem.Challenge.rw_LID) (n:=63) (k:=40) (x:="script") (CX:=fun w=>..) (sp:=fun _=>My.sp_law) rfl (by decide) rfl ⟨rfl,by decide,by decide⟩ (fun w h Y=>PySem.W.kIn_of Y) ?F ?S ?C
  case F =>
    intro w mg fa h KX G hmg
    have T:∃t,My.Txt (L2.KOf KX) t:=by
      dsimp only [L2.KOf]                          -- K must stand as «<heap const> w.params» for k_is
      refine' My.txt_mk ?e1 ?e2 ?e3 ..
      (case e1=>PySem.W.k_is)                    -- in the order: a name -> its address -> its object -> its parts
      (case e2=>PySem.W.k_is)
      ..
    obtain ⟨t,T⟩:=T
    have e0:=hmg.symm.trans (PySem.W.mg_of KX G T.law)
    cases e0                                       -- fa is the law's own address
    exact ⟨_,fun s u=>.of_eq rfl,fun base kb nb=>My.zl4 T kb nb⟩     -- if «.of_eq rfl» comes too early: refine' ⟨_,?b,fun base kb nb=>My.zl4 T kb nb⟩;exact fun s u=>.of_eq rfl
  case S=>exact fun w H a ns hl hO hS=>..
  case C=>exact ..
(the tactic k_is has no namespace: write k_is) -/
namespace L2
open PySem PySem.Spec PyProof.Rows
noncomputable def inClass (s:Stmt) (j:Nat):Stmt:=match s with
  | .ClassDef _ _ _ body _ _ _ _ _ _ _=>body.getD j (.Pass ⟨0,0,0,0⟩)
  | _=>.Pass ⟨0,0,0,0⟩
noncomputable def defArgs (s:Stmt):Arguments:=match s with
  | .FunctionDef _ a _ _ _ _ _ _ _ _=>a
  | _=>{posonlyargs:=[],args:=[],vararg:=none,kwonlyargs:=[],kw_defaults:=[],kwarg:=none,defaults:=[]}
noncomputable def defBody (s:Stmt):List Stmt:=match s with
  | .FunctionDef _ _ b _ _ _ _ _ _ _=>b
  | _=>[]
noncomputable def defScope (s:Stmt):Scope:=match s with
  | .FunctionDef _ _ _ _ _ _ sc _ _ _=>sc
  | _=>{kind:=.function,names:=[],isGenerator:=false,isCoroutine:=false}
abbrev E0:XK:=fun _ _ _=>False
structure Fun (K:PySem.W.Frag) (x qual:Str) (st:Stmt) (f:Addr) (fd:FuncData):Prop where
  ex:∃(oc:Value) (od:Option Addr) (kV doc pm:Value) (an:Option Addr) (cdv ct:Value) (osl:Array (Option Value)),
    fd=PySem.W.fnOf x qual (defArgs st) (defBody st) (defScope st) .none kV doc pm an cdv ct∧K.lookup f=some ⟨oc,od,.func fd,osl⟩∧PySem.W.codeIn K cdv qual=true
  kp:PySem.W.keepIn K (.ref f)=true
section
variable {P:Program} {w:World} {K:PySem.W.Frag} {mg:Str→Option Value} {base:Heap}
theorem Fun.binds {x qual:Str} {st:Stmt} {f:Addr} {fd:FuncData} {ps:List Str} (F:Fun K x qual st f fd)
    (h:∀(kV doc pm:Value) (an:Option Addr) (cdv ct:Value) (us:List Value),us.length=ps.length→bindArgs (PySem.W.fnOf x qual (defArgs st) (defBody st) (defScope st) .none kV doc pm an cdv ct) ⟨us,[]⟩=pure (ps.zip us)):Binds K fd ps []:=by
  obtain ⟨oc,od,kV,doc,pm,an,cdv,ct,osl,rfl,lk,hcd⟩:=F.ex
  exact .all (h kV doc pm an cdv ct)
theorem zmh {x qual:Str} {st:Stmt} {f:Addr} {oc:Value} {od an:Option Addr} {osl:Array (Option Value)} {kV doc pm cdv ct:Value} (l:K.lookup f=some ⟨oc,od,.func (PySem.W.fnOf x qual (defArgs st) (defBody st) (defScope st) .none kV doc pm an cdv ct),osl⟩)
    (c:PySem.W.codeIn K cdv qual=true) (k:PySem.W.keepIn K (.ref f)=true):Fun K x qual st f (PySem.W.fnOf x qual (defArgs st) (defBody st) (defScope st) .none kV doc pm an cdv ct):=⟨⟨oc,od,kV,doc,pm,an,cdv,ct,osl,rfl,l,c⟩,k⟩
end
theorem zkp {A:Around} {k:Nat} (hr:Room k A):A.units+1<cLine:=Nat.lt_of_le_of_lt (Nat.add_le_add_left (by decide:1≤64) _) hr.units
theorem iteF {A B:Prop} (h:B):if false=true then A else B:=by
  rw [if_neg Bool.false_ne_true]
  exact h
theorem iteT {A B:Prop} (h:A):if true=true then A else B:=by
  rw [if_pos rfl]
  exact h
theorem iteNS {c A B:Prop} [Decidable c] (hc:c) (h:B):if (!decide c)=true then A else B:=by
  rw [decide_eq_true hc]
  exact iteF h
end L2
namespace L2
open PySem PySem.Spec PyProof.Rows
section
variable {κ:Type} [DecidableEq κ]
noncomputable def valV (kvs:List (κ×V)) (k:κ):Option V:=(kvs.find? fun kv=>decide (kv.1=k)).map (·.2)
noncomputable def putK (kvs:List (κ×V)) (k:κ) (v:V):List (κ×V) :=
  if (kvs.any fun kv=>decide (kv.1=k))=true then kvs.map (fun kv=>if kv.1=k then (kv.1,v) else kv) else kvs++[(k,v)]
theorem zew {p:κ×V} {r:List (κ×V)} {k:κ} (e:p.1=k):valV (p::r) k=some p.2:=by simp [valV,List.find?_cons,e]
theorem zex {p:κ×V} {r:List (κ×V)} {k:κ} (e:¬p.1=k):valV (p::r) k=valV r k:=by simp [valV,List.find?_cons,e]
theorem zi3 (k:κ):∀kvs:List (κ×V),(kvs.any fun kv=>decide (kv.1=k))=(valV kvs k).isSome
  | []=>rfl
  | p::r=>by
    rw [List.any_cons]
    by_cases e:p.1=k
    · simp only [zew e,decide_eq_true e,Bool.true_or,Option.isSome_some]
    · rw [zex e,decide_eq_false e,Bool.false_or];exact zi3 k r
theorem zdn (kvs:List (κ×V)) (k:κ) (v:V):(putK kvs k v).length≤kvs.length+1:=by
  unfold putK
  split
  · rw [List.length_map];omega
  · rw [List.length_append,List.length_cons,List.length_nil];omega
theorem RelO.isSome_eq {o:Option V} {u:Option Value} (r:RelO o u):o.isSome=u.isSome:=by
  cases o with
  | none=>cases u with
    | none=>rfl
    | some _=>exact (show False from r).elim
  | some _=>cases u with
    | none=>exact (show False from r).elim
    | some _=>rfl
theorem KV.val {kvs:List (κ×V)} {vs:List (κ×Value)} (r:KV kvs vs) (k:κ):RelO (valV kvs k) (valueAt vs k):=by
  unfold KV at r
  induction r with
  | nil=>exact True.intro
  | @cons p q ps qs h t ih =>
    obtain ⟨h1,h2⟩:=h
    by_cases e:p.1=k
    · have e':q.1=k:=h1.symm.trans e
      have b:valueAt (q::qs) k=some q.2:=by simp [valueAt,List.find?_cons,e']
      rw [zew e,b];exact h2
    · have e':¬q.1=k:=fun z=>e (h1.trans z)
      have b:valueAt (q::qs) k=valueAt qs k:=by simp [valueAt,List.find?_cons,e']
      rw [zex e,b];exact ih
theorem KV.any {kvs:List (κ×V)} {vs:List (κ×Value)} (r:KV kvs vs) (k:κ):(kvs.any fun kv=>decide (kv.1=k))=vs.any fun kv=>decide (kv.1=k):=by
  unfold KV at r
  induction r with
  | nil=>rfl
  | cons h t ih=>rw [List.any_cons,List.any_cons,ih,h.1]
theorem KV.repl {kvs:List (κ×V)} {vs:List (κ×Value)} (r:KV kvs vs) (k:κ) {y:V} {u:Value} (ry:RelV y u) :
    KV (kvs.map fun kv=>if kv.1=k then (kv.1,y) else kv) (vs.map fun kv=>if kv.1=k then (kv.1,u) else kv):=by
  unfold KV at r ⊢
  induction r with
  | nil=>exact .nil
  | @cons p q ps qs h t ih =>
    rw [List.map_cons,List.map_cons]
    refine .cons ?_ ih
    obtain ⟨h1,h2⟩:=h
    by_cases e:p.1=k
    · rw [if_pos e,if_pos (h1.symm.trans e)];exact ⟨h1,ry⟩
    · rw [if_neg e,if_neg (fun z=>e (h1.trans z))];exact ⟨h1,h2⟩
theorem KV.put {kvs:List (κ×V)} {vs:List (κ×Value)} (r:KV kvs vs) (k:κ) {y:V} {u:Value} (ry:RelV y u):KV (putK kvs k y) (stored vs k u):=by
  unfold putK stored
  rw [r.any k]
  by_cases e:(vs.any fun kv=>decide (kv.1=k))=true
  · rw [if_pos e,if_pos e];exact r.repl k ry
  · rw [if_neg e,if_neg e];exact Paired.snoc r ⟨rfl,ry⟩
theorem KV.length {kvs:List (κ×V)} {vs:List (κ×Value)} (r:KV kvs vs):kvs.length=vs.length:=Paired.length r
end
theorem zl8 {P:Program} {w:World} {k:Key} {u:Value} (r:RelV (kV k) u):(mixKind P w).is k u=true:=by
  cases k with
  | inl i=>obtain ⟨t,e⟩:=(show ∃t,u=Value.int i t from r);subst e;exact zik P w i t
  | inr x=>obtain ⟨t,e⟩:=(show ∃t,u=Value.str x t from r);subst e;exact zij P w x t
theorem items_are {P:Program} {w:World}:∀{ks:List Key} {us:List Value},Vals (ks.map kV) us→ItemsAre (mixKind P w) ks us
  | [],_,r=>by rw [List.map_nil] at r;cases r;exact .nil
  | k::ks,_,r=>by
    rw [List.map_cons] at r
    cases r with
    | cons h t=>exact .cons (zl8 h) (items_are t)
abbrev KT (H:Hp):List (List Key×V)→List (List Key×Addr×Value)→Prop:=Paired fun p q=>p.1=q.1∧H q.2.1=some (.tup (p.1.map kV))∧RelV p.2 q.2.2
theorem KT.val {H:Hp} {kvs:List (List Key×V)} {xs:List (List Key×Addr×Value)} (r:KT H kvs xs) (k:List Key):RelO (valV kvs k) ((atKey xs k).map (·.2)):=by
  induction r with
  | nil=>exact True.intro
  | @cons p q ps qs h t ih =>
    obtain ⟨h1,_,h2⟩:=h
    by_cases e:p.1=k
    · have e':q.1=k:=h1.symm.trans e
      have b:atKey (q::qs) k=some q.2:=by simp [atKey,List.find?_cons,e']
      rw [zew e,b];exact h2
    · have e':¬q.1=k:=fun z=>e (h1.trans z)
      have b:atKey (q::qs) k=atKey qs k:=by simp [atKey,List.find?_cons,e']
      rw [zex e,b];exact ih
theorem KT.repl {H:Hp} {kvs:List (List Key×V)} {xs:List (List Key×Addr×Value)} (r:KT H kvs xs) (k:List Key) {y:V} {u:Value} (ry:RelV y u) :
    KT H (kvs.map fun kv=>if kv.1=k then (kv.1,y) else kv) (xs.map (putAt k u)):=by
  induction r with
  | nil=>exact .nil
  | @cons p q ps qs h t ih =>
    rw [List.map_cons,List.map_cons]
    refine .cons ?_ ih
    obtain ⟨h1,h2,h3⟩:=h
    unfold putAt
    by_cases e:p.1=k
    · rw [if_pos e,if_pos (h1.symm.trans e)];exact ⟨h1,h2,ry⟩
    · rw [if_neg e,if_neg (fun z=>e (h1.trans z))];exact ⟨h1,h2,h3⟩
theorem KT.put {H:Hp} {kvs:List (List Key×V)} {xs:List (List Key×Addr×Value)} (r:KT H kvs xs) (k:List Key) {b:Addr} {y:V} {u:Value} (hb:H b=some (.tup (k.map kV))) (ry:RelV y u) :
    KT H (putK kvs k y) (storedH xs k b u):=by
  have e:(kvs.any fun kv=>decide (kv.1=k))=(atKey xs k).isSome:=by
    rw [zi3,(r.val k).isSome_eq,Option.isSome_map]
  unfold putK storedH
  rw [e]
  by_cases q:(atKey xs k).isSome=true
  · rw [if_pos q,if_pos q];exact r.repl k ry
  · rw [if_neg q,if_neg q];exact Paired.snoc r ⟨rfl,hb,ry⟩
theorem KT.keeps {H H':Hp} {kvs:List (List Key×V)} {xs:List (List Key×Addr×Value)} (r:KT H kvs xs) (ht:∀b ys,H b=some (.tup ys)→H' b=some (.tup ys)):KT H' kvs xs :=
  Paired.mapP r fun _ _ z=>⟨z.1,ht _ _ z.2.1,z.2.2⟩
section
variable {P:Program} {w:World} {H:Hp} {h:Heap} {a:Addr}
theorem rd_of {u:HO} (ok:HOk P w H h) (e:Rd H a u):ObjOk P w H h a u:=e.ok ok
theorem zn5 {kvs:List (Key×V)} (ok:HOk P w H h) (e:Rd H a (.dK kvs)):kvs.length≤sizeLine∧(a==sysModules)=false∧∃vs,KV kvs vs∧h.DictOf (mixKind P w) a vs :=
  show ObjOk P w H h a (.dK kvs) from rd_of ok e
theorem dk_of {kvs:List (Key×V)} (ok:HOk P w H h) (e:H a=some (.dK kvs)):kvs.length≤sizeLine∧(a==sysModules)=false∧∃vs,KV kvs vs∧h.DictOf (mixKind P w) a vs:=zn5 ok (.inl e)
theorem zjf {ks:List Key} (ok:HOk P w H h) (e:H a=some (.tup (ks.map kV))):(tupleKind (mixKind P w)).is h ks a:=by
  obtain ⟨_,its,r,⟨o,h1,h2,n,h3⟩,_⟩:=(show ObjOk P w H h a (.tup (ks.map kV)) from ok a _ e)
  exact ⟨o,its.toArray,n,h1,h2,h3,by simpa using items_are r⟩
theorem zn4 {kvs:List (List Key×V)} (ok:HOk P w H h) (e:Rd H a (.dT kvs)):kvs.length≤sizeLine∧(a==sysModules)=false ∧
    ∃xs,KT H kvs xs∧h.DictOfH (tupleKind (mixKind P w)) a xs:=by
  obtain ⟨z,y,xs,r,o,es,ep,h1,h2,h3,h4,h5⟩:=(show ObjOk P w H h a (.dT kvs) from rd_of ok e)
  refine ⟨z,y,xs,r,o,es,ep,h1,h2,h3,h4,fun x hx=>?_,h5⟩
  have all:∀{l:List (List Key×V)} {m:List (List Key×Addr×Value)},KT H l m→∀x∈m,(tupleKind (mixKind P w)).is h x.1 x.2.1:=by
    intro l m q
    induction q with
    | nil=>intro x hx;exact nomatch hx
    | @cons p q ps qs hq t ih =>
      intro x hx
      rcases List.mem_cons.mp hx with e|hx
      · subst e
        exact zjf ok (by rw [←hq.1];exact hq.2.1)
      · exact ih x hx
  exact all r x hx
theorem dt_of {kvs:List (List Key×V)} (ok:HOk P w H h) (e:H a=some (.dT kvs)):kvs.length≤sizeLine∧(a==sysModules)=false ∧
    ∃xs,KT H kvs xs∧h.DictOfH (tupleKind (mixKind P w)) a xs:=zn4 ok (.inl e)
end
def DGet (H:Hp) (a:Addr) (y:V) (r:Option V):Prop :=
  (∃kvs k,Rd H a (.dK kvs)∧y=kV k∧r=valV kvs k)∨∃kvs k b,Rd H a (.dT kvs)∧y=.ref b∧H b=some (.tup (k.map kV))∧r=valV kvs k
def DPut (H:Hp) (a:Addr) (y v:V) (H':Hp):Prop :=
  (∃kvs k,H a=some (.dK kvs)∧y=kV k∧kvs.length<sizeLine∧H'=upd H a (.dK (putK kvs k v))) ∨
  ∃kvs k b,H a=some (.dT kvs)∧y=.ref b∧H b=some (.tup (k.map kV))∧kvs.length<sizeLine∧H'=upd H a (.dT (putK kvs k v))
theorem DGet.k {H:Hp} {a:Addr} {kvs:List (Key×V)} {k:Key} (e:H a=some (.dK kvs)):DGet H a (kV k) (valV kvs k):=.inl ⟨kvs,k,.inl e,rfl,rfl⟩
theorem DPut.k {H:Hp} {a:Addr} {kvs:List (Key×V)} {k:Key} {v:V} (e:H a=some (.dK kvs)) (hl:kvs.length<sizeLine):DPut H a (kV k) v (upd H a (.dK (putK kvs k v))):=.inl ⟨kvs,k,e,rfl,hl,rfl⟩
section
variable {X:Cx} {pins:List (Addr×Obj)} {σ:St} {H:Hp} {s:Shared} {a:Addr} {y v:V} {u r:Value} {o:Option V} {A:Around} {E:Value→Shared→Prop}
theorem Inv.big (I:Inv X pins σ H s):sysModules<s.heap.objs.size:=by
  have h:mainGlobals<s.heap.objs.size:=(I.mod.glob.keeps I.bk).lt
  exact Nat.lt_trans (by decide) h
theorem zmt {Q:Value→Shared→Prop} (hu:A.units+1<cLine) (I:Inv X pins σ H s) (g:DGet H a y (some v)) (ry:RelV y u) (h:∀w' s',Inv X pins σ H s'→RelV v w'→Q w' s') :
    wpAny (model X.prog X.w) A (getItem (.ref a) u) Q E s:=by
  rcases g with ⟨kvs,k,e,ey,l⟩|⟨kvs,k,b,e,ey,eb,l⟩
  · subst ey
    obtain ⟨z,hd,vs,rel,dd⟩:=zn5 I.hok e
    obtain ⟨w',hw,rw'⟩:=RelO.some_of (v:=v) (o:=valueAt vs k) (by rw [l];exact rel.val k)
    exact wpAny_getItem_of (zl8 ry) dd.mapOf hw (h w' _ (I.tok _) rw')
  · subst ey
    cases (show u=Value.ref b from ry)
    obtain ⟨z,hd,xs,rel,dd⟩:=zn4 I.hok e
    obtain ⟨w',hw,rw'⟩:=RelO.some_of (v:=v) (o:=(atKey xs k).map (·.2)) (by rw [l];exact rel.val k)
    obtain ⟨p,hp,hp2⟩:=Option.map_eq_some_iff.mp hw
    refine wpAny_getItem_heap (tupleKind_room_in1 hu) (zjf I.hok eb) dd hp ?_
    rw [hp2]
    exact h w' _ (I.tok _) rw'
theorem zp2 {Q:Value→Shared→Prop} (hu:A.units+1<cLine) (I:Inv X pins σ H s) (g:DGet H a y o) (ry:RelV y u) (h:∀s',Inv X pins σ H s'→Q (.bool (!o.isSome)) s') :
    wpAny (model X.prog X.w) A (compareOp .NotIn u (.ref a)) Q E s:=by
  rcases g with ⟨kvs,k,e,ey,l⟩|⟨kvs,k,b,e,ey,eb,l⟩
  · subst ey
    obtain ⟨z,hd,vs,rel,dd⟩:=zn5 I.hok e
    refine wpAny_notIn_of (zl8 ry) hd dd.mapOf ?_
    rw [←(rel.val k).isSome_eq,←l]
    exact h _ (I.tok _)
  · subst ey
    cases (show u=Value.ref b from ry)
    obtain ⟨z,hd,xs,rel,dd⟩:=zn4 I.hok e
    refine wpAny_notIn_heap (tupleKind_room_in1 hu) (zjf I.hok eb) hd dd ?_
    have q:=(rel.val k).isSome_eq
    rw [Option.isSome_map] at q
    rw [←q,←l]
    exact h _ (I.tok _)
theorem zmr {h':Heap} {t':Nat} {ob:HO} (I:Inv X pins σ H s) (mu:Mut (H a)) (hs:Heap.SameBut a s.heap h') (he:∃q,h'.get? a=some q) (new:ObjOk X.prog X.w (upd H a ob) h' a ob) :
    Inv X pins σ (upd H a ob) {s with heap:=h',toks:=t'} :=
  I.write (x:=a) (e:=a) mu (.inl rfl) (fun b q hb z=>(hs.2 b hb).trans z) he new
theorem dk_new {P:Program} {w:World} {H':Hp} {h':Heap} {kvs:List (Key×V)} {vs:List (Key×Value)} (z:kvs.length≤sizeLine) (hd:(a==sysModules)=false) (rel:KV kvs vs) (dd:h'.DictOf (mixKind P w) a vs) :
    ObjOk P w H' h' a (.dK kvs):=⟨z,hd,vs,rel,dd⟩
theorem zms {H':Hp} {Q:Unit→Shared→Prop} (hu:A.units+1<cLine) (I:Inv X pins σ H s) (g:DPut H a y v H') (ry:RelV y u) (rv:RelV v r) (h:∀s',Inv X pins σ H' s'→Q () s') :
    wpAny (model X.prog X.w) A (setItem (.ref a) u r) Q E s:=by
  rcases g with ⟨kvs,k,e,ey,l,eH⟩|⟨kvs,k,b,e,ey,eb,l,eH⟩
  · subst ey eH
    obtain ⟨z,hd,vs,rel,dd⟩:=dk_of I.hok e
    have hz:vs.length≤sizeLine:=by rw [←rel.length];exact z
    have hl:(putK kvs k v).length≤sizeLine:=by have:=zdn kvs k v;omega
    refine wpAny_setItem_pairs (hsz:=hz) (zl8 ry) dd fun h' dd' hs=>h _ ?_
    have he:∃q,h'.get? a=some q:=let ⟨q,_,_,hq,_⟩:=dd';⟨q,hq⟩
    exact zmr I (by rw [e];exact True.intro) hs he (dk_new hl hd (rel.put k rv) dd')
  · subst ey eH
    cases (show u=Value.ref b from ry)
    obtain ⟨z,hd,xs,rel,dd⟩:=dt_of I.hok e
    have hz:xs.length≤sizeLine:=by rw [←Paired.length rel];exact z
    have hl:(putK kvs k v).length≤sizeLine:=by have:=zdn kvs k v;omega
    refine wpAny_setItem_heap (hsz:=hz) (tupleKind_room_in1 hu) (zjf I.hok eb) dd fun h' dd' hs=>h _ ?_
    obtain ⟨q,es,ep,hq,h2,h3,h4,_,h5⟩:=dd'
    refine zmr I (by rw [e];exact True.intro) hs ⟨q,hq⟩ ⟨hl,hd,_,(rel.put k eb rv).keeps fun c ys ec=>?_,q,es,ep,hq,h2,h3,h4,h5⟩
    rw [zal (ne_of ec e (fun z=>nomatch z))]
    exact ec
end
def NoSl (i:Expr):Prop:=∀ov iv,subscripted i false ov iv=operate [ov,iv] (getItem ov iv)
theorem zot {prog:Program} {w:World} {A:Around} {E:Value→Shared→Prop} {s:Shared} {env:Env} {value slice:Expr} {pos:Pos} {T id:String} {Q:Value→Shared→Prop}
    (hl:typeLookup (.type T) "__getitem__"=pure (some (.builtin id))) (hs:NoSl slice)
    (h:wpAny (model prog w) A (eval value env) (fun o s₁=>wpAny (model prog w) A (eval slice env) (fun i s₂=>s₂.TypeIs o T∧wpAny (model prog w) A (getItem o i) Q E s₂) E s₁) E s) :
    wpAny (model prog w) A (eval (.Subscript value slice pos) env) Q E s:=by
  refine Subscript_ (wpAny_mono h (fun o s₁ h₁=>wpAny_mono h₁ (fun i s₂ h₂=>?_) fun _ _ x=>x) fun _ _ x=>x)
  obtain ⟨hT,h₂⟩:=h₂
  unfold subscriptTail
  refine wpAny_bind ?_
  rw [getitemInPython_of_ne hT.not_modules]
  refine wpAny_bind (wpAny_specialOf hT hl ?_)
  have fin:wpAny (model prog w) A (subscripted slice false o i) (fun r s₃=>wpAny (model prog w) A (letTemporaryGo value o r >>= fun _=>pure r) Q E s₃) E s₂:=by
    rw [hs o i]
    exact wpAny_operating (wpAny_mono h₂ (fun r s₃ h₃=>wpAny_bind (wpAny_letTemporaryGo (wpAny_pure h₃))) fun _ _ x=>x)
  first
    | exact wpAny_pure (wpAny_bind fin)
    | exact wpAny_bind (wpAny_pure (wpAny_bind fin))
    | exact wpAny_bind fin
theorem zir {X:Cx} {pins:List (Addr×Obj)} {σ:St} {H:Hp} {s:Shared} {a:Addr} {y:V} {o:Option V} (I:Inv X pins σ H s) (g:DGet H a y o):s.TypeIs (.ref a) "dict":=by
  rcases g with ⟨kvs,k,e,_,_⟩|⟨kvs,k,b,e,_,_,_⟩
  · obtain ⟨_,_,vs,_,dd⟩:=zn5 I.hok e
    exact dd.typeIs
  · obtain ⟨_,_,xs,_,dd⟩:=zn4 I.hok e
    exact dd.typeIs
def tDGet (td ty:TE):TE:=fun σ H Q=>td σ H fun x H1=>ty σ H1 fun y H2=>∃a v,x=.ref a∧DGet H2 a y (some v)∧Q v H2
def sDPut (td ty tv:TE):TS:=fun D σ H=>tv σ H fun v H1=>td σ H1 fun x H2=>ty σ H2 fun y H3=>∃a H4,x=.ref a∧DPut H3 a y v H4∧D.nx σ H4
section
variable {X:Cx} {o i e value:Expr} {pos pos' tpos:Pos} {td ty tv:TE}
theorem zpe (hu:X.A.units+1<cLine) (ho:PE X o td) (hi:PE X i ty) (hs:NoSl i):PE X (.Subscript o i pos) (tDGet td ty):=by
  intro pins s σ H Q I h
  refine zot PySem.F.slot_dict_getitem.lookup hs (thn (ho pins s σ H _ I h) fun u s1 ⟨x,H1,I1,rx,q1⟩=>thn (hi pins s1 σ H1 _ I1 q1) fun iv s2 ⟨y,H2,I2,ry,a,v,ex,g,q2⟩=>?_)
  subst ex
  obtain rfl:u=Value.ref a:=rx
  exact ⟨zir I2 g,zmt hu I2 g ry fun w' s3 I3 rw'=>⟨v,H2,I3,rw',q2⟩⟩
theorem zo8 (hu:X.A.units+1<cLine) (ho:PE X o td) (hi:PE X i ty) (hv:PE X value tv) (hs:swapsWith value (some (.Subscript o i pos')) pos.line X.env=pure false) :
    PS X (.Assign [.Subscript o i pos'] value pos) (sDPut td ty tv):=by
  intro pins s σ H D I h
  refine wpAny_Assign_Subscript (thn (hv pins s σ H _ I h) fun r s1 ⟨v,H1,I1,rv,q1⟩=>thn (ho pins s1 σ H1 _ I1 q1) fun u s2 ⟨x,H2,I2,rx,q2⟩=>thn (hi pins s2 σ H2 _ I2 q2) fun iv s3 ⟨y,H3,I3,ry,a,H4,ex,g,q3⟩=>?_) hs
  subst ex
  obtain rfl:u=Value.ref a:=rx
  exact zms hu I3 g ry rv fun s4 I4=>⟨σ,H4,I4,q3⟩
end
theorem zn6 {P:Program} {w:World} {H:Hp} (h:Heap) (hb:sysModules<h.objs.size):ObjOk P w H (h.push {cls:=.type "dict",data:=.dict #[]}) h.objs.size (.dK []) :=
  ⟨Nat.zero_le _,beq_eq_false_iff_ne.mpr (Ne.symm (Nat.ne_of_lt hb)),[],.nil,Heap.DictOf.new h⟩
def tDNewK:TE:=fun _ H Q=>∀p,H p=none→Q (.ref p) (upd H p (.dK []))
section
variable {X:Cx} {pos:Pos}
theorem znm:PE X (.Dict [] [] pos) tDNewK:=fun pins s σ H Q I h =>
  wpAny_Dict_empty ⟨.ref s.heap.objs.size,_,I.laid (a:=s.heap.objs.size) (o:=.dK []) (t':=s.toks) (fun _ _ q=>Heap.get?_push_of_some _ q) (Nat.le_refl _) (zn6 s.heap I.big),rfl,h _ (I.hok.fresh (Nat.le_refl _))⟩
end
end L2
namespace L2
open PySem PySem.Spec PyProof.Rows
end L2
namespace EE
open PySem PySem.Spec PyProof.Rows L2
structure Has (K:PySem.W.Frag) (mg:Str→Option Value) (x:Str) (st:Stmt) (ps:List Str):Prop where
  ex:∃f fd,Fun K x x st f fd∧Binds K fd ps []∧mg x=some (.ref f)
section
variable {P:Program} {w:World} {K:PySem.W.Frag} {mg:Str→Option Value} {base:Heap}
theorem zbh {h:Heap} {x:Str} {st:Stmt} {ps:List Str} {f:Addr} {oc:Value} {od an:Option Addr} {osl:Array (Option Value)} {kV doc pm cdv ct:Value} (X:K.In h) (G:h.Ns mainGlobals mg)
    (a:PySem.W.nsIn K mainGlobals x=some (some (.ref f))) (l:K.lookup f=some ⟨oc,od,.func (PySem.W.fnOf x x (defArgs st) (defBody st) (defScope st) .none kV doc pm an cdv ct),osl⟩)
    (c:PySem.W.codeIn K cdv x=true) (k:PySem.W.keepIn K (.ref f)=true)
    (hb:∀(kV doc pm:Value) (an:Option Addr) (cdv ct:Value) (us:List Value),us.length=ps.length→bindArgs (PySem.W.fnOf x x (defArgs st) (defBody st) (defScope st) .none kV doc pm an cdv ct) ⟨us,[]⟩=pure (ps.zip us)):Has K mg x st ps:=by
  have F:=zmh (st:=st) l c k
  exact ⟨f,_,F,F.binds hb,PySem.W.mg_of X G a⟩
end
section
variable {X:Cx} {k:Nat} {ps:List Str} {sp:Sp} {x:Str} {p pos:Pos} {e:Expr} {es:List Expr} {t:TA}
theorem znl {i:Int} (h:∃t,X.mg x=some (.int i t)) (hg:Gl X x) (hd:(x==("__debug__":Str))=false:=by decide):PE X (.Name x pos) (tC (.int i)):=by
  obtain ⟨t,e⟩:=h
  exact zlr (v:=.int i) hg e ⟨t,rfl⟩ hd
def rPopS:V→List V→Hp→VK→Prop:=fun x vs H Q=>∃l ys y,x=.ref l∧vs=[]∧H l=some (.lst (ys++[y]))∧Q y (upd H l (.lst ys))
theorem zb5:MtM X "list.pop" rPopS:=by
  intro pins s σ H x vs v us Q I rx rv h
  obtain ⟨l,ys,y,rfl,rfl,hH,q⟩:=h
  refine mt_pop pins s σ H _ _ v us Q I rx rv ⟨l,ys++[y],y,rfl,rfl,hH,by simp,?_⟩
  rw [List.dropLast_concat]
  exact q
theorem zfr (l:Addr) (xs:Array Value) (n:Nat) (b:Addr) (dd:Option Addr) (sl:Array (Option Value)) (ys:Array Value) (m:Nat)
    (hz:¬(!xs.isEmpty&&Builtin.List.listTooLong (xs.size+ys.size))=true) (h1:xs.size≤sizeLine) (h2:xs.size+ys.size≤sizeLine+1) :
    Meets (Builtin.«list.extend» ⟨[.ref l,.ref b],[]⟩) (fun _ R s=>s.heap.get? l=some {cls:=.type "list",dict:=none,data:=.seq xs n,slots:=#[]} ∧
      s.heap.get? b=some {cls:=.type "tuple",dict:=dd,data:=.seq ys m,slots:=sl} ∧
      R (.ok (.ret Value.none)) {s with heap:=s.heap.update l (Obj.mapSeq fun x=>x++ys),toks:=s.toks}) :=
  .of_wp fun prog w A R s h=>by
    obtain ⟨hp,g,d,tk,os⟩:=s
    obtain ⟨hl,hb,h⟩:=h
    have f1:=PySem.AutoSeq1.idx_int
    have f2:=PySem.AutoSeq1.sub_tuple_tuple
    have f3:=PySem.AutoSeq1.sub_list_list
    have f4:=PySem.AutoSeq1.sub_tuple_list
    have f5:=PySem.AutoSeq1.sub_list_tuple
    have hw:(xs++ys).size≤sizeLine+1:=by rw [Array.size_append];exact h2
    wp_walk using (wpAny_updateSeq hl rfl (hz:=h1) (_hz':=hw)),PySem.AutoSeq1.wpAny_loadPart' hl,PySem.AutoSeq1.wpAny_loadPart' hb
    exact ⟨_,rfl,h⟩
def rExtendT (K:PySem.W.Frag):V→List V→Hp→VK→Prop:=fun x vs H Q=>∃l b xs zs,x=.ref l∧vs=[.ref b]∧H l=some (.lst xs)∧SqT K H b zs∧xs.length+zs.length≤sizeLine∧Q .non (upd H l (.lst (xs++zs)))
theorem zki:MtM X "list.extend" (rExtendT X.K):=by
  intro pins s σ H x vs v us Q I rx rv h
  obtain ⟨l,b,xs,zs,rfl,rfl,hH,hB,hz,q⟩:=h
  cases rx
  obtain ⟨u,rfl,ru⟩:=rv.one
  cases ru
  obtain ⟨z,its,n,r,hl,e⟩:=I.lstM hH
  obtain ⟨its2,r2,⟨o,e2,hc,m,hd⟩,hz2⟩:=I.tuple hB
  obtain ⟨oc,od,odt,osl⟩:=o
  obtain rfl:oc=.type "tuple":=hc
  obtain rfl:odt=.seq its2.toArray m:=hd
  have hl2:=r2.length
  have hsz:its.toArray.size+its2.toArray.size≤sizeLine:=by rw [List.size_toArray,List.size_toArray];omega
  have hlong:¬(!its.toArray.isEmpty&&Builtin.List.listTooLong (its.toArray.size+its2.toArray.size))=true:=by
    rw [notLongL hsz,Bool.and_false]
    exact Bool.false_ne_true
  refine call_meets F.slot_list_extend ⟨_,e,rfl⟩ F.entry_list_extend (F.args_list_extend_2 _ _)
    (zfr l its.toArray n b od osl its2.toArray m hlong (by rw [List.size_toArray];omega) (by omega)) ⟨e,e2,?_⟩
  refine ⟨.non,_,I.lset (its':=its++its2) hH e (by simp) (r.append r2) ?_,rfl,q⟩
  rw [List.length_append]
  omega
end
theorem iteN {c A B:Prop} [Decidable c] (hc:¬c) (h:A):if (!decide c)=true then A else B:=by
  rw [decide_eq_false hc]
  exact iteT h
theorem iteD {c A B:Prop} [Decidable c] (hc:c) (h:A):if decide c=true then A else B:=by
  rw [decide_eq_true hc]
  exact iteT h
theorem iteDN {c A B:Prop} [Decidable c] (hc:¬c) (h:B):if decide c=true then A else B:=by
  rw [decide_eq_false hc]
  exact iteF h
theorem iteD2 {c A B:Prop} [Decidable c] (h1:c→A) (h2:¬c→B):if decide c=true then A else B:=by
  by_cases h:c
  · exact iteD h (h1 h)
  · exact iteDN h (h2 h)
theorem snoc_cases {α:Type} (xs:List α):xs=[]∨∃ys y,xs=ys++[y]:=by
  cases xs with
  | nil=>exact .inl rfl
  | cons a r=>exact .inr ⟨(a::r).dropLast,(a::r).getLast (by simp),(List.dropLast_concat_getLast (by simp)).symm⟩
inductive Tre where
  | bud
  | pair (l r:Tre)
noncomputable def Tre.size:Tre→Nat
  | .bud=>0
  | .pair l r=>l.size+r.size+1
noncomputable def sizes:List Tre→Nat
  | []=>0
  | t::r=>t.size+sizes r
theorem zan (a b:List Tre):sizes (a++b)=sizes a+sizes b:=by
  induction a with
  | nil=>simp [sizes]
  | cons t r ih=>simp only [List.cons_append,sizes,ih];omega
end EE
namespace EE
open PySem PySem.Spec PyProof.Rows L2
end EE
namespace EE
open PySem PySem.Spec PyProof.Rows L2 SeqAt
end EE
namespace EE
open PySem PySem.Spec PyProof.Rows L2
end EE
namespace EE
open PySem PySem.Spec PyProof.Rows L2
noncomputable def textOf (cs:List Nat):Str:=⟨cs.toArray⟩
theorem zau (cs:List Nat):(textOf cs).length=cs.length:=by simp [textOf,Str.length]
theorem zcp (a b:List Nat):textOf a++textOf b=textOf (a++b):=by
  show Str.append (textOf a) (textOf b)=textOf (a++b)
  simp [textOf,Str.append]
end EE
namespace EE
open PySem PySem.Spec PyProof.Rows L2
noncomputable def cutT (cs:List Nat) (lo hi:Option Int):List Nat:=(cs.drop (HT.sIx cs.length 0 lo)).take (HT.sIx cs.length cs.length hi-HT.sIx cs.length 0 lo)
theorem zpt (lo hi:Option Int) (n:Nat):Builtin.Str.strSliceIndices lo hi 1 n=sliceRange ((HT.sIx n 0 lo:Nat):Int) ((HT.sIx n n hi:Nat):Int) 1:=by
  have a:∀(i:Int) (d:Nat),max 0 (min (if i<0 then i+(n:Int) else i) (n:Int))=((HT.sIx n d (some i):Nat):Int):=by
    intro i d
    simp only [HT.sIx]
    by_cases h:i<0
    · simp only [h,if_true];omega
    · simp only [h,if_false];omega
  unfold Builtin.Str.strSliceIndices
  cases lo with
  | none =>
    cases hi with
    | none=>rfl
    | some j =>
      show sliceRange (0:Int) (max 0 (min (if j<0 then j+(n:Int) else j) (n:Int))) 1=_
      rw [a j n]
      rfl
  | some i =>
    cases hi with
    | none =>
      show sliceRange (max 0 (min (if i<0 then i+(n:Int) else i) (n:Int))) (n:Int) 1=_
      rw [a i 0]
      rfl
    | some j =>
      show sliceRange (max 0 (min (if i<0 then i+(n:Int) else i) (n:Int))) (max 0 (min (if j<0 then j+(n:Int) else j) (n:Int))) 1=_
      rw [a i 0,a j n]
theorem zk9 (x:Str) (lo hi:Option Int):Txt.slice x lo hi=textOf (cutT x.cps.toList lo hi):=by
  have hl:x.cps.toList.length=x.length:=by simp [Str.length]
  have l1:HT.sIx x.length 0 lo≤x.length:=HT.zlh _ _ (Nat.zero_le _) lo
  have l2:HT.sIx x.length x.length hi≤x.length:=HT.zlh _ _ (Nat.le_refl _) hi
  unfold Txt.slice cutT
  rw [zpt,sliceRange_one,hl,pick_run]
  by_cases h:((1:Int)==1&&((List.range (HT.sIx x.length x.length hi-HT.sIx x.length 0 lo)).map (HT.sIx x.length 0 lo+·)).length==x.length)=true
  · rw [if_pos h]
    simp only [List.length_map,List.length_range,Bool.and_eq_true,beq_iff_eq] at h
    have h2:=h.2
    have e1:HT.sIx x.length 0 lo=0:=by omega
    have e2:HT.sIx x.length x.length hi=x.length:=by omega
    rw [e1,e2,List.drop_zero,Nat.sub_zero,←hl,List.take_length]
    simp [textOf]
  · rw [if_neg h]
    rfl
def rSlS:V→Option Int→Option Int→Hp→VK→Prop:=fun x lo hi H Q=>∃z,x=.str z∧z.length≤sizeLine∧Q (.str (textOf (cutT z.cps.toList lo hi))) H
theorem zel {X:Cx}:SlR X rSlS:=by
  intro pins s σ H x v vl vu lo hi sl Q I rx hs pl pu h
  obtain ⟨z,rfl,hz,q⟩:=h
  obtain ⟨t,rfl⟩:=rx
  refine ⟨"str",_,slot_str_getitem.lookup,typeIs_str s z t,?_⟩
  have fin:∀t' k,EP X pins σ Q (.str (Txt.slice z lo hi) t') {s with toks:=k}:=fun t' k=>⟨.str _,H,I.tok _,⟨_,rfl⟩,by rw [zk9];exact q⟩
  have len:(Txt.slice z lo hi).length≤sizeLine:=Nat.le_trans (Txt.slice_le z lo hi) hz
  obtain ⟨o,ho,hc,hd⟩:=hs
  cases pl with
  | none =>
    cases pu with
    | none=>exact wpAny_getItem_str_slice (l:=none) (u:=none) (st:=none) ⟨o,ho,hc,hd⟩ rfl (post_val_or_str ⟨len,fin⟩)
    | int j tj=>exact wpAny_getItem_str_slice (l:=none) (u:=some (j,tj)) (st:=none) ⟨o,ho,hc,hd⟩ rfl (post_val_or_str ⟨len,fin⟩)
  | int i ti =>
    cases pu with
    | none=>exact wpAny_getItem_str_slice (l:=some (i,ti)) (u:=none) (st:=none) ⟨o,ho,hc,hd⟩ rfl (post_val_or_str ⟨len,fin⟩)
    | int j tj=>exact wpAny_getItem_str_slice (l:=some (i,ti)) (u:=some (j,tj)) (st:=none) ⟨o,ho,hc,hd⟩ rfl (post_val_or_str ⟨len,fin⟩)
end EE
namespace EE
open PySem PySem.Spec PyProof.Rows L2
theorem zjh {α β:Type} (f:α→β→Sem (ForInStep β)) (g:β→α→β):∀(l:List α) (b:β),(∀x∈l,∀b,f x b=pure (.yield (g b x)))→forIn l b f=pure (l.foldl g b)
  | [],b,_=>rfl
  | x::l,b,h=>by
    rw [List.forIn_cons,h x List.mem_cons_self b]
    exact zjh f g l (g b x) fun y hy=>h y (List.mem_cons_of_mem _ hy)
noncomputable def clGo (env:Env) (acc:List (Str×Addr)) (y:Str×NameKind):List (Str×Addr):=if y.2 == .free then (y.1,(env.cells.lookup y.1).getD 0)::acc else acc
noncomputable def clOf (scope:Scope) (env:Env):List (Str×Addr):=scope.names.foldl (clGo env) []
theorem ziv {scope:Scope} {env:Env} (h:∀y∈scope.names,y.2=.free→∃c,env.cells.lookup y.1=some c):closureFor scope env=pure (clOf scope env):=by
  simp only [closureFor]
  rw [zjh _ (clGo env) scope.names [] (fun y hy b=>?_)]
  · rfl
  · obtain ⟨n,k⟩:=y
    by_cases hk:k=.free
    · subst hk
      obtain ⟨c,e⟩:=h _ hy rfl
      have e':env.cells.lookup n=some c:=e
      simp only [clGo,beq_self_eq_true,if_true,cellOf,e',Option.getD_some]
      rfl
    · have:(k==NameKind.free)=false:=by simpa using hk
      simp only [clGo,this,Bool.false_eq_true,if_false]
theorem zmx {env:Env}:∀(names:List (Str×NameKind)) (acc:List (Str×Addr)),(∀y∈names,y.2=.free→∃c,env.cells.lookup y.1=some c)→(∀y c,acc.lookup y=some c→env.cells.lookup y=some c) →
    ∀y c,(names.foldl (clGo env) acc).lookup y=some c→env.cells.lookup y=some c
  | [],acc,_,h,y,c,e=>h y c e
  | (n,k)::r,acc,hf,h,y,c,e=>by
    rw [List.foldl_cons] at e
    refine zmx r _ (fun z hz=>hf z (List.mem_cons_of_mem _ hz)) (fun y c e=>?_) y c e
    unfold clGo at e
    by_cases hk:k=.free
    · subst hk
      obtain ⟨c0,e0⟩:=hf _ List.mem_cons_self rfl
      have e0':env.cells.lookup n=some c0:=e0
      simp only [beq_self_eq_true,if_true,e0',Option.getD_some,List.lookup_cons] at e
      by_cases hy:y=n
      · subst hy
        simp at e
        rw [←e];exact e0'
      · have hb:(y==n)=false:=by simpa using hy
        simp only [hb] at e
        exact h y c e
    · have hb:(k==NameKind.free)=false:=by simpa using hk
      simp only [hb,Bool.false_eq_true,if_false] at e
      exact h y c e
theorem zhw {env:Env}:∀(names:List (Str×NameKind)) (acc:List (Str×Addr)) (y:Str),(y,NameKind.free)∈names∨(∃c,acc.lookup y=some c)→∃c,(names.foldl (clGo env) acc).lookup y=some c
  | [],acc,y,h=>by
    rcases h with h|h
    · simp at h
    · exact h
  | (n,k)::r,acc,y,h=>by
    rw [List.foldl_cons]
    refine zhw r _ y ?_
    rcases h with h|⟨c,h⟩
    · rcases List.mem_cons.mp h with h|h
      · cases h
        exact .inr ⟨(env.cells.lookup n).getD 0,by simp [clGo]⟩
      · exact .inl h
    · refine .inr ?_
      unfold clGo
      by_cases hk:k=.free
      · subst hk
        simp only [beq_self_eq_true,if_true,List.lookup_cons]
        by_cases hy:y=n
        · subst hy;simp
        · have hb:(y==n)=false:=by simpa using hy
          simp only [hb]
          exact ⟨c,h⟩
      · have hb:(k==NameKind.free)=false:=by simpa using hk
        simp only [hb,Bool.false_eq_true,if_false]
        exact ⟨c,h⟩
theorem zc3 {scope:Scope} {env:Env} {y:Str} {k:NameKind} (h:(relabel scope env).names.lookup y=some k):∃k',(y,k')∈scope.names∧(k=k'∨(k'=.free∧k=.cell)):=by
  have go:∀(l:List (Str×NameKind)),(l.map fun (n,k)=>if (k == .free&&env.scope.kind == .function&&env.kindOf n==some .cell) then (n,NameKind.cell) else (n,k)).lookup y=some k→∃k',(y,k')∈l∧(k=k'∨(k'=.free∧k=.cell)):=by
    intro l
    induction l with
    | nil=>intro h;simp at h
    | cons a r ih =>
      obtain ⟨n,k0⟩:=a
      intro h
      rw [List.map_cons] at h
      by_cases hc:(k0==NameKind.free&&env.scope.kind == .function&&env.kindOf n==some .cell)=true
      · simp only [hc,if_true,List.lookup_cons] at h
        by_cases hy:y=n
        · subst hy
          simp only [beq_self_eq_true] at h
          refine ⟨k0,List.mem_cons_self,.inr ⟨?_,by simpa using h.symm⟩⟩
          simp only [Bool.and_eq_true] at hc
          simpa using hc.1.1
        · have hb:(y==n)=false:=by simpa using hy
          simp only [hb] at h
          obtain ⟨k',m,q⟩:=ih h
          exact ⟨k',List.mem_cons_of_mem _ m,q⟩
      · dsimp only at h
        rw [if_neg hc] at h
        by_cases hy:y=n
        · subst hy
          simp at h
          exact ⟨k0,List.mem_cons_self,.inl h.symm⟩
        · have hb:(y==n)=false:=by simpa using hy
          simp only [List.lookup_cons,hb] at h
          obtain ⟨k',m,q⟩:=ih h
          exact ⟨k',List.mem_cons_of_mem _ m,q⟩
  exact go scope.names h
theorem zeo {scope:Scope} {env:Env} {y:Str} (hk:env.scope.kind=.function) (hc:env.kindOf y=some .cell) (h:scope.names.lookup y=some .free):(relabel scope env).names.lookup y=some .cell:=by
  have go:∀(l:List (Str×NameKind)),l.lookup y=some .free→(l.map fun (n,k)=>if (k == .free&&env.scope.kind == .function&&env.kindOf n==some .cell) then (n,NameKind.cell) else (n,k)).lookup y=some .cell:=by
    intro l
    induction l with
    | nil=>intro h;simp at h
    | cons a r ih =>
      obtain ⟨n,k0⟩:=a
      intro h
      rw [List.map_cons]
      by_cases hy:y=n
      · subst hy
        simp only [List.lookup_cons,beq_self_eq_true,Option.some.injEq] at h
        subst h
        simp [hk,hc]
      · have hb:(y==n)=false:=by simpa using hy
        simp only [List.lookup_cons,hb] at h
        by_cases hcc:(k0==NameKind.free&&env.scope.kind == .function&&env.kindOf n==some .cell)=true
        · simp only [hcc,if_true,List.lookup_cons,hb]
          exact ih h
        · dsimp only
          rw [if_neg hcc]
          simp only [List.lookup_cons,hb]
          exact ih h
  exact go scope.names h
structure CompScope (osc:Scope) (x:Str) (M:List Str) (scope:Scope):Prop where
  kind:scope.kind=.function
  nocell:∀y∈scope.names,y.2≠.cell
  names:∀y∈scope.names,y.2=.local→scope.names.lookup y.1=some .local
  own:scope.names.lookup x=some .local
  free:∀y∈scope.names,y.2=.free→osc.names.lookup y.1=some .cell
  nd:(x::M).Nodup
  mine:∀y∈M,scope.names.lookup y=some .free
noncomputable def cxComp (X:Cx) (scope:Scope) (C:Addr) (N:List Str) (fp:List Addr) (pins:List (Addr×Obj)) (s:Shared) (H:Hp):Cx where
  prog:=X.prog
  w:=X.w
  K:=X.K
  mg:=X.mg
  base:=X.base
  A:=X.A
  N:=N
  s₀:=s
  H₀:=H
  env:=compEnvC scope (clOf scope X.env) C X.env
  outer:=X.stack
  stack:=X.stack
  ex:=fp
  fn:=fun _=>false
  calm:=true
  pn:=X.pn++pins
  xe:=fun _ _=>False
noncomputable def pick (σ:L2.St) (js:List Nat):L2.St:=js.map fun j=>(σ[j]?).getD none
section
variable {X:Cx} {pins:List (Addr×Obj)} {σ:L2.St} {H:Hp} {s:Shared} {scope:Scope} {x:Str} {M:List Str} {js:List Nat} {C:Addr} {fp:List Addr}
theorem CompScope.cells (S:CompScope X.env.scope x M scope) (I:Inv X pins σ H s):∀y∈scope.names,y.2=.free→∃c,X.env.cells.lookup y.1=some c:=fun y hy hk=>I.ok.has y.1 (.inl (S.free y hy hk))
theorem CompScope.sub (S:CompScope X.env.scope x M scope) (I:Inv X pins σ H s) {y:Str} {c:Addr} (e:(clOf scope X.env).lookup y=some c):X.env.cells.lookup y=some c :=
  zmx scope.names [] (S.cells I) (fun _ _ h=>by simp at h) y c e
theorem znz {s1:Shared} {m:Str→Option Value} (S:CompScope X.env.scope x M scope) (hc:X.calm=true) (I:Inv X pins σ H s) (hjs:∀(k:Nat) (y:Str),M[k]?=some y→∃j:Nat,js[k]?=some j∧X.N[j]?=some y) (hlen:js.length=M.length)
    (hf:∀b∈fp,FpOk X pins H b) (hfl:∀b∈fp,b<s.heap.objs.size) (hC:s.heap.objs.size≤C) (hn:s1.heap.Ns C m) (hk:∀b o,s.heap.get? b=some o→s1.heap.get? b=some o) (hos:s1.os=s.os) (hg:AllBare s1.gens) :
    Inv (cxComp X scope C (x::M) fp pins s H) [] (none::pick σ js) H s1:=by
  have nst:∀b∈fp,b∉frs X.stack:=fun b hb z=>by
    obtain ⟨f0,f1,f2,_⟩:=hf b hb
    rcases List.mem_cons.mp (I.stkSub b z) with e|e
    · exact f1 e
    · exact f2 e
  have cellK:∀(c:Addr) (v:Option Value),s.heap.IsCell c v→s1.heap.IsCell c v:=fun c v z_1=>by obtain ⟨o,e,d⟩:=z_1;exact ⟨o,hk c o e,d⟩
  refine ⟨⟨I.ok.mod,S.kind,I.ok.glob,I.ok.blt,hC,fun y z c h1 h2=>I.ok.inj y z c (S.sub I h1) (S.sub I h2),fun y hy=>?_,fun y c h _=>(by cases (show false=true from h)),fun _=>I.ok.hd hc,I.ok.frames,.inl rfl,fun b hb=>?_,I.bs,
    Nat.le_trans I.ok.bsz I.sz,fun b o e hb=>?_,nst,I.stack,I.stkFree⟩,hos,hg,Un.kept hk,⟨m,hn,fun i y v h1 h2 h3=>?_⟩,fun y c e=>?_,I.hok.fresh hC,fun y c e=>I.freeC y c (S.sub I e),fun p hp=>?_,I.hok.kept hk,?_⟩
  · have hy':(relabel scope X.env).names.lookup y=some .cell∨(relabel scope X.env).names.lookup y=some .free:=hy
    have fr:(y,NameKind.free)∈scope.names:=by
      rcases hy' with h|h
      · obtain ⟨k',mm,e|e⟩:=zc3 h
        · exact absurd e.symm (S.nocell _ mm)
        · rw [e.1] at mm;exact mm
      · obtain ⟨k',mm,e|e⟩:=zc3 h
        · rw [←e] at mm;exact mm
        · exact absurd e.2 (by intro z;cases z)
    exact zhw scope.names [] y (.inl fr)
  · obtain ⟨f0,f1,f2,f3,f4,f5⟩:=hf b hb
    exact ⟨Nat.ne_of_lt (Nat.lt_of_lt_of_le (hfl b hb) hC),fun y c e=>f4 y c (S.sub I e)⟩
  · obtain ⟨f0,f1,f2,f3,f4,f5⟩:=hf b hb
    rcases f3 with f3|f3
    · exact I.ok.noex b o e f3
    · exact absurd (Heap.lt_size e) (Nat.not_lt.mpr (Nat.le_trans I.ok.bsz f3))
  · cases i with
    | zero =>
      have h2':(none:Option V)=some v:=by simpa using h2
      cases h2'
    | succ k =>
      have h1':M[k]?=some y:=by
        have z:(x::M)[k+1]?=some y:=h1
        simpa using z
      have h2':(pick σ js)[k]?=some (some v):=by simpa using h2
      obtain ⟨j,ej,eN⟩:=hjs k y h1'
      have eσ:σ[j]?=some (some v):=by
        unfold pick at h2'
        rw [List.getElem?_map,ej] at h2'
        have z:(σ[j]?).getD none=some v:=by simpa using h2'
        cases q:σ[j]? with
        | none=>rw [q] at z;cases z
        | some o=>rw [q] at z;rw [show o=some v from z]
      have hfree:=S.mine y (List.mem_of_getElem? h1')
      have hcell:X.env.kindOf y=some .cell:=S.free (y,.free) (PySem.mem_of_lookup hfree) rfl
      obtain ⟨m0,_,hl0⟩:=I.loc
      obtain ⟨u,r,l⟩:=hl0 j y v eN eσ (.inr (.inl hcell))
      refine ⟨u,r,.inr ⟨.inl (zeo I.ok.kind hcell hfree),?_⟩⟩
      obtain ⟨c',e'⟩:=zhw (env:=X.env) scope.names [] y (.inl (PySem.mem_of_lookup hfree))
      have e2:=S.sub I (show (clOf scope X.env).lookup y=some c' from e')
      rcases l with ⟨z,_⟩|⟨_,c,hcc,hic⟩
      · rw [hcell] at z;cases z
      · rw [hcc] at e2
        have:c=c':=Option.some.inj e2
        subst this
        exact ⟨c,e',cellK c _ hic⟩
  · obtain ⟨v,h⟩:=I.cell y c (S.sub I e)
    exact ⟨v,cellK c v h⟩
  · have hp':p∈X.pn++pins:=by simpa [cxComp] using hp
    obtain ⟨e,n,ne,nf,d⟩:=I.pin p hp'
    refine ⟨hk _ _ e,n,Nat.ne_of_lt (Nat.lt_of_lt_of_le (Heap.lt_size e) hC),fun z=>?_,d⟩
    rcases List.mem_cons.mp (I.stkSub p.1 z) with q|q
    · exact ne q
    · exact nf q
  · show (none::pick σ js).length=(x::M).length
    simp [pick,hlen]
theorem zg3 {N:List Str} {pins':List (Addr×Obj)} {σ':L2.St} {H':Hp} {s':Shared} {h':Heap} (I:Inv X pins σ H s) (hf:∀b∈fp,FpOk X pins H b) (J:Inv (cxComp X scope C N fp pins s H) pins' σ' H' s')
    (hC:s.heap.objs.size≤C) (hs:Heap.SameBut C s'.heap h'):Inv X pins σ H' {s' with heap:=h'}:=by
  have u0:Un (frs X.stack) fp H H' s.heap s'.heap:=J.base
  have nC:∀b o,s.heap.get? b=some o→b≠C:=fun b o e z=>absurd (Heap.lt_size e) (by rw [z];exact Nat.not_lt.mpr hC)
  have u:Un (frs X.stack) fp H H' s.heap h':=⟨fun b o e n hb hx=>(hs.2 b (nC b o e)).trans (u0.keep b o e n hb hx),fun b o e n hb hx=>let ⟨sl,q⟩:=u0.slot b o e n hb hx;⟨sl,(hs.2 b (nC b o e)).trans q⟩,u0.free,
    fun b o e hx=>let ⟨o',q⟩:=u0.there b o e hx;⟨o',(hs.2 b (nC b o e)).trans q⟩,u0.tups,u0.frzs,u0.tbls⟩
  have fC:H' C=none:=J.free
  have hok:HOk X.prog X.w H' h':=fun b ob e=>(J.hok b ob e).stay (fun c w hc q=>(hs.2 c (fun z=>by
    subst z
    rcases hc with z|z
    · rw [←z,fC] at e;cases e
    · rw [fC] at z;cases z)).trans q) (fun _ q=>q) fun _ _ q=>q
  exact I.call' (s':={s' with heap:=h'}) (ch:=fp) J.os u hok J.bare fun b hb=>by
    obtain ⟨f0,f1,f2,f3,f4,f5⟩:=hf b hb
    exact ⟨f3,f1,f4,f5⟩
end
def tComp (wi:TI) (te:TE) (js:List Nat):TE:=fun σ H Q=>wi σ H fun J H1=>∀D,H1 D=none→∃W:Nat→Nat→Hp→Prop,(∃m,W 0 m (upd H1 D (.lst [])))∧∀i m H2,W i m H2 →
  (J.stop i H2∧Q (.ref D) H2)∨(J.go i H2∧∃N:Hp→Prop,(∀H',N H'→∃m',m'<m∧W (i+1) m' H')∧∀v H',J.yld i H2 v H' →
    te (some v::pick σ js) H' fun y H3=>∃ys,H3 D=some (.lst ys)∧ys.length<sizeLine∧N (upd H3 D (.lst (ys++[y]))))
section
variable {X:Cx} {elt iter:Expr} {x:Str} {px pos:Pos} {scope:Scope} {M:List Str} {js:List Nat} {wi:TI} {te:TE}
theorem zhv {prog:Program} {w:World} {A:Around} {R:Result→Shared→Prop} {s:Shared} {target:Expr} {it acc:Value} {env:Env} (I:Nat→Shared→Prop)
    (turn:∀n s,I n s→wpAny (model prog w) A (pyNext it) (fun r s₁=>match r with
      | none=>R (.ok .next) s₁
      | some v=>wpAny (model prog w) A (letOwnedTupleGo target it v) (fun _ s₂=>wpAny (model prog w) A (assign target env v) (fun _ s₃=>wpAny (model prog w) A (eval elt env) (fun y s₄ =>
          wpAny (model prog w) A (call (.builtin "list.append") [acc,y]) (fun _ s₅=>∃m,m<n∧I m s₅) (fun _ _=>False) s₄) (fun _ _=>False) s₃) (fun _ _=>False) s₂) (fun _ _=>False) s₁) (fun _ _=>False) s)
    (n:Nat) (h:I n s):codeAny (model prog w) A (.compLoop (.ListComp elt [⟨target,iter,[],0⟩] scope pos) 0 it acc env) R s:=by
  refine codeAny_loop rfl I (fun n s hI=>?_) n h
  show wpAny _ _ ((compTurn (.ListComp elt [⟨target,iter,[],0⟩] scope pos) 0 it acc env).onRaise (fun x=>do noteFrame x env;theTreesLotGoes x)) _ _ s
  refine wpAny_noted ?_
  rw [compTurn_list1]
  refine wpAny_bind (wpAny_standAt (wpAny_bind (wpAny_mono (turn n s hI) (fun r s₁ h₁=>?_) fun _ _ z=>z.elim)))
  cases r with
  | none=>exact wpAny_pure h₁
  | some v =>
    exact wpAny_bind (wpAny_mono h₁ (fun _ s₂ h₂=>wpAny_bind (wpAny_mono h₂ (fun _ s₃ h₃=>wpAny_bind (wpAny_bind (wpAny_mono h₃ (fun y s₄ h₄=>wpAny_bind (wpAny_mono h₄
      (fun _ s₅ h₅=>wpAny_pure (wpAny_pure ⟨rfl,h₅⟩)) fun _ _ z=>z.elim)) fun _ _ z=>z.elim))) fun _ _ z=>z.elim)) fun _ _ z=>z.elim)
theorem zgm {pins:List (Addr×Obj)} {σ:L2.St} {H2:Hp} {s2:Shared} {it D:Addr} {fp:List Addr} {tn:Nat→Heap→Prop} {J:It} {W:Nat→Nat→Hp→Prop} {Qe:Hp→Prop} {R:Addr→Result→Shared→Prop} {E:Value→Shared→Prop} {m0:Nat}
    (S:CompScope X.env.scope x M scope) (hc:X.calm=true) (hjs:∀(k:Nat) (y:Str),M[k]?=some y→∃j:Nat,js[k]?=some j∧X.N[j]?=some y) (hlen:js.length=M.length)
    (he:∀(C:Addr) (fp:List Addr) (pins:List (Addr×Obj)) (s:Shared) (H:Hp),PE (cxComp X scope C (x::M) fp pins s H) elt te)
    (I:Inv X pins σ H2 s2) (T:Turn X.prog X.w X.K (.Name x px) J fp it tn) (st:tn 0 s2.heap) (hf:∀b∈fp,FpOk X pins H2 b) (w0:W 0 m0 H2)
    (turn:∀i m H3,W i m H3→(J.stop i H3∧Qe H3)∨(J.go i H3∧∃N:Hp→Prop,(∀H',N H'→∃m',m'<m∧W (i+1) m' H')∧∀v H',J.yld i H3 v H' →
      te (some v::pick σ js) H' fun y H4=>∃ys,H4 D=some (.lst ys)∧ys.length<sizeLine∧N (upd H4 D (.lst (ys++[y])))))
    (fin:∀(C:Addr) (s':Shared) (H':Hp) (pins':List (Addr×Obj)) (σ':L2.St),s2.heap.objs.size≤C→Inv (cxComp X scope C (x::M) fp pins s2 H2) pins' σ' H' s'→Qe H'→R C (.ok .next) s') :
    wpAny (model X.prog X.w) X.A (newFunctionEnv scope X.env.globals (clOf scope X.env) [] X.env.qual none .none (some X.env)) (fun cenv s4 =>
      codeAny (model X.prog X.w) X.A (.compStart (.ListComp elt [⟨.Name x px,iter,[],0⟩] scope pos) 0 (.ref it) (.ref D) {cenv with scope:=relabel scope X.env}) (R cenv.locals) s4) E s2:=by
  refine wpAny_newFunctionEnv S.nocell (by intro y hy;simp at hy) (fun h1 hns hsb=>?_) S.kind
  have hfl:∀b∈fp,b<s2.heap.objs.size:=fun b hb=>by
    obtain ⟨o,e,_⟩:=T.obj 0 _ st b hb
    exact Heap.lt_size e
  have old:∀b o,s2.heap.get? b=some o→h1.get? b=some o:=fun b o e=>(hsb.2 b (Nat.ne_of_lt (Heap.lt_size e))).trans (Heap.get?_push_of_some _ e)
  have I4:Inv (cxComp X scope s2.heap.objs.size (x::M) fp pins s2 H2) [] (none::pick σ js) H2 {s2 with heap:=h1,toks:=s2.toks+([]:List (Str×Value)).length} :=
    znz S hc I hjs hlen hf hfl (Nat.le_refl _) hns old rfl I.bare
  have st4:tn 0 h1:=T.keep _ _ _ st fun b hb o e=>old b o e
  have stat:∀{H':Hp},(∀b∈fp,H' b=none)→∀b∈fp,FpOk (cxComp X scope s2.heap.objs.size (x::M) fp pins s2 H2) [] H' b:=fun {H'} hn b hb=>by
    obtain ⟨f0,f1,f2,f3,f4,f5⟩:=hf b hb
    refine ⟨hn b hb,Nat.ne_of_lt (hfl b hb),I4.ok.exfs b hb,.inl hb,fun y c e=>f4 y c (S.sub I e),fun p hp=>f5 p ?_⟩
    simpa [cxComp] using hp
  have loop:∀s3:Shared,s3={s2 with heap:=h1,toks:=s2.toks+([]:List (Str×Value)).length} →
      codeAny (model X.prog X.w) X.A (.compLoop (.ListComp elt [⟨.Name x px,iter,[],0⟩] scope pos) 0 (.ref it) (.ref D) (compEnvC scope (clOf scope X.env) s2.heap.objs.size X.env)) (R s2.heap.objs.size) s3:=by
    rintro s3 rfl
    refine zhv (fun n s'=>∃i x0 H',Inv (cxComp X scope s2.heap.objs.size (x::M) fp pins s2 H2) [] (x0::pick σ js) H' s'∧tn i s'.heap∧(∀b∈fp,H' b=none)∧W i n H') ?_ m0 ⟨0,none,H2,I4,st4,fun b hb=>(hf b hb).1,w0⟩
    rintro n s5 ⟨i,x0,H5,I5,st5,fr5,w5⟩
    rcases turn i n H5 w5 with ⟨stop,qe⟩|⟨go,N,hN,step⟩
    · refine thn (T.done (cxComp X scope s2.heap.objs.size (x::M) fp pins s2 H2) rfl rfl rfl rfl i [] s5 _ H5 (fun _ _=>False) I5 (stat fr5) st5 stop) fun r s6 ⟨hr,I6⟩=>?_
      subst hr
      exact fin _ s6 H5 [] _ (Nat.le_refl _) I6 qe
    · refine thn (T.item (cxComp X scope s2.heap.objs.size (x::M) fp pins s2 H2) rfl rfl rfl rfl i [] s5 _ H5 (fun _ _=>False) I5 (stat fr5) st5 go) fun r s6 ⟨u,hr,h6⟩=>?_
      subst hr
      refine thn h6 fun _ s7 ⟨v,H7,I7,r7,y7,st7,fr7⟩=>?_
      have I7':=I7.pinned (stat fr7) (T.obj _ _ st7)
      have hg:PG (cxComp X scope s2.heap.objs.size (x::M) fp pins s2 H2) (.Name x px) (gName 0):=zlp (i:=0) S.nd rfl (.inl (lookup_relabel_local S.own)) (.inr (lookup_relabel_local S.own))
      refine thn (hg _ s7 _ H7 v u (fun σ' H'=>σ'=some v::pick σ js∧H'=H7) I7' r7 ⟨rfl,rfl⟩) fun _ s8 ⟨σ8,H8,I8,e8,e8'⟩=>?_
      subst e8 e8'
      refine thn (he s2.heap.objs.size fp pins s2 H2 _ s8 _ H8 _ I8 (step v H8 y7)) fun yv s9 ⟨y,H9,I9,r9,ys,hD,hz,n9⟩=>?_
      refine thn (zam (X:=cxComp X scope s2.heap.objs.size (x::M) fp pins s2 H2) _ s9 _ H9 (.ref D) [y] (.ref D) [yv] (fun _ H'=>N H') I9 rfl (.cons r9 .nil) ⟨D,ys,y,rfl,rfl,hD,hz,n9⟩) fun _ s10 ⟨_,H10,I10,_,n10⟩=>?_
      obtain ⟨m',hm,w10⟩:=hN H10 n10
      refine ⟨m',hm,i+1,_,H10,I10.unpinned,T.keep _ _ _ st7 fun b hb o e=>(I10.pin (b,o) (List.mem_append_right _ (List.mem_append_right _ (zce hb e)))).1,fun b hb=>?_,w10⟩
      obtain ⟨o,e,d⟩:=T.obj _ _ st7 b hb
      exact (I10.pin (b,o) (List.mem_append_right _ (List.mem_append_right _ (zce hb e)))).2.1
  exact codeAny_compStart_list (loop _ rfl) (wpAny_mono (T.self X.A 0 _ _ _ st4 (loop _ rfl)) (fun _ _ z=>z) fun _ _ z=>z)
theorem zpf (S:CompScope X.env.scope x M scope) (hc:X.calm=true) (hjs:∀(k:Nat) (y:Str),M[k]?=some y→∃j:Nat,js[k]?=some j∧X.N[j]?=some y) (hlen:js.length=M.length) (hi:PI X (.Name x px) iter wi)
    (he:∀(C:Addr) (fp:List Addr) (pins:List (Addr×Obj)) (s:Shared) (H:Hp),PE (cxComp X scope C (x::M) fp pins s H) elt te) (hs:∀v,foldedSetIterable iter X.env v=pure v:=by intro _;rfl) :
    PE X (.ListComp elt [⟨.Name x px,iter,[],0⟩] scope pos) (tComp wi te js):=by
  intro pins s σ H Q I h
  rw [eval_ListComp]
  refine wpAny_comprehension_free (use:=none) rfl hs (ziv (S.cells I)) S.kind S.names (thn (hi pins s σ H _ I h) fun xv s1 h1=>thn h1 fun itv s2 h2=>?_)
  obtain ⟨it,fp,tn,J,H1,rfl,I2,T,st2,f2,q⟩:=h2
  refine wpAny_newObj_type ?_ (by show 0≤sizeLine;decide)
  have hD:H1 s2.heap.objs.size=none:=I2.hok.fresh (Nat.le_refl _)
  obtain ⟨W,⟨m0,w0⟩,turn⟩:=q _ hD
  have I3:Inv X pins σ (upd H1 s2.heap.objs.size (.lst [])) {s2 with heap:=s2.heap.push {cls:=.type "list",data:=.seq ([]:List Value).toArray}}:=I2.lnew (t':=s2.toks) .nil (Nat.zero_le _)
  have fr3:∀b∈fp,FpOk X pins (upd H1 s2.heap.objs.size (.lst [])) b:=fun b hb=>by
    obtain ⟨f0,f⟩:=f2 b hb
    obtain ⟨o,e,_⟩:=T.obj 0 _ st2 b hb
    exact ⟨by rw [zal (Nat.ne_of_lt (Heap.lt_size e))];exact f0,f⟩
  refine zgm (Qe:=fun H'=>Q (.ref s2.heap.objs.size) H') (R:=fun C=>compPost (model X.prog X.w) X.A X.xe none (EP X pins σ Q) (.ref s2.heap.objs.size) C) S hc hjs hlen he I3 T (T.keep _ _ _ st2 fun b hb o e=>Heap.get?_push_of_some _ e) fr3 w0 turn ?_
  intro C s' H' pins' σ' hC Jv qe
  obtain ⟨m,hn,_⟩:=Jv.loc
  exact ⟨m,hn,fun h' hs'=>⟨.ref _,H',zg3 I3 fr3 Jv hC hs',rfl,qe⟩⟩
theorem zo9 {i:Nat} {y:Str} {py spos:Pos} (S:CompScope X.env.scope x M scope) (hc:X.calm=true) (hjs:∀(k:Nat) (y:Str),M[k]?=some y→∃j:Nat,js[k]?=some j∧X.N[j]?=some y) (hlen:js.length=M.length) (hi:PI X (.Name x px) iter wi)
    (he:∀(C:Addr) (fp:List Addr) (pins:List (Addr×Obj)) (s:Shared) (H:Hp),PE (cxComp X scope C (x::M) fp pins s H) elt te)
    (hN:X.N.Nodup) (hy:X.N[i]?=some y) (hl:X.env.scope.names.lookup y=some .local)
    (hsw:swapsWith (.ListComp elt [⟨.Name x px,iter,[],0⟩] scope pos) (some (.Name y py)) spos.line X.env=pure true:=by rfl) (hs:∀v,foldedSetIterable iter X.env v=pure v:=by intro _;rfl) :
    PS X (.Assign [.Name y py] (.ListComp elt [⟨.Name x px,iter,[],0⟩] scope pos) spos) (tAsg (tComp wi te js) (gName i)):=by
  intro pins s σ H D0 I h
  rw [exec_Assign_Name_used _ _ _ _ hsw]
  refine wpAny_bind (wpAny_standAt (wpAny_bind ?_))
  show wpAny _ X.A (do let _ ←comprehension (.ListComp elt [⟨.Name x px,iter,[],0⟩] scope pos) scope X.env _ (newList []) false (eval iter X.env) (some (assign (.Name y py) X.env))) _ _ s
  refine wpAny_bind (wpAny_mono (wpAny_comprehension_free (use:=some (assign (.Name y py) X.env)) (Q:=fun _ s'=>SP X pins D0 .next s') rfl hs (ziv (S.cells I)) S.kind S.names
    (thn (hi pins s σ H _ I h) fun xv s1 h1=>thn h1 fun itv s2 h2=>?_)) (fun _ s' hq=>wpAny_pure (wpAny_pure hq)) fun _ _ e=>e)
  obtain ⟨it,fp,tn,J,H1,rfl,I2,T,st2,f2,q⟩:=h2
  refine wpAny_newObj_type ?_ (by show 0≤sizeLine;decide)
  have hD:H1 s2.heap.objs.size=none:=I2.hok.fresh (Nat.le_refl _)
  obtain ⟨W,⟨m0,w0⟩,turn⟩:=q _ hD
  have I3:Inv X pins σ (upd H1 s2.heap.objs.size (.lst [])) {s2 with heap:=s2.heap.push {cls:=.type "list",data:=.seq ([]:List Value).toArray}}:=I2.lnew (t':=s2.toks) .nil (Nat.zero_le _)
  have fr3:∀b∈fp,FpOk X pins (upd H1 s2.heap.objs.size (.lst [])) b:=fun b hb=>by
    obtain ⟨f0,f⟩:=f2 b hb
    obtain ⟨o,e,_⟩:=T.obj 0 _ st2 b hb
    exact ⟨by rw [zal (Nat.ne_of_lt (Heap.lt_size e))];exact f0,f⟩
  refine zgm (Qe:=fun H'=>gName i (.ref s2.heap.objs.size) σ H' D0.nx) (R:=fun C=>compPost (model X.prog X.w) X.A X.xe (some (assign (.Name y py) X.env)) (fun _ s'=>SP X pins D0 .next s') (.ref s2.heap.objs.size) C) S hc hjs hlen he I3 T
    (T.keep _ _ _ st2 fun b hb o e=>Heap.get?_push_of_some _ e) fr3 w0 turn ?_
  intro C s' H' pins' σ' hC Jv qe
  have Ie:Inv X pins σ H' s':=zg3 I3 fr3 Jv hC (Heap.SameBut.refl ..)
  obtain ⟨m,hn,_⟩:=Jv.loc
  have fC:=I3.fpOk (H':=H') hC Jv.free
  obtain ⟨c0,c1,c2,c3,c4,c5⟩:=fC
  show wpAny _ X.A (assign (.Name y py) X.env (.ref s2.heap.objs.size)) (fun _ s''=>∃m,s''.heap.Ns C m∧∀h',Heap.SameBut C s''.heap h'→SP X pins D0 .next {s'' with heap:=h'}) X.xe s'
  refine wpAny_assign_Name (zg9 Ie hN hy (.inl hl) (show RelV (.ref s2.heap.objs.size) (.ref s2.heap.objs.size) from rfl) (fun s'' I'' ⟨a,hsb,ha⟩=>?_) (.inr hl))
  have hCa:C≠a:=by
    rcases ha with rfl|ha
    · exact c1
    · exact Ne.symm (c4 _ _ ha)
  exact ⟨m,hn.sameBut hsb hCa,fun h' hs'=>⟨_,H',I''.turned (t':=s''.toks) (fun b o hb e=>(hs'.2 b hb).trans e) c0 c1 c3 c4 c5,qe⟩⟩
end
end EE
namespace EE
open PySem PySem.Spec PyProof.Rows L2
section
variable {X:Cx} {elt iter:Expr} {x:Str} {px pos:Pos} {scope osc:Scope} {M N:List Str} {js:List Nat} {wi:TI} {te:TE}
theorem zkn (hjs:M.map some=js.map fun j=>N[j]?):(∀(k:Nat) (y:Str),M[k]?=some y→∃j:Nat,js[k]?=some j∧N[j]?=some y)∧js.length=M.length:=by
  constructor
  · intro k y h
    have e:(M.map some)[k]?=some (some y):=by rw [List.getElem?_map,h];rfl
    rw [hjs,List.getElem?_map] at e
    cases q:js[k]? with
    | none=>rw [q] at e;cases e
    | some j =>
      rw [q] at e
      exact ⟨j,rfl,by simpa using e⟩
  · have:=congrArg List.length hjs
    simpa using this.symm
theorem znn (S:CompScope osc x M scope) (hjs:M.map some=js.map fun j=>N[j]?) (hc:X.calm=true) (hi:PI X (.Name x px) iter wi)
    (he:∀(C:Addr) (fp:List Addr) (pins:List (Addr×Obj)) (s:Shared) (H:Hp),PE (cxComp X scope C (x::M) fp pins s H) elt te)
    (hosc:X.env.scope=osc:=by rfl) (hN:X.N=N:=by rfl) (hs:∀v,foldedSetIterable iter X.env v=pure v:=by intro _;rfl) :
    PE X (.ListComp elt [⟨.Name x px,iter,[],0⟩] scope pos) (tComp wi te js):=by
  subst hosc hN
  exact zpf S hc (zkn hjs).1 (zkn hjs).2 hi he hs
theorem znf {i:Nat} {y:Str} {py spos:Pos} (S:CompScope osc x M scope) (hjs:M.map some=js.map fun j=>N[j]?) (hc:X.calm=true) (hi:PI X (.Name x px) iter wi)
    (he:∀(C:Addr) (fp:List Addr) (pins:List (Addr×Obj)) (s:Shared) (H:Hp),PE (cxComp X scope C (x::M) fp pins s H) elt te)
    (hNd:X.N.Nodup) (hy:X.N[i]?=some y) (hl:X.env.scope.names.lookup y=some .local)
    (hosc:X.env.scope=osc:=by rfl) (hN:X.N=N:=by rfl)
    (hsw:swapsWith (.ListComp elt [⟨.Name x px,iter,[],0⟩] scope pos) (some (.Name y py)) spos.line X.env=pure true:=by rfl) (hs:∀v,foldedSetIterable iter X.env v=pure v:=by intro _;rfl) :
    PS X (.Assign [.Name y py] (.ListComp elt [⟨.Name x px,iter,[],0⟩] scope pos) spos) (tAsg (tComp wi te js) (gName i)):=by
  subst hosc hN
  exact zo9 S hc (zkn hjs).1 (zkn hjs).2 hi he hNd hy hl hsw hs
end
def ScR (K:PySem.W.Frag) (H:Hp) (a:Addr) (xs:List V):Prop:=(∃o,H a=some (.frz o (.lst xs))) ∨
    ∃(o:Obj) (its:Array Value) (n:Nat),K.lookup a=some o∧o.cls=.type "list"∧o.dict=none∧o.data=.seq its n∧its.size≤sizeLine∧Vals xs its.toList
theorem ScR.sq {K:PySem.W.Frag} {H:Hp} {a:Addr} {xs:List V} (h:ScR K H a xs):SqL K H a xs:=by
  rcases h with ⟨o,h⟩|h
  · exact .inl (.inr ⟨o,h⟩)
  · exact .inr h
theorem ScR.of {K:PySem.W.Frag} {H:Hp} {a:Addr} {xs:List V} (h:SqL K H a xs) (o:Only H):ScR K H a xs:=by
  rcases h with (h|h)|h
  · rcases o a with e|⟨ob,ys,e⟩
    · rw [e] at h;cases h
    · rw [e] at h;cases h
  · exact .inl h
  · exact .inr h
end EE
namespace EE
open PySem PySem.Spec PyProof.Rows L2
theorem zo1:Slot "reversed" "__init__" "object.__init__" :=
  .of (owner:="object") (n:="__init__") (by rw [typeLookup_type,builtinLookup_eq_fast];kernel_rfl) (by decide +kernel) (by decide +kernel) (by decide +kernel)
    (by first|exact .inl (by decide +kernel)|exact .inr (by decide +kernel)) (by rw [isSubtype_type];kernel_rfl)
theorem zlk:TypeCalled "reversed" "reversed.__new__" "object.__init__" :=
  ⟨by decide +kernel,F.create_reversed,⟨_,_,F.mro_reversed⟩,F.made_reversed,F.plain_reversed_new,F.sub_reversed_self,zo1⟩
theorem zoz:typeLookup (.type "tuple") "__reversed__"=pure none:=by rw [typeLookup_type,builtinLookup_eq_fast];kernel_rfl
theorem zj5:isSubtype (.type "tuple") (.type "dict")=pure false:=by rw [isSubtype_type];kernel_rfl
theorem zfg:Slot "reversed" "__next__" "reversed.__next__" :=
  .of (owner:="reversed") (n:="__next__") (by rw [typeLookup_type,builtinLookup_eq_fast];kernel_rfl) (by decide +kernel) (by decide +kernel) (by decide +kernel)
    (by first|exact .inl (by decide +kernel)|exact .inr (by decide +kernel)) (by rw [isSubtype_type];kernel_rfl)
theorem zdz:entryFor table "reversed.__next__"=some Builtin.«reversed.__next__»:=entryFor_of_tree (by kernel_rfl)
theorem zen (a:Value):argsOk "reversed.__next__" ⟨[a],[]⟩:=by unfold argsOk;kernel_rfl
theorem zlj:Slot "reversed" "__iter__" "reversed.__iter__" :=
  .of (owner:="reversed") (n:="__iter__") (by rw [typeLookup_type,builtinLookup_eq_fast];kernel_rfl) (by decide +kernel) (by decide +kernel) (by decide +kernel)
    (by first|exact .inl (by decide +kernel)|exact .inr (by decide +kernel)) (by rw [isSubtype_type];kernel_rfl)
theorem zgu:entryFor table "reversed.__iter__"=some Builtin.«dict_keyiterator.__iter__» :=
  entryFor_alias (id':="dict_keyiterator.__iter__") (by kernel_rfl) (by first|rfl|decide +kernel|(unfold String.splitOn;simp +decide [String.splitOnAux])) (by decide +kernel) (by kernel_rfl)
theorem zhf (a:Value):argsOk "reversed.__iter__" ⟨[a],[]⟩:=by unfold argsOk;kernel_rfl
def IsRevT (h:Heap) (a l:Addr) (i:Int):Prop:=∃o,h.get? a=some o∧o.cls=.type "reversed"∧o.data=.fields #[.ref l,rawInt i]
theorem IsRevT.typeIs {s:Shared} {a l:Addr} {i:Int} (x:IsRevT s.heap a l i):s.TypeIs (.ref a) "reversed":=let ⟨o,ho,hc,_⟩:=x;⟨o,ho,hc⟩
section
variable {prog:Program} {w:World} {A:Around} {E:Value→Shared→Prop} {s:Shared}
theorem rv_new (l:Addr) (items:Array Value) (hz:(items.size:Int)<2^63):Meets (Builtin.«reversed.__new__» ⟨[.type "reversed",.ref l],[]⟩) (fun _ R s=>s.heap.IsTuple l items ∧
      ∀tk,R (.ok (.ret (.ref s.heap.objs.size))) {s with heap:=s.heap.push {cls:=.type "reversed",data:=.fields #[.ref l,rawInt ((items.size:Int)-1)]},toks:=tk}) :=
  .of_wp fun prog w A R s h=>by
    obtain ⟨ht,h⟩:=h
    have hT:s.TypeIs (.ref l) "tuple":=let ⟨o,ho,hc,_⟩:=ht;⟨o,ho,hc⟩
    unfold Builtin.«reversed.__new__»
    refine wpAny_bind (wpAny_of_eq (newClass_reversed _) ?_)
    try dsimp only
    refine wpAny_bind (wpAny_of_eq (a:=()) (by first|rfl|kernel_rfl) ?_)
    refine wpAny_bind (wpAny_of_eq (a:=()) (by first|rfl|kernel_rfl) ?_)
    try dsimp only
    refine wpAny_bind (wpAny_specialOf hT zoz ?_)
    try dsimp only
    refine wpAny_bind ?_
    refine wpAny_bind (m:=isInstance (.ref l) (.type "dict")) (wpAny_isInstance (T:="tuple") (b:=false) hT zj5 ?_)
    simp only [Bool.false_eq_true,if_false]
    refine wpAny_bind (wpAny_specialOf hT slot_tuple_getitem.lookup ?_)
    try dsimp only
    rw [if_pos (by decide)]
    refine wpAny_pure ?_
    simp only [Bool.not_true,Bool.false_eq_true,if_false]
    refine wpAny_bind (len_tuple ht hz ?_)
    refine wpAny_bind (m:=asInt? (.int (items.size:Int) s.toks)) (wpAny_of_eq (a:=some (items.size:Int)) rfl ?_)
    try dsimp only
    refine wpAny_bind (m:=Builtin.SmallTypes.newRecord (.type "reversed") [.ref l,rawInt ((items.size:Int)-1)]) ?_
    refine wpAny_newObj_type (data:=.fields #[.ref l,rawInt ((items.size:Int)-1)]) ?_
    exact wpAny_pure ⟨_,rfl,h _⟩
theorem zdt {l:Addr} {items:Array Value} {Q:Value→Shared→Prop} (ht:s.heap.IsTuple l items) (hz:(items.size:Int)<2^63)
    (h:∀tk,Q (.ref s.heap.objs.size) {s with heap:=s.heap.push {cls:=.type "reversed",data:=.fields #[.ref l,rawInt ((items.size:Int)-1)]},toks:=tk}):wpAny (model prog w) A (call (.type "reversed") [.ref l]) Q E s:=by
  refine callType_new zlk (by decide) (F.typeCall_reversed_1 _) (F.newCall_reversed_1 _) (fun obj=>F.args_object_init_2 obj _) F.entry_reversed_new (rv_new l items hz) ⟨ht,fun tk=>?_⟩
  exact ⟨⟨_,Heap.get?_push_size _ rfl,rfl⟩,h tk⟩
theorem zo0 {it l:Addr} {i:Nat} {items:Array Value} {x:Value} {Q:Option Value→Shared→Prop} (hit:IsRevT s.heap it l (i:Int)) (hl:s.heap.IsTuple l items) (hx:items[i]?=some x) (hz:(items.size:Int)<2^63)
    (hQ:∀h' tk,IsRevT h' it l ((i:Int)-1)→Heap.SameBut it s.heap h'→Q (some x) {s with heap:=h',toks:=tk}):wpAny (model prog w) A (pyNext (.ref it)) Q E s:=by
  obtain ⟨o,ho,hc,hd⟩:=id hit
  have hT:s.TypeIs (.ref l) "tuple":=let ⟨o,ho,hc,_⟩:=hl;⟨o,ho,hc⟩
  unfold pyNext
  refine wpAny_bind (wpAny_attempt (wpAny_callSpecial?_slot (name:=Str.ofString "__next__") hit.typeIs zfg
    (wpAny_call_entry zfg hit.typeIs zdz ?_ (zen _))))
  unfold Builtin.«reversed.__next__»
  refine wpAny_bind (wpAny_of_eq (a:=(Value.ref it,[])) rfl ?_)
  try dsimp only
  refine wpAny_bind (wpAny_field ho hd (x:=.ref l) rfl ?_)
  try dsimp only
  refine wpAny_bind (wpAny_field ho hd (x:=rawInt (i:Int)) rfl ?_)
  show wpAny _ _ (if (i:Int)<0 then _ else _) _ _ s
  rw [if_neg (by omega)]
  refine wpAny_bind (wpAny_specialOf hT slot_tuple_getitem.lookup ?_)
  show wpAny _ _ (if (some (Value.builtin "tuple.__getitem__")).isNone=true then _ else _) _ _ s
  rw [if_neg (by simp)]
  refine wpAny_bind (wpAny_mkInt ?_)
  have hi:i<items.size:=(Array.getElem?_eq_some_iff.mp hx).1
  refine wpAny_bind (wpAny_attempt (getItem_tuple (j:=i) hl (by omega) (by omega) (seqIndex_of (by omega) (by omega)) hx ?_))
  refine wpAny_bind (wpAny_field (s:={s with toks:=s.toks+1}) ho hd (x:=rawInt (i:Int)) rfl ?_)
  show wpAny _ _ (setField (.ref it) 1 (rawInt ((i:Int)-1)) >>= fun _=>ret x) _ _ _
  refine wpAny_bind (wpAny_setField ho hd (by simp) ?_)
  refine wpAny_pure ⟨x,rfl,wpAny_pure (hQ _ _ ?_ (Heap.SameBut.update ..))⟩
  exact ⟨_,Heap.get?_update_self _ ho (Obj.isFreed_of_fields (Obj.data_mapFields hd _)),(Obj.cls_mapFields ..).trans hc,by
    rw [Obj.data_mapFields hd];simp⟩
theorem rv_end {it l:Addr} {Q:Option Value→Shared→Prop} (hh:A.handled=none) (hit:IsRevT s.heap it l (-1))
    (hQ:∀h',Heap.ExtBut it s.heap h'→Q none {s with heap:=h'}):wpAny (model prog w) A (pyNext (.ref it)) Q E s:=by
  obtain ⟨o,ho,hc,hd⟩:=id hit
  unfold pyNext
  refine wpAny_bind (wpAny_attempt (wpAny_callSpecial?_slot (name:=Str.ofString "__next__") hit.typeIs zfg
    (wpAny_call_entry zfg hit.typeIs zdz ?_ (zen _))))
  unfold Builtin.«reversed.__next__»
  refine wpAny_bind (wpAny_of_eq (a:=(Value.ref it,[])) rfl ?_)
  try dsimp only
  refine wpAny_bind (wpAny_field ho hd (x:=.ref l) rfl ?_)
  try dsimp only
  refine wpAny_bind (wpAny_field ho hd (x:=rawInt (-1)) rfl ?_)
  show wpAny _ _ (if (-1:Int)<0 then _ else _) _ _ s
  rw [if_pos (by decide)]
  refine wpAny_bind (wpAny_rule ?_)
  refine wpAny_bind ?_
  refine wpAny_bind (m:=setField (.ref it) 1 (rawInt (-1))) (wpAny_setField ho hd (by simp) ?_)
  have ho1:=Heap.get?_update_self (a:=it) (Obj.mapFields fun xs=>xs.setIfInBounds 1 (rawInt (-1))) ho (Obj.isFreed_of_fields (Obj.data_mapFields hd _))
  refine wpAny_setField ho1 (Obj.data_mapFields hd _) (by simp) ?_
  refine wpAny_bind (m:=Builtin.SmallTypes.stopIteration) ?_
  show wpAny _ _ (newExc (.type "StopIteration") [] >>= _) _ _ _
  refine wpAny_bind ?_
  simp only [newExc,newTuple]
  refine wpAny_bind (wpAny_newObj_type ?_ (by size_fits))
  refine wpAny_bind (m:=firstArgMember _ _) (wpAny_of_eq (a:=Value.none) (by first|rfl|(simp only [firstArgMember];rfl)) ?_)
  refine wpAny_newObj_type ?_ (by size_fits)
  simp only [raiseNew]
  refine wpAny_bind (wpAny_handled ?_)
  first|rw [show A.in1.handled=none from hh]|rw [hh]
  refine wpAny_bind (wpAny_pure (wpAny_throw ?_))
  refine wpAny_bind (wpAny_isInstance (T:="StopIteration") (b:=true) ⟨_,Heap.get?_push_size _ rfl,rfl⟩ isSubtype_stop ?_)
  refine wpAny_pure (hQ _ ?_)
  have e1:=(Heap.SameBut.update (h:=s.heap) (a:=it) (f:=Obj.mapFields fun xs=>xs.setIfInBounds 1 (rawInt (-1)))).extBut
  have e2:=(Heap.SameBut.update (h:=s.heap.update it (Obj.mapFields fun xs=>xs.setIfInBounds 1 (rawInt (-1)))) (a:=it) (f:=Obj.mapFields fun xs=>xs.setIfInBounds 0 Value.none)).extBut
  exact fun b ob hb e=>Heap.get?_push_of_some _ (Heap.get?_push_of_some _ (e2 b ob hb (e1 b ob hb e)))
theorem zli {it l:Addr} {i:Int} {Q:Value→Shared→Prop} (hit:IsRevT s.heap it l i) (h:Q (.ref it) s):wpAny (model prog w) A (pyIter (.ref it)) Q E s:=by
  refine wpAny_pyIter_slot hit.typeIs zlj (wpAny_call_entry zlj hit.typeIs zgu ?_ (zhf _))
  show wpAny _ _ (ret (.ref it)) _ _ s
  exact wpAny_pure ⟨_,rfl,"reversed",_,hit.typeIs,zfg.lookup,h⟩
end
noncomputable def Itv (K:PySem.W.Frag) (a:Addr) (n:Nat):It :=
  ⟨fun i H=>i<n∧∃xs,SqT K H a xs∧xs.length=n,fun i H x H'=>H'=H∧∀xs,SqT K H a xs→xs[n-1-i]?=some x,fun i _=>n≤i⟩
theorem zm6 {P:Program} {w:World} {K:PySem.W.Frag} {tg:Expr} (a it:Addr) (n:Nat):Turn P w K tg (Itv K a n) [it] it (fun i h=>i≤n∧IsRevT h it a ((n:Int)-1-(i:Int))) where
  mem:=by simp
  obj:=fun i h st b hb=>by
    have e:b=it:=by simpa using hb
    subst e
    obtain ⟨_,o,e,c,d⟩:=st
    exact ⟨o,e,fun v z=>by rw [d] at z;cases z⟩
  keep:=fun i h h' st k=>let ⟨hi,o,ho,r⟩:=st;⟨hi,o,k it (by simp) o ho,r⟩
  item:=by
    intro X hP hw hK hc i pins s σ H E I hf st hg
    subst hP hw hK
    obtain ⟨hi,xs,hq,hn⟩:=hg
    obtain ⟨its,rv,p,hz⟩:=I.tuple hq
    have hl:=rv.length
    have hx:xs[n-1-i]?=some xs[n-1-i]:=List.getElem?_eq_getElem (by omega)
    obtain ⟨u,hu,ru⟩:=rv.get hx
    obtain ⟨f0,f1,f2,f3,f4,f5⟩:=hf it (by simp)
    have e1:(n:Int)-1-(i:Int)=((n-1-i:Nat):Int):=by omega
    have st2:=st.2
    rw [e1] at st2
    have hs63:=line63
    refine zo0 st2 (show s.heap.IsTuple a its.toArray from p) (x:=u) (by simpa using hu) (by simp only [List.size_toArray];omega) fun h' tk st' sb=>?_
    have I1:Inv X pins σ H {s with heap:=h',toks:=tk}:=I.turned (fun b o hb e=>(sb.2 b hb).trans e) f0 f1 f3 f4 f5
    obtain ⟨o,e,c,d⟩:=id st'
    have e2:((n-1-i:Nat):Int)-1=(n:Int)-1-((i+1:Nat):Int):=by omega
    refine ⟨u,rfl,zmg (s:={s with heap:=h',toks:=tk}) e c d (by decide) ⟨xs[n-1-i],H,I1,ru,⟨rfl,fun ys hy=>by rw [I.tuple_inj hy hq];exact hx⟩,⟨hi,?_⟩,fun b hb=>(hf b hb).1⟩⟩
    rw [←e2]
    exact st'
  done:=by
    intro X hP hw hK hc i pins s σ H E I hf st hg
    subst hP hw hK
    obtain ⟨f0,f1,f2,f3,f4,f5⟩:=hf it (by simp)
    have hg':n≤i:=hg
    have e1:(n:Int)-1-(i:Int)=-1:=by have:=st.1;omega
    have st2:=st.2
    rw [e1] at st2
    exact rv_end (I.ok.hd hc) st2 fun h' eb=>⟨rfl,I.turned (t':=s.toks) (fun b o hb e=>eb b o hb e) f0 f1 f3 f4 f5⟩
  self:=fun _ _ _ _ _ st h=>zli st.2 h
def iRev (K:PySem.W.Frag) (te:TA):TI:=fun σ H R=>te σ H fun vs H1=>∃a xs,vs=[.ref a]∧SqT K H1 a xs∧R (Itv K a xs.length) H1
theorem zjn:bootBuiltins "reversed"=some (.type "reversed"):=by decide +kernel
theorem pi_rev {X:Cx} {tg a:Expr} {ta:TA} {p pos:Pos} (hg:Gl X "reversed") (hm:X.mg "reversed"=none) (ha:PA X [a] ta) (hs:starEach [a] X.env=[(false,eval a X.env)]:=by rfl):PI X tg (.Call (.Name "reversed" p) [a] [] pos) (iRev X.K ta):=by
  intro pins s σ H R I h
  refine Call_ (zhn I hg hm zjn (PyProof.Rows.callWith_type1 (thn (ha pos pins s σ H _ I h) fun us s1 ⟨vs,H1,I1,r1,q1⟩=>?_) hs rfl))
  obtain ⟨b,xs,e,hq,q⟩:=q1
  subst e
  cases r1 with
  | cons r rr =>
    cases rr
    cases r
    obtain ⟨its,rv,pt,hz⟩:=I1.tuple hq
    have hl:=rv.length
    have hs63:=line63
    refine zdt (show s1.heap.IsTuple b its.toArray from pt) (by simp only [List.size_toArray];omega) fun tk=>?_
    have I2:Inv X pins σ H1 {s1 with heap:=s1.heap.push {cls:=.type "reversed",data:=.fields #[.ref b,rawInt ((its.toArray.size:Int)-1)]},toks:=tk}:=I1.kept fun c o e=>Heap.get?_push_of_some _ e
    have st:IsRevT (s1.heap.push {cls:=.type "reversed",data:=.fields #[.ref b,rawInt ((its.toArray.size:Int)-1)]}) s1.heap.objs.size b ((its.toArray.size:Int)-1):=⟨_,Heap.get?_push_size _ rfl,rfl,rfl⟩
    refine zli st ?_
    have e1:(its.toArray.size:Int)-1=(xs.length:Int)-1-((0:Nat):Int):=by simp only [List.size_toArray];omega
    refine ⟨s1.heap.objs.size,[s1.heap.objs.size],_,_,H1,rfl,I2,zm6 b _ xs.length,⟨Nat.zero_le _,by rw [←e1];exact st⟩,fun c hc=>?_,q⟩
    have e:c=s1.heap.objs.size:=by simpa using hc
    subst e
    exact I1.fpOk (Nat.le_refl _) (I1.hok.fresh (Nat.le_refl _))
end EE
namespace E3
open PySem PySem.Spec PyProof.Rows L2 EE
inductive D where
  | non|bl (b:Bool)|int (i:Int)|str (x:Str)|tup (xs:List D)|rol (xs:List D)|ref (a:Addr)|ty (n:String)
inductive O where
  | lst (xs:List D)|dic (kvs:List (Key×D))|exc (C:Addr)|ins (C:Addr) (fs:List (Str×D))
noncomputable abbrev Hp3:=Addr→Option O
noncomputable abbrev St3:=List (Option D)
noncomputable abbrev K3:=D→Hp3→Prop
noncomputable abbrev X3:=Addr→Addr→Hp3→Prop
noncomputable abbrev W3T:=St3→X3
noncomputable def up (S:Hp3) (a:Addr) (o:O):Hp3:=fun b=>if b=a then some o else S b
noncomputable def emp:Hp3:=fun _=>none
theorem zab {S:Hp3} {a:Addr} {o:O}:up S a o a=some o:=if_pos rfl
theorem zbm {S:Hp3} {a b:Addr} {o:O} (h:b≠a):up S a o b=S b:=if_neg h
theorem zgn {S:Hp3} {a:Addr} {o u:O}:up (up S a o) a u=up S a u:=by
  funext b;unfold up;split<;>rfl
theorem ne3 {S:Hp3} {a b:Addr} {o:O} (h:S a=some o) (h':S b=none):a≠b:=by
  intro e;subst e;rw [h] at h';cases h'
theorem zag {S:Hp3} {a b:Addr} {o u:O} (h:S b=some u) (h':S a=none):up S a o b=some u:=by rw [zbm (ne3 h h')];exact h
structure Zt where
  p:Addr→Prop
  base:Hp
instance:CoeFun Zt (fun _=>Addr→Prop):=⟨Zt.p⟩
def ExcOf (a C:Addr):Heap→Prop:=fun h=>∃o,h.get? a=some o∧o.cls=.ref C∧∃xs n,o.data=.fields xs∧n=xs.size
mutual
inductive Rp (K:PySem.W.Frag) (H:Hp):D→V→Prop where
  | non:Rp K H .non .non
  | bl (b:Bool):Rp K H (.bl b) (.bl b)
  | int (i:Int):Rp K H (.int i) (.int i)
  | str (x:Str):Rp K H (.str x) (.str x)
  | ref (a:Addr):Rp K H (.ref a) (.ref a)
  | ty (n:String):Rp K H (.ty n) (.ty n)
  | tup {a:Addr} {xs:List V} {ds:List D}:SqT K H a xs→Rps K H ds xs→Rp K H (.tup ds) (.ref a)
  | rol {a:Addr} {xs:List V} {ds:List D}:ScR K H a xs→Rps K H ds xs→Rp K H (.rol ds) (.ref a)
inductive Rps (K:PySem.W.Frag) (H:Hp):List D→List V→Prop where
  | nil:Rps K H [] []
  | cons {d:D} {v:V} {ds:List D} {vs:List V}:Rp K H d v→Rps K H ds vs→Rps K H (d::ds) (v::vs)
end
structure Kp (Z:Zt) (H H':Hp):Prop where
  tup:∀b xs,H b=some (.tup xs)→H' b=some (.tup xs)
  frz:∀b o u,H b=some (.frz o u)→H' b=some (.frz o u)
  hid:∀b,Z b→H' b=H b
theorem Kp.refl (Z:Zt) (H:Hp):Kp Z H H:=⟨fun _ _ h=>h,fun _ _ _ h=>h,fun _ _=>rfl⟩
theorem Kp.trans {Z:Zt} {H H1 H2:Hp} (a:Kp Z H H1) (b:Kp Z H1 H2):Kp Z H H2 :=
  ⟨fun c xs h=>b.tup _ _ (a.tup _ _ h),fun c o u h=>b.frz _ _ _ (a.frz _ _ _ h),fun c z=>(b.hid c z).trans (a.hid c z)⟩
theorem Kp.sqT {K:PySem.W.Frag} {Z:Zt} {H H':Hp} {a:Addr} {xs:List V} (k:Kp Z H H') (h:SqT K H a xs):SqT K H' a xs:=by
  rcases h with (h|⟨o,h⟩)|h
  · exact .inl (.inl (k.tup _ _ h))
  · exact .inl (.inr ⟨o,k.frz _ _ _ h⟩)
  · exact .inr h
theorem Kp.scR {K:PySem.W.Frag} {Z:Zt} {H H':Hp} {a:Addr} {xs:List V} (k:Kp Z H H') (h:ScR K H a xs):ScR K H' a xs:=by
  rcases h with ⟨o,h⟩|h
  · exact .inl ⟨o,k.frz _ _ _ h⟩
  · exact .inr h
mutual
theorem Rp.mono {K:PySem.W.Frag} {Z:Zt} {H H':Hp} (k:Kp Z H H'):∀{d:D} {v:V},Rp K H d v→Rp K H' d v
  | _,_,.non=>.non
  | _,_,.bl b=>.bl b
  | _,_,.int i=>.int i
  | _,_,.str x=>.str x
  | _,_,.ref a=>.ref a
  | _,_,.ty n=>.ty n
  | _,_,.tup h r=>.tup (k.sqT h) (Rps.mono k r)
  | _,_,.rol h r=>.rol (k.scR h) (Rps.mono k r)
theorem Rps.mono {K:PySem.W.Frag} {Z:Zt} {H H':Hp} (k:Kp Z H H'):∀{ds:List D} {vs:List V},Rps K H ds vs→Rps K H' ds vs
  | _,_,.nil=>.nil
  | _,_,.cons h r=>.cons (Rp.mono k h) (Rps.mono k r)
end
section
variable {K:PySem.W.Frag} {H:Hp}
theorem Rps.len:∀{ds:List D} {vs:List V},Rps K H ds vs→ds.length=vs.length
  | _,_,.nil=>rfl
  | _,_,.cons _ r=>by simp [Rps.len r]
theorem Rps.at:∀{ds:List D} {vs:List V} {i:Nat} {d:D},Rps K H ds vs→ds[i]?=some d→∃v,vs[i]?=some v∧Rp K H d v
  | _,_,_,_,.nil,e=>by simp at e
  | _,_,0,_,.cons r _,e=>by simp at e;subst e;exact ⟨_,rfl,r⟩
  | _,_,i+1,d,.cons _ q,e=>by
    obtain ⟨v,h1,h2⟩:=Rps.at (i:=i) (d:=d) q (by simpa using e)
    exact ⟨v,by simpa using h1,h2⟩
theorem Rps.append:∀{ds es:List D} {vs ws:List V},Rps K H ds vs→Rps K H es ws→Rps K H (ds++es) (vs++ws)
  | _,_,_,_,.nil,s=>s
  | _,_,_,_,.cons r t,s=>.cons r (Rps.append t s)
theorem Rps.take:∀{ds:List D} {vs:List V} (n:Nat),Rps K H ds vs→Rps K H (ds.take n) (vs.take n)
  | _,_,0,_=>.nil
  | _,_,_+1,.nil=>.nil
  | _,_,n+1,.cons r t=>.cons r (Rps.take n t)
theorem Rps.drop:∀{ds:List D} {vs:List V} (n:Nat),Rps K H ds vs→Rps K H (ds.drop n) (vs.drop n)
  | _,_,0,r=>r
  | _,_,_+1,.nil=>.nil
  | _,_,n+1,.cons _ t=>Rps.drop n t
theorem Rps.set {d:D} {v:V} (r:Rp K H d v):∀{ds:List D} {vs:List V} (i:Nat),Rps K H ds vs→Rps K H (ds.set i d) (vs.set i v)
  | _,_,_,.nil=>.nil
  | _,_,0,.cons _ t=>.cons r t
  | _,_,i+1,.cons q t=>.cons q (Rps.set r i t)
theorem Rps.snoc_inv:∀{ds:List D} {d:D} {vs:List V},Rps K H (ds++[d]) vs→∃ws w,vs=ws++[w]∧Rps K H ds ws∧Rp K H d w
  | [],d,_,.cons r .nil=>⟨[],_,rfl,.nil,r⟩
  | _::ds,d,_,.cons r q=>by
    obtain ⟨ws,w,rfl,a,b⟩:=Rps.snoc_inv (ds:=ds) q
    exact ⟨_::ws,w,rfl,.cons r a,b⟩
theorem Rps.ints:∀(ns:List Int),Rps K H (ns.map D.int) (ns.map V.int)
  | []=>.nil
  | n::ns=>.cons (.int n) (Rps.ints ns)
theorem Rps.strs:∀{xs:List Str} {vs:List V},Rps K H (xs.map D.str) vs→vs=xs.map V.str
  | [],_,.nil=>rfl
  | _::xs,_,.cons (.str _) q=>by rw [Rps.strs q];rfl
end
def OR (K:PySem.W.Frag) (H:Hp) (a:Addr):O→Prop
  | .lst ds=>∃vs,H a=some (.lst vs)∧Rps K H ds vs
  | .dic kvs=>∃ws,H a=some (.dK ws)∧Paired (fun (p:Key×D) (q:Key×V)=>p.1=q.1∧Rp K H p.2 q.2) kvs ws
  | .exc C=>H a=some (.ext (ExcOf a C))
  | .ins C fs=>∃dx ws,H a=some (.ins C dx ws)∧Paired (fun (p:Str×D) (q:Str×V)=>p.1=q.1∧Rp K H p.2 q.2) fs ws
structure Rl (K:PySem.W.Frag) (Z:Zt) (S:Hp3) (H:Hp):Prop where
  obj:∀a o,S a=some o→OR K H a o
  hid:∀a,Z a→S a=none∧H a≠none
  old:Kp Z Z.base H
theorem OR.there {K:PySem.W.Frag} {H:Hp} {a:Addr} {o:O} (h:OR K H a o):H a≠none:=by
  cases o with
  | lst ds=>obtain ⟨vs,e,_⟩:=h;rw [e];simp
  | dic ds=>obtain ⟨vs,e,_⟩:=h;rw [e];simp
  | exc C=>have e:H a=_:=h;rw [e];simp
  | ins C fs=>obtain ⟨dx,vs,e,_⟩:=h;rw [e];simp
theorem OR.nofrz {K:PySem.W.Frag} {H:Hp} {a:Addr} {o:O} (h:OR K H a o):(∀xs,H a≠some (.tup xs))∧∀q u,H a≠some (.frz q u):=by
  cases o with
  | lst ds=>obtain ⟨vs,e,_⟩:=h;rw [e];exact ⟨fun _ z=>(nomatch z),fun _ _ z=>(nomatch z)⟩
  | dic ds=>obtain ⟨vs,e,_⟩:=h;rw [e];exact ⟨fun _ z=>(nomatch z),fun _ _ z=>(nomatch z)⟩
  | exc C=>have e:H a=_:=h;rw [e];exact ⟨fun _ z=>(nomatch z),fun _ _ z=>(nomatch z)⟩
  | ins C fs=>obtain ⟨dx,vs,e,_⟩:=h;rw [e];exact ⟨fun _ z=>(nomatch z),fun _ _ z=>(nomatch z)⟩
theorem Rl.fresh {K:PySem.W.Frag} {Z:Zt} {S:Hp3} {H:Hp} {p:Addr} (r:Rl K Z S H) (h:H p=none):S p=none∧¬Z p:=by
  constructor
  · cases e:S p with
    | none=>rfl
    | some o=>exact absurd h (r.obj p o e).there
  · exact fun z=>(r.hid p z).2 h
theorem Kp.new {Z:Zt} {H:Hp} {p:Addr} {o:HO} (h:H p=none) (hz:¬Z p):Kp Z H (upd H p o) :=
  ⟨fun b xs e=>by rw [zal (zb0 e h)];exact e,fun b q u e=>by rw [zal (zb0 e h)];exact e,fun b z=>zal fun e=>hz (e▸z)⟩
theorem Kp.at {K:PySem.W.Frag} {Z:Zt} {S:Hp3} {H:Hp} {p:Addr} {o:O} {q:HO} (r:Rl K Z S H) (h:S p=some o):Kp Z H (upd H p q):=by
  have n:=(r.obj p o h).nofrz
  refine ⟨fun b xs e=>?_,fun b q u e=>?_,fun b z=>?_⟩
  · rw [zal];exact e
    rintro rfl;exact n.1 _ e
  · rw [zal];exact e
    rintro rfl;exact n.2 _ _ e
  · rw [zal]
    rintro rfl
    rw [(r.hid _ z).1] at h
    cases h
theorem OR.keep {K:PySem.W.Frag} {Z:Zt} {H H':Hp} {a:Addr} {o:O} (h:OR K H a o) (k:Kp Z H H') (e:H' a=H a):OR K H' a o:=by
  cases o with
  | lst ds=>obtain ⟨vs,h1,h2⟩:=h;exact ⟨vs,e.trans h1,h2.mono k⟩
  | dic ds=>obtain ⟨vs,h1,h2⟩:=h;exact ⟨vs,e.trans h1,Paired.mapP h2 fun p q z=>⟨z.1,z.2.mono k⟩⟩
  | exc C=>exact e.trans h
  | ins C fs=>obtain ⟨dx,vs,h1,h2⟩:=h;exact ⟨dx,vs,e.trans h1,Paired.mapP h2 fun p q z=>⟨z.1,z.2.mono k⟩⟩
theorem Rl.put {K:PySem.W.Frag} {Z:Zt} {S:Hp3} {H:Hp} {p:Addr} {o:O} {q:HO} (r:Rl K Z S H) (k:Kp Z H (upd H p q)) (hz:¬Z p) (h:OR K (upd H p q) p o):Rl K Z (up S p o) (upd H p q):=by
  refine ⟨fun b u e=>?_,fun b z=>?_,r.old.trans k⟩
  · by_cases hb:b=p
    · subst hb
      rw [zab] at e
      cases e
      exact h
    · rw [zbm hb] at e
      exact (r.obj b u e).keep k (zal hb)
  · have hb:b≠p:=fun e=>hz (e▸z)
    rw [zbm hb,zal hb]
    exact r.hid b z
theorem Rl.notZ {K:PySem.W.Frag} {Z:Zt} {S:Hp3} {H:Hp} {p:Addr} {o:O} (r:Rl K Z S H) (h:S p=some o):¬Z p:=fun z=>by
  rw [(r.hid _ z).1] at h
  cases h
theorem Rl.lay {K:PySem.W.Frag} {Z:Zt} {S:Hp3} {H:Hp} {p:Addr} {q:HO} (r:Rl K Z S H) (h:H p=none):Rl K Z S (upd H p q):=by
  obtain ⟨hs,hz⟩:=r.fresh h
  refine ⟨fun b u e=>(r.obj b u e).keep (Kp.new h hz) (zal (ne3 e hs)),fun b z=>?_,r.old.trans (Kp.new h hz)⟩
  have hb:b≠p:=fun e=>hz (e▸z)
  rw [zal hb]
  exact r.hid b z
def RO (K:PySem.W.Frag) (H:Hp) (o:Option D) (p:Option V):Prop:=∀d,o=some d→∃v,p=some v∧Rp K H d v
abbrev SR (K:PySem.W.Frag) (H:Hp):St3→L2.St→Prop:=Paired (RO K H)
theorem RO.mono {K:PySem.W.Frag} {Z:Zt} {H H':Hp} (k:Kp Z H H') {o:Option D} {p:Option V} (h:RO K H o p):RO K H' o p:=fun d e=>by
  obtain ⟨v,h1,h2⟩:=h d e
  exact ⟨v,h1,h2.mono k⟩
theorem SR.mono {K:PySem.W.Frag} {Z:Zt} {H H':Hp} (k:Kp Z H H') {σ:St3} {τ:L2.St} (h:SR K H σ τ):SR K H' σ τ:=Paired.mapP h fun _ _ q=>q.mono k
theorem SR.at {K:PySem.W.Frag} {H:Hp}:∀{σ:St3} {τ:L2.St} {i:Nat} {d:D},SR K H σ τ→σ[i]?=some (some d)→∃v,τ[i]?=some (some v)∧Rp K H d v
  | _,_,_,_,.nil,e=>by simp at e
  | _,_,0,_,.cons r _,e=>by
    simp at e
    obtain ⟨v,h1,h2⟩:=r _ e
    exact ⟨v,by simp [h1],h2⟩
  | _,_,i+1,d,.cons _ q,e=>by
    obtain ⟨v,h1,h2⟩:=SR.at (i:=i) (d:=d) q (by simpa using e)
    exact ⟨v,by simpa using h1,h2⟩
theorem SR.set {K:PySem.W.Frag} {H:Hp} {d:D} {v:V} (r:Rp K H d v):∀{σ:St3} {τ:L2.St} (i:Nat),SR K H σ τ→SR K H (σ.set i (some d)) (τ.set i (some v))
  | _,_,_,.nil=>.nil
  | _,_,0,.cons _ t=>.cons (fun e he=>by cases he;exact ⟨v,rfl,r⟩) t
  | _,_,i+1,.cons q t=>.cons q (SR.set r i t)
theorem SR.ofRps {K:PySem.W.Frag} {H:Hp}:∀{ds:List D} {vs:List V},Rps K H ds vs→SR K H (ds.map some) (vs.map some)
  | _,_,.nil=>.nil
  | _,_,.cons r t=>.cons (fun e he=>by cases he;exact ⟨_,rfl,r⟩) (SR.ofRps t)
theorem SR.nones {K:PySem.W.Frag} {H:Hp}:∀n:Nat,SR K H (List.replicate n none) (List.replicate n none)
  | 0=>.nil
  | n+1=>.cons (fun d e=>by cases e) (SR.nones n)
theorem zbc {α β:Type} {F:α→β→Prop}:∀{a b:List α} {c d:List β},Paired F a c→Paired F b d→Paired F (a++b) (c++d)
  | _,_,_,_,.nil,s=>s
  | _,_,_,_,.cons r t,s=>.cons r (zbc t s)
noncomputable abbrev TE3:=St3→Hp3→K3→Prop
noncomputable abbrev TT3:=St3→Hp3→(Bool→Hp3→Prop)→Prop
noncomputable abbrev TA3:=St3→Hp3→(List D→Hp3→Prop)→Prop
structure Ends3 where
  nx:St3→Hp3→Prop
  rt:K3
  bk:St3→Hp3→Prop:=fun _ _=>False
  ct:St3→Hp3→Prop:=fun _ _=>False
noncomputable abbrev TS3:=Ends3→St3→Hp3→Prop
section
variable (K:PySem.W.Frag) (Z:Zt)
def CK (H:Hp) (Q3:K3) (Q:VK):Prop:=∀d S v H',Kp Z H H'→Rp K H' d v→Rl K Z S H'→Q3 d S→Q v H'
def CT (H:Hp) (Q3:Bool→Hp3→Prop) (Q:Bool→Hp→Prop):Prop:=∀b S H',Kp Z H H'→Rl K Z S H'→Q3 b S→Q b H'
def CA (H:Hp) (Q3:List D→Hp3→Prop) (Q:List V→Hp→Prop):Prop:=∀ds S vs H',Kp Z H H'→Rps K H' ds vs→Rl K Z S H'→Q3 ds S→Q vs H'
def CS (H:Hp) (Q3:St3→Hp3→Prop) (Q:L2.St→Hp→Prop):Prop:=∀σ S τ H',Kp Z H H'→SR K H' σ τ→Rl K Z S H'→Q3 σ S→Q τ H'
structure CD (H:Hp) (D3:Ends3) (D:Ends):Prop where
  nx:CS K Z H D3.nx D.nx
  bk:CS K Z H D3.bk D.bk
  ct:CS K Z H D3.ct D.ct
  rt:CK K Z H D3.rt D.rt
inductive lE (t:TE3) (τ:L2.St) (H:Hp) (Q:VK):Prop where
  | mk (σ:St3) (S:Hp3) (Q3:K3) (hs:SR K H σ τ) (hr:Rl K Z S H) (ht:t σ S Q3) (hc:CK K Z H Q3 Q)
inductive lT (t:TT3) (τ:L2.St) (H:Hp) (Q:Bool→Hp→Prop):Prop where
  | mk (σ:St3) (S:Hp3) (Q3:Bool→Hp3→Prop) (hs:SR K H σ τ) (hr:Rl K Z S H) (ht:t σ S Q3) (hc:CT K Z H Q3 Q)
inductive lA (t:TA3) (τ:L2.St) (H:Hp) (Q:List V→Hp→Prop):Prop where
  | mk (σ:St3) (S:Hp3) (Q3:List D→Hp3→Prop) (hs:SR K H σ τ) (hr:Rl K Z S H) (ht:t σ S Q3) (hc:CA K Z H Q3 Q)
inductive lS (t:TS3) (D:Ends) (τ:L2.St) (H:Hp):Prop where
  | mk (D3:Ends3) (σ:St3) (S:Hp3) (hs:SR K H σ τ) (hr:Rl K Z S H) (ht:t D3 σ S) (hc:CD K Z H D3 D)
end
variable {K:PySem.W.Frag} {Z:Zt}
theorem CK.mono {H H':Hp} {Q3:K3} {Q:VK} (k:Kp Z H H') (h:CK K Z H Q3 Q):CK K Z H' Q3 Q:=fun d S v H2 k2=>h d S v H2 (k.trans k2)
theorem CT.mono {H H':Hp} {Q3:Bool→Hp3→Prop} {Q:Bool→Hp→Prop} (k:Kp Z H H') (h:CT K Z H Q3 Q):CT K Z H' Q3 Q:=fun d S H2 k2=>h d S H2 (k.trans k2)
theorem CS.mono {H H':Hp} {Q3:St3→Hp3→Prop} {Q:L2.St→Hp→Prop} (k:Kp Z H H') (h:CS K Z H Q3 Q):CS K Z H' Q3 Q:=fun d S v H2 k2=>h d S v H2 (k.trans k2)
theorem CD.mono {H H':Hp} {D3:Ends3} {D:Ends} (k:Kp Z H H') (h:CD K Z H D3 D):CD K Z H' D3 D:=⟨h.nx.mono k,h.bk.mono k,h.ct.mono k,h.rt.mono k⟩
structure FlyT (h:Heap) (a C T:Addr):Prop where
  ne:T≠a
  exc:∃oe vs a0,h.get? a=some oe∧oe.cls=.ref C∧oe.data=.fields vs∧vs[0]?=some a0∧vs[1]?=some (.ref T)
  tb:∃oT ts,h.get? T=some oT∧oT.data=.fields ts∧ts[3]?=some .none
noncomputable def CX1 (P:Program) (w:World):CXT:=fun outer H s E e s'=>∃(a C T:Addr) (H':Hp),e=.ref a∧s'.os=s.os∧AllBare s'.gens∧Un (frs outer) [] H H' s.heap s'.heap∧HOk P w H' s'.heap ∧
  FlyT s'.heap a C T∧H' a=none∧H' T=none∧s.heap.get? a=none∧s.heap.get? T=none∧E (.ref C) (some a) H'
def PassesAt (CX:CXT) (X:Cx) (E:XK) (τ:L2.St):Prop:=∀(pins:List (Addr×Obj)) (H:Hp) (s:Shared) (e:Value) (s':Shared),Inv X pins τ H s→CX X.stack H s E e s'→X.xe e s'
def RaisesAt (X:Cx) (E:XK) (τ:L2.St):Prop:=∀(pins:List (Addr×Obj)) (H:Hp) (s s3:Shared) (e C:Addr) (args:List Value),Inv X pins τ H s→Heap.MadeExcOf s.heap s3.heap e (.ref C) args→s3.os=s.os→s3.gens=s.gens→E (.ref C) (some e) H→X.xe (.ref e) s3
theorem pass1 {P:Program} {w:World} {X:Cx} {τ:L2.St}:PassesAt (CX1 P w) X E0 τ:=fun _ _ _ _ _ _ h=>by
  obtain ⟨a,C,T,H',_,_,_,_,_,_,_,_,_,_,z⟩:=h
  exact z.elim
abbrev NoX:W3T:=fun _ _ _ _=>False
def CE3 (K:PySem.W.Frag) (Z:Zt) (H:Hp) (W3:X3) (E:XK):Prop:=∀C a S H',Kp Z H H'→Rl K Z S H'→H' a=none→W3 C a S→E (.ref C) (some a) H'
structure ZX (X:Cx) (W3:W3T) where
  z:Zt
  E:L2.St→XK
  pass:∀τ,PassesAt (CX1 X.prog X.w) X (E τ) τ
  rz:∀τ,RaisesAt X (E τ) τ
  ce:∀σ τ C a S H,SR X.K H σ τ→Rl X.K z S H→H a=none→W3 σ C a S→E τ (.ref C) (some a) H
noncomputable def ZX.no (X:Cx) (z:Zt):ZX X NoX:=⟨z,fun _=>E0,fun _=>pass1,fun _ _ _ _ _ _ _ _ _ _ _ _ z=>z.elim,fun _ _ _ _ _ _ _ _ _ z=>z.elim⟩
def PE3 (X:Cx) (W3:W3T) (e:Expr) (t:TE3):Prop:=∀Z:ZX X W3,PE X e (lE X.K Z.z t)
def PT3 (X:Cx) (W3:W3T) (e:Expr) (t:TT3):Prop:=∀Z:ZX X W3,PT X e (lT X.K Z.z t)
def PW3 (X:Cx) (W3:W3T) (e:Expr) (t:TT3):Prop:=∀Z:ZX X W3,PW X e (lT X.K Z.z t)
def PA3 (X:Cx) (W3:W3T) (es:List Expr) (t:TA3):Prop:=∀Z:ZX X W3,PA X es (lA X.K Z.z t)
def PS3 (X:Cx) (W3:W3T) (st:Stmt) (t:TS3):Prop:=∀Z:ZX X W3,PS X st (lS X.K Z.z t)
def PSs3 (X:Cx) (W3:W3T) (st:List Stmt) (t:TS3):Prop:=∀Z:ZX X W3,PSs X st (lS X.K Z.z t)
theorem PE.imp {X:Cx} {e:Expr} {t u:TE} (h:PE X e t) (f:∀σ H Q,u σ H Q→t σ H Q):PE X e u:=fun pins s σ H Q I q=>h pins s σ H Q I (f _ _ _ q)
theorem PT.imp {X:Cx} {e:Expr} {t u:TT} (h:PT X e t) (f:∀σ H Q,u σ H Q→t σ H Q):PT X e u:=fun pins s σ H Q I q=>h pins s σ H Q I (f _ _ _ q)
theorem PW.imp {X:Cx} {e:Expr} {t u:TT} (h:PW X e t) (f:∀σ H Q,u σ H Q→t σ H Q):PW X e u:=fun w pins s σ H Q I q=>h w pins s σ H Q I (f _ _ _ q)
theorem PA.imp {X:Cx} {e:List Expr} {t u:TA} (h:PA X e t) (f:∀σ H Q,u σ H Q→t σ H Q):PA X e u:=fun p pins s σ H Q I q=>h p pins s σ H Q I (f _ _ _ q)
theorem PS.imp {X:Cx} {st:Stmt} {t u:TS} (h:PS X st t) (f:∀D σ H,u D σ H→t D σ H):PS X st u:=fun pins s σ H D I q=>h pins s σ H D I (f _ _ _ q)
theorem PSs.imp {X:Cx} {st:List Stmt} {t u:TS} (h:PSs X st t) (f:∀D σ H,u D σ H→t D σ H):PSs X st u:=fun pins s σ H D I q=>h pins s σ H D I (f _ _ _ q)
end E3
namespace E3
open PySem PySem.Spec PyProof.Rows L2 EE
section
variable {X:Cx} {W3:W3T} {a b c e:Expr} {es:List Expr} {pos:Pos}
def v3 (i:Nat):TE3:=fun σ S Q=>∃d,σ[i]?=some (some d)∧Q d S
def c3 (d:D):TE3:=fun _ S Q=>Q d S
theorem e_var {i:Nat} (h:PE X e (tVar i)):PE3 X W3 e (v3 i):=fun Z=>PE.imp h fun τ H Q z_1=>by
  obtain ⟨σ,S,Q3,hs,hr,⟨d,e,q⟩,c⟩:=z_1
  obtain ⟨v,h1,h2⟩:=hs.at e
  exact ⟨v,h1,c d S v H (Kp.refl _ _) h2 hr q⟩
theorem e_v (i:Nat) {x:Str} {pos:Pos} (hN:X.N[i]?=some x:=by rfl) (hv:Vis X.env.scope x:=by first|exact Or.inl rfl|exact Or.inr (Or.inl rfl)|exact Or.inr (Or.inr rfl)) (hd:(x==("__debug__":Str))=false:=by decide)
    (hcd:(x==("__classdict__":Str))=false:=by decide):PE3 X W3 (.Name x pos) (v3 i):=e_var (pe_var hN hv hd hcd)
theorem zks {v:V} {d:D} (h:PE X e (tC v)) (r:∀H,Rp X.K H d v):PE3 X W3 e (c3 d):=fun Z=>PE.imp h fun τ H Q z_2=>by obtain ⟨σ,S,Q3,hs,hr,q,c⟩:=z_2;exact c d S v H (Kp.refl _ _) (r H) hr q
theorem zae {i j}:PE3 X W3 (.Constant (.int i) j pos) (c3 (.int i)):=zks pe_int fun _=>.int _
theorem e_bl {b j}:PE3 X W3 (.Constant (.bool b) j pos) (c3 (.bl b)):=zks pe_bl fun _=>.bl _
theorem zdp {j}:PE3 X W3 (.Constant .none j pos) (c3 .non):=zks pe_non fun _=>.non
theorem zas {x j}:PE3 X W3 (.Constant (.str x) j pos) (c3 (.str x)):=zks pe_str fun _=>.str _
theorem zpw {x:Str} {i:Int} (h:∃t,X.mg x=some (.int i t)) (hg:Gl X x) (hd:(x==("__debug__":Str))=false:=by decide):PE3 X W3 (.Name x pos) (c3 (.int i)) :=
  zks (znl h hg hd) fun _=>.int _
theorem zc6 {x:Str} {C:Addr} (h:X.mg x=some (.ref C)) (hg:Gl X x) (hd:(x==("__debug__":Str))=false:=by decide):PE3 X W3 (.Name x pos) (c3 (.ref C)) :=
  zks (zlr (v:=.ref C) hg h rfl hd) fun _=>.ref _
noncomputable abbrev R3:=D→D→Hp3→K3→Prop
def Dn2 (K:PySem.W.Frag) (r3:R3) (r:R2):Prop:=∀(Z:Zt) x y S Q3 v w H Q,Rp K H x v→Rp K H y w→Rl K Z S H→r3 x y S Q3→CK K Z H Q3 Q→r v w H Q
def o3 (r:R3) (ta tb:TE3):TE3:=fun σ S Q=>ta σ S fun x S1=>tb σ S1 fun y S2=>r x y S2 Q
def test3 (t:TE3):TT3:=fun σ S Q=>t σ S fun x S'=>∃k,x=.bl k∧Q k S'
variable {ta tb tc:TE3} {tA tB:TT3} {t:TA3}
theorem zgv {K:PySem.W.Frag} {Z:Zt} {r3:R3} {r:R2} (hd:Dn2 K r3 r) {τ:L2.St} {H:Hp} {Q:VK} (h:lE K Z (o3 r3 ta tb) τ H Q):tOp r (lE K Z ta) (lE K Z tb) τ H Q:=by
  obtain ⟨σ,S,Q3,hs,hr,ht,hc⟩:=h
  refine ⟨σ,S,_,hs,hr,ht,fun x S1 v H1 k1 r1 l1 q1=>?_⟩
  refine ⟨σ,S1,_,hs.mono k1,l1,q1,fun y S2 w H2 k2 r2 l2 q2=>?_⟩
  exact hd Z x y S2 Q3 v w H2 Q (r1.mono k2) r2 l2 q2 (hc.mono (k1.trans k2))
theorem e_op {op:Operator} {r3:R3} {r:R2} (ho:OpR X (binaryOp op) r) (hd:Dn2 X.K r3 r) (ha:PE3 X W3 a ta) (hb:PE3 X W3 b tb):PE3 X W3 (.BinOp a op b pos) (o3 r3 ta tb) :=
  fun Z=>PE.imp (pe_op ho (ha Z) (hb Z)) fun _ _ _ h=>zgv hd h
theorem e_cmp {op:CmpOp} {r3:R3} {r:R2} (ho:OpR X (compareOp op) r) (hd:Dn2 X.K r3 r) (ha:PE3 X W3 a ta) (hb:PE3 X W3 b tb) (hm:behindInMarks op b=false):PE3 X W3 (.Compare a [op] [b] pos) (o3 r3 ta tb) :=
  fun Z=>PE.imp (zpg ho (ha Z) (hb Z) hm) fun _ _ _ h=>zgv hd h
theorem zg8 {K:PySem.W.Frag} {Z:Zt} {t3:TE3} {t2:TE} (hd:∀τ H Q,lE K Z t3 τ H Q→t2 τ H Q) {τ:L2.St} {H:Hp} {Q:Bool→Hp→Prop} (h:lT K Z (test3 t3) τ H Q):tTest t2 τ H Q:=by
  obtain ⟨σ,S,Q3,hs,hr,ht,hc⟩:=h
  refine hd τ H _ ⟨σ,S,_,hs,hr,ht,fun x S1 v H1 k1 r1 l1 q1=>?_⟩
  obtain ⟨k,rfl,q⟩:=q1
  cases r1
  exact ⟨k,rfl,hc k S1 H1 k1 l1 q⟩
theorem za1 {op:CmpOp} {r3:R3} {r:R2} (ho:OpR X (compareOp op) r) (hd:Dn2 X.K r3 r) (ha:PE3 X W3 a ta) (hb:PE3 X W3 b tb) (hm:behindInMarks op b=false):PT3 X W3 (.Compare a [op] [b] pos) (test3 (o3 r3 ta tb)) :=
  fun Z=>PT.imp (zo4 ho (ha Z) (hb Z) hm) fun _ _ _ h=>zg8 (fun _ _ _ h=>zgv hd h) h
theorem e_ix {r3:R3} {r:R2} (ho:IxR X r) (hd:Dn2 X.K r3 r) (ha:PE3 X W3 a ta) (hb:PE3 X W3 b tb) (hs:PlainIx b):PE3 X W3 (.Subscript a b pos) (o3 r3 ta tb) :=
  fun Z=>PE.imp (pe_ix ho (ha Z) (hb Z) hs) fun _ _ _ h=>zgv hd h
theorem zjs (h:PE3 X W3 e ta) (he:∀whole,isTrue e X.env whole=(do let v ←whole;standAt e.pos;holding [v] (truthy v)):=by intro _;rfl):PT3 X W3 e (test3 ta) :=
  fun Z=>PT.imp (pt_val (h Z) he) fun _ _ _ q=>zg8 (t2:=lE X.K Z.z ta) (fun _ _ _ z=>z) q
def and3 (t u:TT3):TT3:=fun σ S Q=>t σ S fun c S1=>if c=true then u σ S1 Q else Q false S1
def not3 (t:TT3):TT3:=fun σ S Q=>t σ S fun c S1=>Q (!c) S1
def if3 (t:TT3) (ta tb:TE3):TE3:=fun σ S Q=>t σ S fun c S1=>if c=true then ta σ S1 Q else tb σ S1 Q
variable {rest:List Expr}
theorem ze2 (ha:PT3 X W3 a tA):PW3 X W3 (.BoolOp .And [a] pos) tA:=fun Z=>zo2 (ha Z)
theorem w_and (ha:PT3 X W3 a tA) (hb:PW3 X W3 (.BoolOp .And (b::rest) pos) tB):PW3 X W3 (.BoolOp .And (a::b::rest) pos) (and3 tA tB):=fun Z=>PW.imp (pw_and (ha Z) (hb Z)) fun τ H Q z_4=>by
  obtain ⟨σ,S,Q3,hs,hr,ht,hc⟩:=z_4
  refine ⟨σ,S,_,hs,hr,ht,fun c S1 H1 k1 l1 q1=>?_⟩
  cases c with
  | true=>exact ⟨σ,S1,Q3,hs.mono k1,l1,q1,hc.mono k1⟩
  | false=>exact hc false S1 H1 k1 l1 q1
theorem PW3.pt (h:PW3 X W3 e tA):PT3 X W3 e tA:=fun Z=>(h Z).pt
theorem t_not (ha:PT3 X W3 a tA):PT3 X W3 (.UnaryOp .Not a pos) (not3 tA):=fun Z=>PT.imp (pt_not (ha Z)) fun τ H Q z_6=>by obtain ⟨σ,S,Q3,hs,hr,ht,hc⟩:=z_6;exact ⟨σ,S,_,hs,hr,ht,fun c S1 H1 k1 l1 q1=>hc (!c) S1 H1 k1 l1 q1⟩
theorem zdr (hc:PT3 X W3 c tA) (ha:PE3 X W3 a ta) (hb:PE3 X W3 b tb):PE3 X W3 (.IfExp c a b pos) (if3 tA ta tb):=fun Z=>PE.imp (znk (hc Z) (ha Z) (hb Z)) fun τ H Q z_10=>by
  obtain ⟨σ,S,Q3,hs,hr,ht,hc⟩:=z_10
  refine ⟨σ,S,_,hs,hr,ht,fun c S1 H1 k1 l1 q1=>?_⟩
  cases c with
  | true=>exact ⟨σ,S1,Q3,hs.mono k1,l1,q1,hc.mono k1⟩
  | false=>exact ⟨σ,S1,Q3,hs.mono k1,l1,q1,hc.mono k1⟩
def IsL (S:Hp3) (x:D) (ds:List D):Prop:=(∃a,x=.ref a∧S a=some (.lst ds))∨x=.rol ds
theorem IsL.down {K:PySem.W.Frag} {Z:Zt} {S:Hp3} {H:Hp} {x:D} {ds:List D} {v:V} (h:IsL S x ds) (r:Rp K H x v) (l:Rl K Z S H):∃a vs,v=.ref a∧SqL K H a vs∧Rps K H ds vs:=by
  rcases h with ⟨a,rfl,e⟩|rfl
  · cases r
    obtain ⟨vs,h1,h2⟩:=l.obj a _ e
    exact ⟨a,vs,rfl,SqL.of h1,h2⟩
  · cases r with
    | rol h1 h2=>exact ⟨_,_,rfl,h1.sq,h2⟩
def Tru (S:Hp3):D→Bool→Prop
  | .non,k=>k=false
  | .bl b,k=>k=b
  | .int i,k=>k=(i != 0)
  | .str y,k=>y.length≤sizeLine∧k=((y.length:Int) != 0)
  | .tup ds,k=>k=!ds.isEmpty
  | .rol ds,k=>k=!ds.isEmpty
  | .ref a,k=>(∃ds,S a=some (.lst ds)∧k=!ds.isEmpty)∨∃kvs,S a=some (.dic kvs)∧k=!kvs.isEmpty
  | .ty _,_=>False
theorem Rps.empty {K:PySem.W.Frag} {H:Hp} {ds:List D} {vs:List V} (r:Rps K H ds vs):ds.isEmpty=vs.isEmpty:=by cases r<;>rfl
theorem Tru.down {K:PySem.W.Frag} {Z:Zt} {S:Hp3} {H:Hp} {x:D} {v:V} {k:Bool} (h:Tru S x k) (r:Rp K H x v) (l:Rl K Z S H):TruV K v H k:=by
  cases r with
  | non=>exact h
  | bl b=>exact h
  | int i=>exact h
  | str x=>exact h
  | ty n=>exact h
  | tup h1 h2=>exact .inr (.inl ⟨_,h1,by rw [←h2.empty];exact h⟩)
  | rol h1 h2=>exact .inl ⟨_,h1.sq,by rw [←h2.empty];exact h⟩
  | ref a =>
    rcases h with ⟨ds,e,q⟩|⟨kvs,e,q⟩
    · obtain ⟨vs,h1,h2⟩:=l.obj a _ e
      exact .inl ⟨vs,SqL.of h1,by rw [←h2.empty];exact q⟩
    · obtain ⟨ws,h1,h2⟩:=l.obj a _ e
      refine .inr (.inr ⟨ws,h1,?_⟩)
      cases h2<;>exact q
def truth3 (ta:TE3):TT3:=fun σ S Q=>ta σ S fun x S1=>∃k,Tru S1 x k∧Q k S1
theorem zh6 (ha:PE3 X W3 a ta) (he:∀whole,isTrue a X.env whole=(do let v ←whole;standAt a.pos;holding [v] (truthy v))):PT3 X W3 a (truth3 ta):=fun Z=>PT.imp (znb (ha Z) he) fun τ H Q z_11=>by
  obtain ⟨σ,S,Q3,hs,hr,ht,hc⟩:=z_11
  refine ⟨σ,S,_,hs,hr,ht,fun x S1 v H1 k1 r1 l1 q1=>?_⟩
  obtain ⟨k,h,q⟩:=q1
  exact ⟨k,h.down r1 l1,hc k S1 H1 k1 l1 q⟩
def nil3:TA3:=fun _ S Q=>Q [] S
def cons3 (ta:TE3) (tr:TA3):TA3:=fun σ S Q=>ta σ S fun x S1=>tr σ S1 fun xs S2=>Q (x::xs) S2
theorem zad:PA3 X W3 [] nil3:=fun Z=>PA.imp pa_nil fun τ H Q z_12=>by obtain ⟨σ,S,Q3,hs,hr,ht,hc⟩:=z_12;exact hc [] S [] H (Kp.refl _ _) .nil hr ht
theorem zaa (ha:PE3 X W3 e ta) (hr:PA3 X W3 es t) (hs:starEach (e::es) X.env=(false,eval e X.env)::starEach es X.env:=by rfl):PA3 X W3 (e::es) (cons3 ta t):=fun Z=>PA.imp (zpi (ha Z) (hr Z) hs) fun τ H Q z_13=>by
  obtain ⟨σ,S,Q3,hs,hr,ht,hc⟩:=z_13
  refine ⟨σ,S,_,hs,hr,ht,fun x S1 v H1 k1 r1 l1 q1=>?_⟩
  exact ⟨σ,S1,_,hs.mono k1,l1,q1,fun xs S2 vs H2 k2 r2 l2 q2=>hc (x::xs) S2 (v::vs) H2 (k1.trans k2) (.cons (r1.mono k2) r2) l2 q2⟩
def newL (S:Hp3) (ds:List D) (Q:K3):Prop:=∀p,S p=none→Q (.ref p) (up S p (.lst ds))
theorem newL.down {K:PySem.W.Frag} {Z:Zt} {S:Hp3} {H:Hp} {ds:List D} {vs:List V} {Q3:K3} {Q:VK} (h:newL S ds Q3) (r:Rps K H ds vs) (l:Rl K Z S H) (c:CK K Z H Q3 Q):∀p,H p=none→Q (.ref p) (upd H p (.lst vs)):=fun p hp=>by
  obtain ⟨hs,hz⟩:=l.fresh hp
  have k:=Kp.new (o:=HO.lst vs) hp hz
  exact c _ _ _ _ k (.ref p) (l.put (o:=.lst ds) k hz ⟨vs,zat,r.mono k⟩) (h p hs)
theorem tup.down {K:PySem.W.Frag} {Z:Zt} {S:Hp3} {H:Hp} {ds:List D} {vs:List V} {Q3:K3} {Q:VK} (h:Q3 (.tup ds) S) (r:Rps K H ds vs) (l:Rl K Z S H) (c:CK K Z H Q3 Q):∀p,H p=none→Q (.ref p) (upd H p (.tup vs)):=fun p hp=>by
  obtain ⟨hs,hz⟩:=l.fresh hp
  have k:=Kp.new (o:=HO.tup vs) hp hz
  exact c _ _ _ _ k (.tup (SqT.of zat) (r.mono k)) (l.lay hp) h
def tup3 (t:TA3):TE3:=fun σ S Q=>t σ S fun xs S1=>xs.length≤sizeLine∧Q (.tup xs) S1
def lst3 (t:TA3):TE3:=fun σ S Q=>t σ S fun xs S1=>xs.length≤sizeLine∧newL S1 xs Q
theorem zbr {x1} (h:PA3 X W3 es t):PE3 X W3 (.Tuple es x1 pos) (tup3 t):=fun Z=>PE.imp (pe_tup (h Z)) fun τ H Q ⟨σ,S,Q3,hs,hr,ht,hc⟩ =>
  ⟨σ,S,_,hs,hr,ht,fun xs S1 vs H1 k1 r1 l1 z_14=>by obtain ⟨z,q⟩:=z_14;exact ⟨by rw [←r1.len];exact z,tup.down q r1 l1 (hc.mono k1)⟩⟩
theorem zdq (h:PA3 X W3 es t):PE3 X W3 (.List es pos) (lst3 t):=fun Z=>PE.imp (pe_lst (h Z)) fun τ H Q ⟨σ,S,Q3,hs,hr,ht,hc⟩ =>
  ⟨σ,S,_,hs,hr,ht,fun xs S1 vs H1 k1 r1 l1 z_15=>by obtain ⟨z,q⟩:=z_15;exact ⟨by rw [←r1.len];exact z,newL.down q r1 l1 (hc.mono k1)⟩⟩
def dnew3:TE3:=fun _ S Q=>∀p,S p=none→Q (.ref p) (up S p (.dic []))
theorem e_dnew:PE3 X W3 (.Dict [] [] pos) dnew3:=fun Z=>PE.imp znm fun τ H Q ⟨σ,S,Q3,hs,hr,ht,hc⟩=>fun p hp=>by
  obtain ⟨h1,hz⟩:=hr.fresh hp
  have k:=Kp.new (o:=HO.dK []) hp hz
  exact hc _ _ _ _ k (.ref p) (hr.put (o:=.dic []) k hz ⟨[],zat,.nil⟩) (ht p h1)
def DnC (K:PySem.W.Frag) (r3:List D→Hp3→K3→Prop) (r:List V→Hp→VK→Prop):Prop:=∀(Z:Zt) ds S Q3 vs H Q,Rps K H ds vs→Rl K Z S H→r3 ds S Q3→CK K Z H Q3 Q→r vs H Q
def cb3 (r:List D→Hp3→K3→Prop) (t:TA3):TE3:=fun σ S Q=>t σ S fun vs S1=>r vs S1 Q
variable {x:Str} {p:Pos} {id T:String} {r3:List D→Hp3→K3→Prop} {r:List V→Hp→VK→Prop}
theorem zmy {K:PySem.W.Frag} {Z:Zt} (hd:DnC K r3 r) {τ:L2.St} {H:Hp} {Q:VK} (h:lE K Z (cb3 r3 t) τ H Q):tCB r (lA K Z t) τ H Q:=by
  obtain ⟨σ,S,Q3,hs,hr,ht,hc⟩:=h
  exact ⟨σ,S,_,hs,hr,ht,fun ds S1 vs H1 k1 r1 l1 q1=>hd Z ds S1 Q3 vs H1 Q r1 l1 q1 (hc.mono k1)⟩
theorem za3 (hc:CallR X (.builtin id) r) (hd:DnC X.K r3 r) (hg:Gl X x) (hm:X.mg x=none) (hv:bootBuiltins x=some (.builtin id)) (ha:PA3 X W3 (e::es) t) (hn:x≠"__name__":=by decide) (hdb:(x==("__debug__":Str))=false:=by decide)
    (he:starEach (e::es) X.env=(false,eval e X.env)::starEach es X.env:=by rfl) (hpl:(backTo pos (starEach es X.env)).any (·.1)=false:=by rfl):PE3 X W3 (.Call (.Name x p) (e::es) [] pos) (cb3 r3 t) :=
  fun Z=>PE.imp (znp hc hg hm hv (ha Z) hn hdb he hpl) fun _ _ _ h=>zmy hd h
theorem zc7 (hc:CallR X (.type T) r) (hd:DnC X.K r3 r) (hg:Gl X x) (hm:X.mg x=none) (hv:bootBuiltins x=some (.type T)) (ha:PA3 X W3 (e::es) t) (hn:x≠"__name__":=by decide) (hdb:(x==("__debug__":Str))=false:=by decide)
    (he:starEach (e::es) X.env=(false,eval e X.env)::starEach es X.env:=by rfl) (hpl:(backTo pos (starEach es X.env)).any (·.1)=false:=by rfl):PE3 X W3 (.Call (.Name x p) (e::es) [] pos) (cb3 r3 t) :=
  fun Z=>PE.imp (zls hc hg hm hv (ha Z) hn hdb he hpl) fun _ _ _ h=>zmy hd h
def DnM (K:PySem.W.Frag) (r3:D→List D→Hp3→K3→Prop) (r:V→List V→Hp→VK→Prop):Prop:=∀(Z:Zt) x ds S Q3 v vs H Q,Rp K H x v→Rps K H ds vs→Rl K Z S H→r3 x ds S Q3→CK K Z H Q3 Q→r v vs H Q
def TyD (T:String) (x:D) (S:Hp3):Prop:=(T="str"∧∃z,x=.str z)∨(T="list"∧∃ds,IsL S x ds)∨(T="dict"∧∃a kvs,x=.ref a∧S a=some (.dic kvs))
theorem TyD.down {K:PySem.W.Frag} {Z:Zt} {S:Hp3} {H:Hp} {T:String} {x:D} {v:V} (h:TyD T x S) (r:Rp K H x v) (l:Rl K Z S H):tyV K T v H:=by
  rcases h with ⟨rfl,z,rfl⟩|⟨rfl,ds,h⟩|⟨rfl,a,kvs,rfl,e⟩
  · cases r;rfl
  · obtain ⟨a,vs,rfl,h1,_⟩:=h.down r l
    exact .inl ⟨rfl,vs,h1⟩
  · cases r
    obtain ⟨ws,h1,_⟩:=l.obj a _ e
    exact .inr (.inr (.inl ⟨rfl,.inl ⟨ws,h1⟩⟩))
def bm03 (T:String) (r:D→List D→Hp3→K3→Prop) (to:TE3):TE3:=fun σ S Q=>to σ S fun x S1=>TyD T x S1∧r x [] S1 Q
def bm3 (T:String) (r:D→List D→Hp3→K3→Prop) (to:TE3) (t:TA3):TE3:=fun σ S Q=>to σ S fun x S1=>TyD T x S1∧t σ S1 fun xs S2=>r x xs S2 Q
variable {o:Expr} {to:TE3} {name:Str} {apos cpos:Pos} {m3:D→List D→Hp3→K3→Prop} {m:V→List V→Hp→VK→Prop}
theorem zet (pa:PlainAttrs T) (slot:Slot T name id) (hty:typeOf (.builtin id)=pure (.type "method_descriptor")) (hm:MtR X id m) (hd:DnM X.K m3 m) (ho:PE3 X W3 o to)
    (hbase:attributeBase o name X.env (eval o X.env)=eval o X.env:=by rfl) (hline:(apos.endLine==cpos.line)=true:=by rfl):PE3 X W3 (.Call (.Attribute o name apos) [] [] cpos) (bm03 T m3 to) :=
  fun Z=>PE.imp (pe_bm0 pa slot hty hm (ho Z) hbase hline) fun τ H Q ⟨σ,S,Q3,hs,hr,ht,hc⟩ =>
    ⟨σ,S,_,hs,hr,ht,fun x S1 v H1 k1 r1 l1 z_16=>by obtain ⟨ty,q⟩:=z_16;exact ⟨ty.down r1 l1,hd Z.z x [] S1 Q3 v [] H1 Q r1 .nil l1 q (hc.mono k1)⟩⟩
theorem e_bm (pa:PlainAttrs T) (slot:Slot T name id) (hty:typeOf (.builtin id)=pure (.type "method_descriptor")) (hm:MtR X id m) (hd:DnM X.K m3 m) (ho:PE3 X W3 o to) (ha:PA3 X W3 (e::es) t)
    (hbase:attributeBase o name X.env (eval o X.env)=eval o X.env:=by rfl)
    (hfew:((backTo cpos (starEach (e::es) X.env)).all (fun x=>!x.1)&&(backToKw cpos (keywordEach [] X.env)).all (fun x=>x.1.isSome)
      && decide ((e::es).length+([]:List Keyword).length+(if ([]:List Keyword).isEmpty then 0 else 1)<30))=true:=by rfl)
    (hline:(apos.endLine==cpos.line)=true:=by rfl) (hs:starEach (e::es) X.env=(false,eval e X.env)::starEach es X.env:=by rfl) (hplain:(backTo cpos (starEach es X.env)).any (·.1)=false:=by rfl) :
    PE3 X W3 (.Call (.Attribute o name apos) (e::es) [] cpos) (bm3 T m3 to t) :=
  fun Z=>PE.imp (pe_bm pa slot hty hm (ho Z) (ha Z) hbase hfew hline hs hplain) fun τ H Q ⟨σ,S,Q3,hs,hr,ht,hc⟩ =>
    ⟨σ,S,_,hs,hr,ht,fun x S1 v H1 k1 r1 l1 z_17=>by obtain ⟨ty,q⟩:=z_17;exact ⟨ty.down r1 l1,σ,S1,_,hs.mono k1,l1,q,fun ds S2 vs H2 k2 r2 l2 q2=>hd Z.z x ds S2 Q3 v vs H2 Q (r1.mono k2) r2 l2 q2 (hc.mono (k1.trans k2))⟩⟩
noncomputable abbrev TO3:=St3→Hp3→(Option Int→Hp3→Prop)→Prop
def CO (K:PySem.W.Frag) (Z:Zt) (H:Hp) (Q3:Option Int→Hp3→Prop) (Q:Option Int→Hp→Prop):Prop:=∀d S H',Kp Z H H'→Rl K Z S H'→Q3 d S→Q d H'
noncomputable def lO (K:PySem.W.Frag) (Z:Zt) (t:TO3):TO:=fun τ H Q=>∃σ S Q3,SR K H σ τ∧Rl K Z S H∧t σ S Q3∧CO K Z H Q3 Q
def PO3 (X:Cx) (W3:W3T) (e:Option Expr) (t:TO3):Prop:=∀Z:ZX X W3,PO X e (lO X.K Z.z t)
def nopart3:TO3:=fun _ S Q=>Q none S
def part3 (t:TE3):TO3:=fun σ S Q=>t σ S fun x S1=>∃i,x=.int i∧Q (some i) S1
theorem PO.imp {X:Cx} {e:Option Expr} {t u:TO} (h:PO X e t) (f:∀σ H Q,u σ H Q→t σ H Q):PO X e u:=fun pins s σ H Q I q=>h pins s σ H Q I (f _ _ _ q)
theorem zbq:PO3 X W3 none nopart3:=fun Z=>PO.imp zpb fun τ H Q z_18=>by obtain ⟨σ,S,Q3,hs,hr,ht,hc⟩:=z_18;exact hc none S H (Kp.refl _ _) hr ht
theorem zbl (h:PE3 X W3 e ta):PO3 X W3 (some e) (part3 ta):=fun Z=>PO.imp (zpa (h Z)) fun τ H Q z_19=>by
  obtain ⟨σ,S,Q3,hs,hr,ht,hc⟩:=z_19
  refine ⟨σ,S,_,hs,hr,ht,fun x S1 v H1 k1 r1 l1 q1=>?_⟩
  obtain ⟨i,rfl,q⟩:=q1
  cases r1
  exact ⟨i,rfl,hc _ S1 H1 k1 l1 q⟩
def DnS (K:PySem.W.Frag) (r3:D→Option Int→Option Int→Hp3→K3→Prop) (r:V→Option Int→Option Int→Hp→VK→Prop):Prop:=∀(Z:Zt) x lo hi S Q3 v H Q,Rp K H x v→Rl K Z S H→r3 x lo hi S Q3→CK K Z H Q3 Q→r v lo hi H Q
def sl3 (r:D→Option Int→Option Int→Hp3→K3→Prop) (te:TE3) (tl th:TO3):TE3:=fun σ S Q=>te σ S fun x S1=>tl σ S1 fun l S2=>th σ S2 fun u S3=>r x l u S3 Q
theorem za8 {lo hi:Option Expr} {tl th:TO3} {p2:Pos} {s3:D→Option Int→Option Int→Hp3→K3→Prop} {s2:V→Option Int→Option Int→Hp→VK→Prop} (hr:SlR X s2) (hd:DnS X.K s3 s2) (he:PE3 X W3 e ta) (hl:PO3 X W3 lo tl) (hu:PO3 X W3 hi th) :
    PE3 X W3 (.Subscript e (.Slice lo hi none p2) pos) (sl3 s3 ta tl th):=fun Z=>PE.imp (znh hr (he Z) (hl Z) (hu Z)) fun τ H Q z_20=>by obtain ⟨σ,S,Q3,hs,hr,ht,hc⟩:=z_20;exact 
  ⟨σ,S,_,hs,hr,ht,fun x S1 v H1 k1 r1 l1 q1=>⟨σ,S1,_,hs.mono k1,l1,q1,fun l S2 H2 k2 l2 q2=>⟨σ,S2,_,hs.mono (k1.trans k2),l2,q2,fun u S3 H3 k3 l3 q3 =>
    hd Z.z x l u S3 Q3 v H3 Q (r1.mono (k2.trans k3)) l3 q3 (hc.mono (k1.trans (k2.trans k3)))⟩⟩⟩
noncomputable def kD:Key→D
  | .inl i=>.int i
  | .inr x=>.str x
noncomputable def valD (kvs:List (Key×D)) (k:Key):Option D:=(kvs.find? fun kv=>decide (kv.1=k)).map (·.2)
noncomputable def putD (kvs:List (Key×D)) (k:Key) (v:D):List (Key×D):=if (kvs.any fun kv=>decide (kv.1=k))=true then kvs.map fun kv=>if kv.1=k then (kv.1,v) else kv else kvs++[(k,v)]
def dget3 (td ty:TE3):TE3:=fun σ S Q=>td σ S fun x S1=>ty σ S1 fun y S2=>∃a kvs k v,x=.ref a∧S2 a=some (.dic kvs)∧y=kD k∧valD kvs k=some v∧Q v S2
theorem zil {K:PySem.W.Frag} {H:Hp} {k:Key} {v:V} (r:Rp K H (kD k) v):v=kV k:=by
  cases k with
  | inl i=>cases r;rfl
  | inr x=>cases r;rfl
noncomputable abbrev KR (K:PySem.W.Frag) (H:Hp):=Paired (fun (p:Key×D) (q:Key×V)=>p.1=q.1∧Rp K H p.2 q.2)
theorem KR.val {K:PySem.W.Frag} {H:Hp} {kvs:List (Key×D)} {ws:List (Key×V)} (r:KR K H kvs ws) (k:Key):RO K H (valD kvs k) (valV ws k)∧(valD kvs k).isSome=(valV ws k).isSome:=by
  induction r with
  | nil=>exact ⟨fun d e=>(nomatch e),rfl⟩
  | @cons p q ps qs h t ih =>
    obtain ⟨h1,h2⟩:=h
    by_cases e:p.1=k
    · have e2:q.1=k:=h1▸e
      have a:valD (p::ps) k=some p.2:=by simp [valD,List.find?_cons,e]
      rw [a,zew e2]
      exact ⟨fun d z=>by cases z;exact ⟨_,rfl,h2⟩,rfl⟩
    · have e2:¬q.1=k:=h1▸e
      have a:valD (p::ps) k=valD ps k:=by simp [valD,List.find?_cons,e]
      rw [a,zex e2]
      exact ih
theorem KR.any {K:PySem.W.Frag} {H:Hp} {kvs:List (Key×D)} {ws:List (Key×V)} (r:KR K H kvs ws) (k:Key):(kvs.any fun kv=>decide (kv.1=k))=ws.any fun kv=>decide (kv.1=k):=by
  induction r with
  | nil=>rfl
  | @cons p q ps qs h t ih=>rw [List.any_cons,List.any_cons,ih,h.1]
theorem KR.repl {K:PySem.W.Frag} {H:Hp} (k:Key) {d:D} {v:V} (h:Rp K H d v):∀{kvs:List (Key×D)} {ws:List (Key×V)},KR K H kvs ws→KR K H (kvs.map fun kv=>if kv.1=k then (kv.1,d) else kv) (ws.map fun kv=>if kv.1=k then (kv.1,v) else kv)
  | _,_,.nil=>.nil
  | _,_,.cons (a:=p) (b:=q) ⟨e,r⟩ t=>by
    refine .cons ?_ (KR.repl k h t)
    dsimp only
    by_cases c:q.1=k
    · rw [if_pos c,if_pos (e▸c)]
      exact ⟨e,h⟩
    · rw [if_neg c,if_neg (e▸c)]
      exact ⟨e,r⟩
theorem KR.put {K:PySem.W.Frag} {H:Hp} {kvs:List (Key×D)} {ws:List (Key×V)} (r:KR K H kvs ws) (k:Key) {d:D} {v:V} (h:Rp K H d v):KR K H (putD kvs k d) (putK ws k v):=by
  unfold putD putK
  rw [r.any k]
  split
  · exact KR.repl k h r
  · exact zbc r (.cons ⟨rfl,h⟩ .nil)
theorem KR.len {K:PySem.W.Frag} {H:Hp} {kvs:List (Key×D)} {ws:List (Key×V)} (r:KR K H kvs ws):kvs.length=ws.length:=Paired.length r
theorem DGet.down {K:PySem.W.Frag} {Z:Zt} {S:Hp3} {H:Hp} {a:Addr} {kvs:List (Key×D)} {k:Key} {v:V} (l:Rl K Z S H) (e:S a=some (.dic kvs)) (r:Rp K H (kD k) v):∃ws,DGet H a v (valV ws k)∧KR K H kvs ws:=by
  obtain ⟨ws,h1,h2⟩:=l.obj a _ e
  rw [zil r]
  exact ⟨ws,DGet.k h1,h2⟩
theorem zmk {i:Expr} {td ty:TE3} (hu:X.A.units+1<cLine) (ho:PE3 X W3 o td) (hi:PE3 X W3 i ty) (hs:NoSl i):PE3 X W3 (.Subscript o i pos) (dget3 td ty):=fun Z=>PE.imp (zpe hu (ho Z) (hi Z) hs) fun τ H Q z_21=>by
  obtain ⟨σ,S,Q3,hs,hr,ht,hc⟩:=z_21
  refine ⟨σ,S,_,hs,hr,ht,fun x S1 v H1 k1 r1 l1 q1=>⟨σ,S1,_,hs.mono k1,l1,q1,fun y S2 w H2 k2 r2 l2 q2=>?_⟩⟩
  obtain ⟨a,kvs,k,d,rfl,e,rfl,ev,q⟩:=q2
  cases r1
  obtain ⟨ws,g,kr⟩:=DGet.down l2 e r2
  obtain ⟨u,eu,ru⟩:=(kr.val k).1 d ev
  rw [eu] at g
  exact ⟨a,u,rfl,g,hc d S2 u H2 (k1.trans k2) ru l2 q⟩
end
end E3
namespace E3
open PySem PySem.Spec PyProof.Rows L2 EE
section
variable {X:Cx} {W3:W3T} {st:Stmt} {rest:List Stmt} {t u:TS3} {e:Expr} {te:TE3} {pos:Pos}
def next3:TS3:=fun D σ S=>D.nx σ S
def seq3 (t u:TS3):TS3:=fun D σ S=>t {D with nx:=u D} σ S
theorem zb9:PSs3 X W3 [] next3:=fun Z=>PSs.imp zo6 fun D τ H z_1=>by obtain ⟨D3,σ,S,hs,hr,ht,hc⟩:=z_1;exact hc.nx σ S τ H (Kp.refl _ _) hs hr ht
theorem zac (h1:PS3 X W3 st t) (h2:PSs3 X W3 rest u):PSs3 X W3 (st::rest) (seq3 t u):=fun Z=>PSs.imp (znc (h1 Z) (h2 Z)) fun D τ H ⟨D3,σ,S,hs,hr,ht,hc⟩ =>
  ⟨_,σ,S,hs,hr,ht,⟨fun σ' S' τ' H' k r l q=>⟨D3,σ',S',r,l,q,hc.mono k⟩,hc.bk,hc.ct,hc.rt⟩⟩
theorem zah (h1:PS3 X W3 st t):PSs3 X W3 [st] t:=fun Z=>zo5 (h1 Z)
def drop3 (te:TE3):TS3:=fun D σ S=>te σ S fun _ S1=>D.nx σ S1
theorem zaz (he:PE3 X W3 e te) (hs:swapsWith e none pos.line X.env=pure false:=by rfl):PS3 X W3 (.Expr e pos) (drop3 te):=fun Z=>PS.imp (zo7 (he Z) hs) fun D τ H ⟨D3,σ,S,hs,hr,ht,hc⟩ =>
  ⟨σ,S,_,hs,hr,ht,fun d S' v H' k r l q=>hc.nx σ S' τ H' k (hs.mono k) l q⟩
def ret3 (te:TE3):TS3:=fun D σ S=>te σ S D.rt
theorem zbn (he:PE3 X W3 e te):PS3 X W3 (.Return (some e) pos) (ret3 te):=fun Z=>PS.imp (ps_ret (he Z)) fun D τ H z_6=>by obtain ⟨D3,σ,S,hs,hr,ht,hc⟩:=z_6;exact ⟨σ,S,_,hs,hr,ht,hc.rt⟩
def ifs3 (c:TT3) (t u:TS3):TS3:=fun D σ S=>c σ S fun b S1=>if b=true then t D σ S1 else u D σ S1
theorem s_if {c:Expr} {a b:List Stmt} {tc:TT3} (hc:PT3 X W3 c tc) (ha:PSs3 X W3 a t) (hb:PSs3 X W3 b u):PS3 X W3 (.If c a b pos) (ifs3 tc t u):=fun Z=>PS.imp (ps_if (hc Z) (ha Z) (hb Z)) fun D τ H z_8=>by
  obtain ⟨D3,σ,S,hs,hr,ht,hc⟩:=z_8
  refine ⟨σ,S,_,hs,hr,ht,fun b S' H' k l q=>?_⟩
  cases b with
  | true=>exact ⟨D3,σ,S',hs.mono k,l,q,hc.mono k⟩
  | false=>exact ⟨D3,σ,S',hs.mono k,l,q,hc.mono k⟩
noncomputable abbrev TG3:=D→St3→Hp3→(St3→Hp3→Prop)→Prop
def lG (K:PySem.W.Frag) (Z:Zt) (t:TG3):TG:=fun v τ H Q=>∃d σ S Q3,Rp K H d v∧SR K H σ τ∧Rl K Z S H∧t d σ S Q3∧CS K Z H Q3 Q
def PG3 (X:Cx) (W3:W3T) (tg:Expr) (t:TG3):Prop:=∀Z:ZX X W3,PG X tg (lG X.K Z.z t)
theorem PG.imp {X:Cx} {e:Expr} {t u:TG} (h:PG X e t) (f:∀v σ H Q,u v σ H Q→t v σ H Q):PG X e u:=fun pins s σ H v w Q I r q=>h pins s σ H v w Q I r (f _ _ _ _ q)
def name3 (i:Nat):TG3:=fun v σ S Q=>Q (σ.set i (some v)) S
theorem zdf {i:Nat} {x:Str} (hN:X.N.Nodup) (hi:X.N[i]?=some x) (hx:Loc X.env.scope x) (hf:X.fn x=true∨X.env.scope.names.lookup x=some .local:=by first|exact .inl rfl|exact .inr rfl|assumption):PG3 X W3 (.Name x pos) (name3 i) :=
  fun Z=>PG.imp (zlp hN hi hx hf) fun v τ H Q z_11=>by obtain ⟨d,σ,S,Q3,r,hs,hr,ht,hc⟩:=z_11;exact hc _ S _ H (Kp.refl _ _) (hs.set r i) hr ht
def asg3 (te:TE3) (g:TG3):TS3:=fun D σ S=>te σ S fun x S1=>g x σ S1 D.nx
theorem zoa {K:PySem.W.Frag} {Z:Zt} {g:TG3} {D:Ends} {τ:L2.St} {H:Hp} (h:lS K Z (asg3 te g) D τ H):tAsg (lE K Z te) (lG K Z g) D τ H:=by
  obtain ⟨D3,σ,S,hs,hr,ht,hc⟩:=h
  exact ⟨σ,S,_,hs,hr,ht,fun d S' v H' k r l q=>⟨d,σ,S',_,r,hs.mono k,l,q,hc.nx.mono k⟩⟩
theorem s_asg {tg:Expr} {g:TG3} (he:PE3 X W3 e te) (hg:PG3 X W3 tg g) (hs:swapsWithSole [tg] e pos.line X.env=pure false:=by rfl) (hw:swappedStores [tg] e X.env=pure none:=by rfl)
    (h1:(assignEach [tg] X.env).map (·.2)=[assign tg X.env]:=by rfl):PS3 X W3 (.Assign [tg] e pos) (asg3 te g):=fun Z=>PS.imp (ps_asg (he Z) (hg Z) hs hw h1) fun D τ H h=>zoa h
def set3 (i:Nat) (te:TE3):TS3:=fun D σ S=>te σ S fun x S1=>D.nx (σ.set i (some x)) S1
theorem zai {i:Nat} {x:Str} {pos':Pos} (hN:X.N.Nodup) (hi:X.N[i]?=some x) (hx:Loc X.env.scope x) (he:PE3 X W3 e te) (hs:swapsWith e (some (.Name x pos')) pos.line X.env=pure false:=by rfl) (hf:X.fn x=true∨X.env.scope.names.lookup x=some .local:=by first|exact .inl rfl|exact .inr rfl|assumption) :
    PS3 X W3 (.Assign [.Name x pos'] e pos) (set3 i te):=fun Z=>PS.imp (ps_set hN hi hx (he Z) hs hf) fun D τ H z_15=>by obtain ⟨D3,σ,S,hs,hr,ht,hc⟩:=z_15;exact 
  ⟨σ,S,_,hs,hr,ht,fun d S' v H' k r l q=>hc.nx _ S' _ H' k ((hs.mono k).set r i) l q⟩
def setL3 (to ti:TE3):TG3:=fun v σ S Q=>to σ S fun o S1=>ti σ S1 fun i S2=>∃p xs k j,o=.ref p∧i=.int k∧S2 p=some (.lst xs)∧ixN xs.length k=some j∧Q σ (up S2 p (.lst (xs.set j v)))
theorem g_sub {o i:Expr} {to ti:TE3} (ho:PE3 X W3 o to) (hi:PE3 X W3 i ti)
    (ha:∀v,assign (.Subscript o i pos) X.env v=(do
      let ov ←holding [v] (eval o X.env)
      let iv ←holding [v,ov] (eval i X.env)
      standAt pos
      holding [v,ov,iv] (setItem ov iv v)
      release [v,ov,iv] []):=by intro _;rfl):PG3 X W3 (.Subscript o i pos) (setL3 to ti):=fun Z=>PG.imp (pg_sub (ho Z) (hi Z) set_list ha) fun v τ H Q z_16=>by
  obtain ⟨d,σ,S,Q3,r,hs,hr,ht,hc⟩:=z_16
  refine ⟨σ,S,_,hs,hr,ht,fun x1 S1 v1 H1 k1 r1 l1 q1=>⟨σ,S1,_,hs.mono k1,l1,q1,fun x2 S2 v2 H2 k2 r2 l2 q2=>?_⟩⟩
  obtain ⟨p,xs,k,j,rfl,rfl,e,hj,q⟩:=q2
  cases r1
  cases r2
  obtain ⟨vs,h1,h2⟩:=l2.obj p _ e
  have kk:Kp Z.z H2 (upd H2 p (.lst (vs.set j v))):=Kp.at l2 e
  refine ⟨p,vs,k,j,rfl,rfl,h1,by rw [←h2.len];exact hj,?_⟩
  have k12:=k1.trans (k2.trans kk)
  exact hc σ _ τ _ k12 (hs.mono k12) (l2.put (o:=.lst (xs.set j d)) kk (l2.notZ e) ⟨_,zat,(h2.mono kk).set (r.mono k12) j⟩) q
def dput3 (td ty tv:TE3):TS3:=fun D σ S=>tv σ S fun v S1=>td σ S1 fun x S2=>ty σ S2 fun y S3=>∃a kvs k,x=.ref a∧S3 a=some (.dic kvs)∧y=kD k∧kvs.length<sizeLine∧D.nx σ (up S3 a (.dic (putD kvs k v)))
theorem s_dput {o i value:Expr} {td ty tv:TE3} {pos':Pos} (hu:X.A.units+1<cLine) (ho:PE3 X W3 o td) (hi:PE3 X W3 i ty) (hv:PE3 X W3 value tv) (hs:swapsWith value (some (.Subscript o i pos')) pos.line X.env=pure false) :
    PS3 X W3 (.Assign [.Subscript o i pos'] value pos) (dput3 td ty tv):=fun Z=>PS.imp (zo8 hu (ho Z) (hi Z) (hv Z) hs) fun D τ H z_17=>by
  obtain ⟨D3,σ,S,hs,hr,ht,hc⟩:=z_17
  refine ⟨σ,S,_,hs,hr,ht,fun d S1 v H1 k1 r1 l1 q1=>⟨σ,S1,_,hs.mono k1,l1,q1,fun x S2 w H2 k2 r2 l2 q2=>⟨σ,S2,_,hs.mono (k1.trans k2),l2,q2,fun y S3 z H3 k3 r3 l3 q3=>?_⟩⟩⟩
  obtain ⟨a,kvs,k,rfl,e,rfl,hz,q⟩:=q3
  cases r2
  obtain ⟨ws,h1,h2⟩:=l3.obj a _ e
  have ey:=zil r3
  subst ey
  have kk:Kp Z.z H3 (upd H3 a (.dK (putK ws k v))):=Kp.at l3 e
  have h2':KR X.K H3 kvs ws:=h2
  refine ⟨a,_,rfl,DPut.k h1 (by rw [←h2'.len];exact hz),?_⟩
  have k12:=k1.trans (k2.trans (k3.trans kk))
  refine hc.nx σ _ τ _ k12 (hs.mono k12) (l3.put (o:=.dic (putD kvs k d)) kk (l3.notZ e) ⟨_,zat,?_⟩) q
  have h3:KR X.K (upd H3 a (.dK (putK ws k v))) kvs ws:=Paired.mapP h2' fun p q z=>⟨z.1,z.2.mono kk⟩
  exact h3.put k ((r1.mono (k2.trans k3)).mono kk)
def aug3 (i:Nat) (te:TE3) (f:Int→Int→Int):TS3:=fun D σ S=>∃a,σ[i]?=some (some (.int a))∧te σ S fun y S1=>∃b,y=.int b∧D.nx (σ.set i (some (.int (f a b)))) S1
theorem zoy {i:Nat} {x:Str} {op:Operator} {f:Int→Int→Int} {pos':Pos} (hN:X.N.Nodup) (hi:X.N[i]?=some x) (hx:Loc X.env.scope x) (he:PE3 X W3 e te) (ho:PIp X op (ipI f)) (hf:X.fn x=true∨X.env.scope.names.lookup x=some .local:=by first|exact .inl rfl|exact .inr rfl|assumption) :
    PS3 X W3 (.AugAssign (.Name x pos') op e pos) (aug3 i te f):=fun Z=>PS.imp (ps_aug hN hi hx (he Z) ho hf) fun D τ H z_18=>by
  obtain ⟨D3,σ,S,hs,hr,⟨a,ea,ht⟩,hc⟩:=z_18
  obtain ⟨v,h1,h2⟩:=hs.at ea
  cases h2
  refine ⟨_,h1,σ,S,_,hs,hr,ht,fun y S' v H' k r l q=>?_⟩
  obtain ⟨b,rfl,q⟩:=q
  cases r
  exact ⟨a,b,rfl,rfl,hc.nx _ S' _ H' k ((hs.mono k).set (.int _) i) l q⟩
def while3 (c:TT3) (tb:TS3):TS3:=fun D σ S=>∃W:Nat→St3→Hp3→Prop,(∃m,W m σ S)∧∀m σ S,W m σ S →
  c σ S fun b S1=>if b=true then tb {D with nx:=fun σ' S'=>∃m',m'<m∧W m' σ' S',ct:=fun σ' S'=>∃m',m'<m∧W m' σ' S',bk:=D.nx} σ S1 else D.nx σ S1
theorem zib {c:Expr} {body:List Stmt} {tc:TT3} {tb:TS3} (hp:PassesOwn (model X.prog X.w) X.A X.env X.xe) (hc:PT3 X W3 c tc) (hb:PSs3 X W3 body tb):PS3 X W3 (.While c body [] pos) (while3 tc tb):=fun Z=>PS.imp (znd hp (hc Z) (hb Z)) fun D τ H z_19=>by
  obtain ⟨D3,σ,S,hs,hr,⟨W,⟨m0,w0⟩,turn⟩,hc⟩:=z_19
  refine ⟨fun m τ' H'=>∃σ' S',Kp Z.z H H'∧SR X.K H' σ' τ'∧Rl X.K Z.z S' H'∧W m σ' S',⟨m0,σ,S,Kp.refl _ _,hs,hr,w0⟩,?_⟩
  rintro m τ1 H1 ⟨σ1,S1,k1,s1,l1,w1⟩
  refine ⟨σ1,S1,_,s1,l1,turn m σ1 S1 w1,fun b S2 H2 k2 l2 q2=>?_⟩
  cases b with
  | true =>
    rw [if_pos rfl] at q2 ⊢
    refine ⟨fun τ' H'=>∃m',m'<m∧∃σ' S',Kp Z.z H H'∧SR X.K H' σ' τ'∧Rl X.K Z.z S' H'∧W m' σ' S',fun τ' H' z=>z,_,σ1,S2,s1.mono k2,l2,q2,⟨?_,?_,?_,?_⟩⟩
    · exact fun σ' S' τ' H' k r l z_20=>by obtain ⟨m',hm,w⟩:=z_20;exact ⟨m',hm,σ',S',k1.trans (k2.trans k),r,l,w⟩
    · exact hc.nx.mono (k1.trans k2)
    · exact fun σ' S' τ' H' k r l z_21=>by obtain ⟨m',hm,w⟩:=z_21;exact ⟨m',hm,σ',S',k1.trans (k2.trans k),r,l,w⟩
    · exact hc.rt.mono (k1.trans k2)
  | false =>
    rw [if_neg Bool.false_ne_true] at q2 ⊢
    exact hc.nx σ1 S2 τ1 H2 (k1.trans k2) (s1.mono k2) l2 q2
end
noncomputable abbrev TI3:=St3→Hp3→(List D→(Hp3→Prop)→Hp3→Prop)→Prop
structure Wk (K:PySem.W.Frag) (Z:Zt) (J:It) (ds:List D) (Al:Hp3→Prop) (H0:Hp):Prop where
  go:∀i d S H,Kp Z H0 H→Rl K Z S H→Al S→ds[i]?=some d→J.go i H∧∀v H',J.yld i H v H'→Kp Z H H'∧Rp K H' d v∧(∀S',Rl K Z S' H→Rl K Z S' H')∧∀b,H b≠none→H' b=H b
  stop:∀S H,Kp Z H0 H→Rl K Z S H→Al S→J.stop ds.length H
def lI (K:PySem.W.Frag) (Z:Zt) (t:TI3):TI:=fun τ H R=>∃σ S R3,SR K H σ τ∧Rl K Z S H∧t σ S R3∧∀ds Al S' J H',Kp Z H H'→Rl K Z S' H'→R3 ds Al S'→Wk K Z J ds Al H'→R J H'
def PI3 (X:Cx) (W3:W3T) (tg iter:Expr) (t:TI3):Prop:=∀Z:ZX X W3,PI X tg iter (lI X.K Z.z t)
theorem PI.imp {X:Cx} {tg e:Expr} {t u:TI} (h:PI X tg e t) (f:∀σ H R,u σ H R→t σ H R):PI X tg e u:=fun pins s σ H Q I q=>h pins s σ H Q I (f _ _ _ q)
section
variable {X:Cx} {W3:W3T} {tg l:Expr} {tl:TE3} {pos:Pos}
def iL3 (tl:TE3):TI3:=fun σ S R=>tl σ S fun x S1=>(∃a ds,x=.ref a∧S1 a=some (.lst ds)∧R ds (fun S=>S a=some (.lst ds)) S1)∨∃ds,x=.rol ds∧R ds (fun _=>True) S1
theorem zho (hl:PE3 X W3 l tl):PI3 X W3 tg l (iL3 tl):=fun Z=>PI.imp (zpd (hl Z)) fun τ H R z_22=>by
  obtain ⟨σ,S,R3,hs,hr,ht,hc⟩:=z_22
  refine ⟨σ,S,_,hs,hr,ht,fun x S1 v H1 k1 r1 l1 q1=>?_⟩
  rcases q1 with ⟨a,ds,rfl,e,q⟩|⟨ds,rfl,q⟩
  · cases r1
    obtain ⟨vs,h1,h2⟩:=l1.obj a _ e
    refine ⟨a,rfl,⟨vs,SqL.of h1⟩,hc ds _ S1 _ H1 k1 l1 q ⟨fun i d S2 H2 k2 l2 al hd=>?_,fun S2 H2 k2 l2 al=>?_⟩⟩
    · obtain ⟨ws,h3,h4⟩:=l2.obj a _ al
      obtain ⟨v,hv,rv⟩:=h4.at hd
      refine ⟨⟨ws,v,SqL.of h3,hv⟩,fun v' H' y=>?_⟩
      obtain ⟨rfl,y⟩:=y
      have:=y ws (SqL.of h3)
      rw [hv] at this
      cases this
      exact ⟨Kp.refl _ _,rv,fun _ z=>z,fun _ _=>rfl⟩
    · obtain ⟨ws,h3,h4⟩:=l2.obj a _ al
      exact ⟨ws,SqL.of h3,by rw [h4.len];exact Nat.le_refl _⟩
  · cases r1 with
    | @rol a vs _ h1 h2 =>
      refine ⟨a,rfl,⟨vs,h1.sq⟩,hc ds _ S1 _ H1 k1 l1 q ⟨fun i d S2 H2 k2 l2 al hd=>?_,fun S2 H2 k2 l2 al=>?_⟩⟩
      · obtain ⟨v,hv,rv⟩:=h2.at hd
        have h3:=(k2.scR h1).sq
        refine ⟨⟨vs,v,h3,hv⟩,fun v' H' y=>?_⟩
        obtain ⟨rfl,y⟩:=y
        have:=y vs h3
        rw [hv] at this
        cases this
        exact ⟨Kp.refl _ _,rv.mono k2,fun _ z=>z,fun _ _=>rfl⟩
      · exact ⟨vs,(k2.scR h1).sq,by rw [h2.len];exact Nat.le_refl _⟩
def iT3 (tl:TE3):TI3:=fun σ S R=>tl σ S fun x S1=>∃ds,x=.tup ds∧R ds (fun _=>True) S1
theorem i_tup (hl:PE3 X W3 l tl):PI3 X W3 tg l (iT3 tl):=fun Z=>PI.imp (pi_tup (hl Z)) fun τ H R z_23=>by
  obtain ⟨σ,S,R3,hs,hr,ht,hc⟩:=z_23
  refine ⟨σ,S,_,hs,hr,ht,fun x S1 v H1 k1 r1 l1 q1=>?_⟩
  obtain ⟨ds,rfl,q⟩:=q1
  cases r1 with
  | @tup a vs _ h1 h2 =>
    refine ⟨a,rfl,⟨vs,h1⟩,hc ds _ S1 _ H1 k1 l1 q ⟨fun i d S2 H2 k2 l2 al hd=>?_,fun S2 H2 k2 l2 al=>?_⟩⟩
    · obtain ⟨v,hv,rv⟩:=h2.at hd
      have h3:=k2.sqT h1
      refine ⟨⟨vs,v,h3,hv⟩,fun v' H' y=>?_⟩
      obtain ⟨rfl,y⟩:=y
      have:=y vs h3
      rw [hv] at this
      cases this
      exact ⟨Kp.refl _ _,rv.mono k2,fun _ z=>z,fun _ _=>rfl⟩
    · exact ⟨vs,k2.sqT h1,by rw [h2.len];exact Nat.le_refl _⟩
def iRev3 (ta:TA3):TI3:=fun σ S R=>ta σ S fun xs S1=>∃ds,xs=[.tup ds]∧R ds.reverse (fun _=>True) S1
theorem i_rev {a:Expr} {ta:TA3} {p:Pos} (hg:Gl X "reversed") (hm:X.mg "reversed"=none) (ha:PA3 X W3 [a] ta) (hs:starEach [a] X.env=[(false,eval a X.env)]:=by rfl):PI3 X W3 tg (.Call (.Name "reversed" p) [a] [] pos) (iRev3 ta) :=
  fun Z=>PI.imp (pi_rev hg hm (ha Z) hs) fun τ H R z_24=>by
  obtain ⟨σ,S,R3,hs,hr,ht,hc⟩:=z_24
  refine ⟨σ,S,_,hs,hr,ht,fun xs S1 vs0 H1 k1 r1 l1 q1=>?_⟩
  obtain ⟨ds,rfl,q⟩:=q1
  cases r1 with
  | cons r1 rr =>
    cases rr
    cases r1 with
    | @tup a vs _ h1 h2 =>
      have hl:=h2.len
      refine ⟨a,vs,rfl,h1,hc _ _ S1 _ H1 k1 l1 q ⟨fun i d S2 H2 k2 l2 al hd=>?_,fun S2 H2 k2 l2 al=>?_⟩⟩
      · have hi:i<ds.length:=by
          have:=(List.getElem?_eq_some_iff.mp hd).1
          simpa using this
        rw [List.getElem?_reverse hi] at hd
        obtain ⟨v,hv,rv⟩:=h2.at hd
        have h3:=k2.sqT h1
        rw [hl] at hv
        refine ⟨⟨by omega,vs,h3,rfl⟩,fun v' H' y=>?_⟩
        obtain ⟨rfl,y⟩:=y
        have:=y vs h3
        rw [hv] at this
        cases this
        exact ⟨Kp.refl _ _,rv.mono k2,fun _ z=>z,fun _ _=>rfl⟩
      · show vs.length≤ds.reverse.length
        rw [List.length_reverse,hl]
        exact Nat.le_refl _
noncomputable def nums (lo:Int) (n:Nat):List D:=(List.range n).map fun i:Nat=>.int (lo+(i:Int))
theorem zco {lo:Int} {n i:Nat} {d:D} (h:(nums lo n)[i]?=some d):i<n∧d=.int (lo+(i:Int)):=by
  unfold nums at h
  rw [List.getElem?_map] at h
  cases e:(List.range n)[i]? with
  | none=>rw [e] at h;cases h
  | some c =>
    rw [e] at h
    cases h
    obtain ⟨h1,h2⟩:=List.getElem?_eq_some_iff.mp e
    rw [List.getElem_range] at h2
    subst h2
    exact ⟨by simpa using h1,rfl⟩
theorem za9 {lo:Int} {n:Nat}:(nums lo n).length=n:=by simp [nums]
def iR1 (ta:TA3):TI3:=fun σ S R=>ta σ S fun vs S1=>∃j:Int,vs=[.int j]∧-(2^62)≤j∧j<2^62∧R (nums 0 j.toNat) (fun _=>True) S1
theorem wk_rng {K:PySem.W.Frag} {Z:Zt} {lo:Int} {n:Nat} {H:Hp}:Wk K Z (Itr lo n) (nums lo n) (fun _=>True) H:=by
  refine ⟨fun i d S2 H2 k2 l2 al hd=>?_,fun S2 H2 k2 l2 al=>?_⟩
  · obtain ⟨hi,rfl⟩:=zco hd
    refine ⟨hi,fun v' H' y=>?_⟩
    obtain ⟨rfl,rfl⟩:=y
    exact ⟨Kp.refl _ _,.int _,fun _ z=>z,fun _ _=>rfl⟩
  · show n≤(nums lo n).length
    rw [za9]
    exact Nat.le_refl _
theorem zb3 {a:Expr} {ta:TA3} {p:Pos} (hg:Gl X "range") (hm:X.mg "range"=none) (ha:PA3 X W3 [a] ta) (hs:starEach [a] X.env=[(false,eval a X.env)]:=by rfl):PI3 X W3 tg (.Call (.Name "range" p) [a] [] pos) (iR1 ta) :=
  fun Z=>PI.imp (zlo hg hm (ha Z) hs) fun τ H R z_26=>by
  obtain ⟨σ,S,R3,hs,hr,ht,hc⟩:=z_26
  refine ⟨σ,S,_,hs,hr,ht,fun xs S1 vs0 H1 k1 r1 l1 q1=>?_⟩
  obtain ⟨j,rfl,h1,h2,q⟩:=q1
  cases r1 with
  | cons r1 rr =>
    cases rr
    cases r1
    exact ⟨j,rfl,h1,h2,hc _ _ S1 _ H1 k1 l1 q wk_rng⟩
def for3 (wi:TI3) (g:TG3) (tb:TS3):TS3:=fun D σ S=>wi σ S fun ds Al S1=>∃W:Nat→St3→Hp3→Prop,W 0 σ S1∧(∀i σ S,W i σ S→Al S) ∧
  (∀i d σ S,ds[i]?=some d→W i σ S→g d σ S fun σ2 S2=>tb {D with nx:=W (i+1),ct:=W (i+1),bk:=D.nx} σ2 S2)∧∀σ S,W ds.length σ S→D.nx σ S
theorem zf0 {iter:Expr} {body:List Stmt} {wi:TI3} {g:TG3} {tb:TS3} (hp:PassesOwn (model X.prog X.w) X.A X.env X.xe) (hc:X.calm=true) (hi:PI3 X W3 tg iter wi) (hg:PG3 X W3 tg g) (hb:PSs3 X W3 body tb)
    (hs:∀x,foldedSetIterable iter X.env x=pure x:=by intro _;rfl):PS3 X W3 (.For tg iter body [] pos) (for3 wi g tb):=fun Z=>PS.imp (ps_for hp hc (hi Z) (hg Z) (hb Z) hs) fun D τ H z_28=>by
  obtain ⟨D3,σ,S,hs,hr,ht,hc⟩:=z_28
  refine ⟨σ,S,_,hs,hr,ht,fun ds Al S1 J H1 k1 l1 q1 wk=>?_⟩
  obtain ⟨W,w0,al,turn,done⟩:=q1
  refine ⟨fun i m τ' H'=>m=ds.length-i∧i≤ds.length∧∃σ' S',Kp Z.z H1 H'∧SR X.K H' σ' τ'∧Rl X.K Z.z S' H'∧W i σ' S',⟨ds.length,by simp,Nat.zero_le _,σ,S1,Kp.refl _ _,hs.mono k1,l1,w0⟩,?_⟩
  rintro i m τ2 H2 ⟨rfl,hi,σ2,S2,k2,s2,l2,w2⟩
  by_cases hlt:i<ds.length
  · have hd:ds[i]?=some ds[i]:=List.getElem?_eq_getElem hlt
    obtain ⟨go,yl⟩:=wk.go i _ S2 H2 k2 l2 (al _ _ _ w2) hd
    refine .inr ⟨go,fun τ' H'=>i<ds.length∧∃σ' S',Kp Z.z H1 H'∧SR X.K H' σ' τ'∧Rl X.K Z.z S' H'∧W (i+1) σ' S',fun τ' H' z=>⟨ds.length-(i+1),by omega,rfl,z.1,z.2⟩,fun v H3 y=>?_⟩
    obtain ⟨k3,rv,l3,_⟩:=yl v H3 y
    refine ⟨_,σ2,S2,_,rv,s2.mono k3,l3 _ l2,turn i _ σ2 S2 hd w2,fun σ4 S4 τ4 H4 k4 s4 l4 q4=>?_⟩
    have k14:=k2.trans (k3.trans k4)
    refine ⟨_,σ4,S4,s4,l4,q4,⟨?_,?_,?_,?_⟩⟩
    · exact fun σ' S' τ' H' k r l w=>⟨hlt,σ',S',k14.trans k,r,l,w⟩
    · exact hc.nx.mono (k1.trans k14)
    · exact fun σ' S' τ' H' k r l w=>⟨hlt,σ',S',k14.trans k,r,l,w⟩
    · exact hc.rt.mono (k1.trans k14)
  · have e:i=ds.length:=by omega
    subst e
    exact .inl ⟨wk.stop S2 H2 k2 l2 (al _ _ _ w2),hc.nx σ2 S2 τ2 H2 (k1.trans k2) s2 l2 (done σ2 S2 w2)⟩
noncomputable def pick3 (σ:St3) (js:List Nat):St3:=js.map fun j=>(σ[j]?).getD none
theorem SR.picks {K:PySem.W.Frag} {H:Hp} {σ:St3} {τ:L2.St} (h:SR K H σ τ) (js:List Nat):SR K H (pick3 σ js) (pick τ js):=by
  unfold pick3 pick
  induction js with
  | nil=>exact .nil
  | cons j js ih =>
    refine .cons (fun d e=>?_) ih
    dsimp only at e ⊢
    cases q:σ[j]? with
    | none=>rw [q] at e;cases e
    | some o =>
      rw [q] at e
      have e:o=some d:=e
      subst e
      obtain ⟨v,h1,h2⟩:=h.at q
      exact ⟨v,by rw [h1];rfl,h2⟩
def comp3 (wi:TI3) (te:TE3) (js:List Nat):TE3:=fun σ S Q=>wi σ S fun ds Al S1=>∃W:Nat→List D→Hp3→Prop,W 0 [] S1∧(∀i ys S,W i ys S→Al S∧ys.length<sizeLine) ∧
  (∀i d ys S,ds[i]?=some d→W i ys S→te (some d::pick3 σ js) S fun y S'=>W (i+1) (ys++[y]) S')∧∀ys S,W ds.length ys S→newL S ys Q
def exZ (K:PySem.W.Frag) (te:TE3):TE:=fun τ H Q=>∃Z:Zt,lE K Z te τ H Q
theorem PE3.ex {X:Cx} {e:Expr} {te:TE3} (h:PE3 X NoX e te):PE X e (exZ X.K te):=fun pins s σ H Q I z_29=>by obtain ⟨Z,q⟩:=z_29;exact h (ZX.no X Z) pins s σ H Q I q
noncomputable abbrev Zt.hide (Z:Zt) (H:Hp) (p:Addr):Zt:=⟨fun a=>Z a∨a=p,H⟩
theorem Rl.hide {K:PySem.W.Frag} {Z:Zt} {S:Hp3} {H:Hp} {p:Addr} (l:Rl K Z S H) (hs:S p=none) (hh:H p≠none):Rl K (Z.hide H p) S H :=
  ⟨l.obj,fun a z=>z.elim (l.hid a) fun e=>e▸⟨hs,hh⟩,Kp.refl _ _⟩
theorem Rl.unhide {K:PySem.W.Frag} {Z Z':Zt} {S:Hp3} {H:Hp} (l:Rl K Z' S H) (h:∀a,Z a→Z' a) (o:Kp Z Z.base H):Rl K Z S H:=⟨l.obj,fun a z=>l.hid a (h a z),o⟩
theorem Kp.unhide {Z Z':Zt} {H H':Hp} (k:Kp Z' H H') (h:∀a,Z a→Z' a):Kp Z H H':=⟨k.tup,k.frz,fun a z=>k.hid a (h a z)⟩
theorem zhu {K:PySem.W.Frag} {Z:Zt} {wi:TI3} {te:TE3} {js:List Nat} {τ:L2.St} {H:Hp} {Q:VK} (h:lE K Z (comp3 wi te js) τ H Q):tComp (lI K Z wi) (exZ K te) js τ H Q:=by
  obtain ⟨σ,S,Q3,hs,hr,ht,hc⟩:=h
  refine ⟨σ,S,_,hs,hr,ht,fun ds Al S1 J H1 k1 l1 q1 wk=>?_⟩
  intro p hp
  obtain ⟨W,w0,al,turn,done⟩:=q1
  obtain ⟨hsp,hzp⟩:=l1.fresh hp
  have kp:Kp Z H1 (upd H1 p (.lst [])):=Kp.new hp hzp
  refine ⟨fun i m H'=>m=ds.length-i∧i≤ds.length∧∃ys vs S',Kp Z H1 H'∧H' p=some (.lst vs)∧Rps K H' ys vs∧S' p=none∧Rl K Z S' H'∧W i ys S',⟨ds.length,by simp,Nat.zero_le _,[],[],S1,kp,zat,.nil,hsp,l1.lay hp,w0⟩,?_⟩
  rintro i m H2 ⟨rfl,hi,ys,vs,S2,k2,hp2,ry,hs2,l2,w2⟩
  obtain ⟨al2,hz⟩:=al _ _ _ w2
  by_cases hlt:i<ds.length
  · have hd:ds[i]?=some ds[i]:=List.getElem?_eq_getElem hlt
    obtain ⟨go,yl⟩:=wk.go i _ S2 H2 k2 l2 al2 hd
    refine .inr ⟨go,fun H'=>i<ds.length∧∃ys vs S',Kp Z H1 H'∧H' p=some (.lst vs)∧Rps K H' ys vs∧S' p=none∧Rl K Z S' H'∧W (i+1) ys S',fun H' z=>⟨ds.length-(i+1),by omega,rfl,z.1,z.2⟩,fun v H3 y=>?_⟩
    obtain ⟨k3,rv,l3,o3⟩:=yl v H3 y
    have hp3:H3 p=some (.lst vs):=(o3 p (by rw [hp2];simp)).trans hp2
    refine ⟨Z.hide H3 p,_,S2,_,.cons (fun d e=>by cases e;exact ⟨v,rfl,rv⟩) (((hs.mono (k1.trans (k2.trans k3)))).picks js),(l3 _ l2).hide hs2 (by rw [hp3];simp),turn i _ ys S2 hd w2,?_⟩
    intro d S4 w H4 k4 r4 l4 q4
    have hp4:H4 p=some (.lst vs):=(k4.hid p (.inr rfl)).trans hp3
    have k4':=k4.unhide (Z:=Z) fun a z=>.inl z
    have l4':=l4.unhide (Z:=Z) (fun a z=>.inl z) ((l3 _ l2).old.trans k4')
    have kk:Kp Z H4 (upd H4 p (.lst (vs++[w]))):=by
      refine ⟨fun b xs e=>?_,fun b q u e=>?_,fun b z=>?_⟩
      · rw [zal];exact e
        rintro rfl;rw [hp4] at e;cases e
      · rw [zal];exact e
        rintro rfl;rw [hp4] at e;cases e
      · rw [zal];rintro rfl;exact hzp z
    have sp4:S4 p=none:=(l4.hid p (.inr rfl)).1
    have hlen:ys.length=vs.length:=ry.len
    refine ⟨vs,hp4,by omega,hlt,ys++[d],vs++[w],S4,k2.trans (k3.trans (k4'.trans kk)),zat,((ry.mono (k3.trans (k4'.trans kk)))).append (.cons (r4.mono kk) .nil),sp4,⟨fun b u e=>(l4'.obj b u e).keep kk (zal (ne3 e sp4)),fun b z=>?_,l4'.old.trans kk⟩,q4⟩
    have hb:b≠p:=fun e=>hzp (e▸z)
    rw [zal hb]
    exact l4'.hid b z
  · have e:i=ds.length:=by omega
    subst e
    refine .inl ⟨wk.stop S2 H2 k2 l2 al2,?_⟩
    refine hc (.ref p) (up S2 p (.lst ys)) (.ref p) H2 (k1.trans k2) (.ref p) ⟨fun b u e=>?_,fun b z=>?_,l2.old⟩ (done ys S2 w2 p hs2)
    · by_cases hb:b=p
      · subst hb
        rw [zab] at e
        cases e
        exact ⟨vs,hp2,ry⟩
      · rw [zbm hb] at e
        exact l2.obj b u e
    · have hb:b≠p:=fun e=>hzp (e▸z)
      rw [zbm hb]
      exact l2.hid b z
variable {elt iter:Expr} {x:Str} {px:Pos} {scope osc:Scope} {M N:List Str} {js:List Nat} {wi:TI3} {te:TE3}
theorem zjj (S:CompScope osc x M scope) (hjs:M.map some=js.map fun j=>N[j]?) (hc:X.calm=true) (hi:PI3 X W3 (.Name x px) iter wi)
    (he:∀(C:Addr) (fp:List Addr) (pins:List (Addr×Obj)) (s:Shared) (H:Hp),PE3 (cxComp X scope C (x::M) fp pins s H) NoX elt te)
    (hosc:X.env.scope=osc:=by rfl) (hN:X.N=N:=by rfl) (hs:∀v,foldedSetIterable iter X.env v=pure v:=by intro _;rfl) :
    PE3 X W3 (.ListComp elt [⟨.Name x px,iter,[],0⟩] scope pos) (comp3 wi te js):=fun Z =>
  PE.imp (znn S hjs hc (hi Z) (fun C fp pins s H=>(he C fp pins s H).ex) hosc hN hs) fun _ _ _ h=>zhu h
theorem zi8 {i:Nat} {y:Str} {py spos:Pos} (S:CompScope osc x M scope) (hjs:M.map some=js.map fun j=>N[j]?) (hc:X.calm=true) (hi:PI3 X W3 (.Name x px) iter wi)
    (he:∀(C:Addr) (fp:List Addr) (pins:List (Addr×Obj)) (s:Shared) (H:Hp),PE3 (cxComp X scope C (x::M) fp pins s H) NoX elt te)
    (hNd:X.N.Nodup) (hy:X.N[i]?=some y) (hl:X.env.scope.names.lookup y=some .local)
    (hosc:X.env.scope=osc:=by rfl) (hN:X.N=N:=by rfl)
    (hsw:swapsWith (.ListComp elt [⟨.Name x px,iter,[],0⟩] scope pos) (some (.Name y py)) spos.line X.env=pure true:=by rfl) (hs:∀v,foldedSetIterable iter X.env v=pure v:=by intro _;rfl) :
    PS3 X W3 (.Assign [.Name y py] (.ListComp elt [⟨.Name x px,iter,[],0⟩] scope pos) spos) (set3 i (comp3 wi te js)):=fun Z =>
  PS.imp (znf S hjs hc (hi Z) (fun C fp pins s H=>(he C fp pins s H).ex) hNd hy hl hosc hN hsw hs) fun D τ H ⟨D3,σ,S,hs,hr,ht,hc⟩ =>
    zhu ⟨σ,S,_,hs,hr,ht,fun d S' v H' k r l q=>hc.nx _ S' _ H' k ((hs.mono k).set r i) l q⟩
end
end E3
namespace E3
open PySem PySem.Spec PyProof.Rows L2 EE
section
variable {K:PySem.W.Frag}
def i3 (g:Int→Int→D):R3:=fun x y S Q=>∃i j,x=.int i∧y=.int j∧Q (g i j) S
def ic3 (C:Int→Int→Prop) (g:Int→Int→D):R3:=fun x y S Q=>∃i j,x=.int i∧y=.int j∧C i j∧Q (g i j) S
theorem zd5 {g:Int→Int→Int}:Dn2 K (i3 fun i j=>.int (g i j)) (rI0 fun i j=>.int (g i j)):=by
  intro Z x y S Q3 v w H Q rx ry l h c
  obtain ⟨i,j,rfl,rfl,q⟩:=h
  cases rx
  cases ry
  exact ⟨i,j,rfl,rfl,c _ S _ H (Kp.refl _ _) (.int _) l q⟩
theorem zc8 {g:Int→Int→Bool}:Dn2 K (i3 fun i j=>.bl (g i j)) (rI0 fun i j=>.bl (g i j)):=by
  intro Z x y S Q3 v w H Q rx ry l h c
  obtain ⟨i,j,rfl,rfl,q⟩:=h
  cases rx
  cases ry
  exact ⟨i,j,rfl,rfl,c _ S _ H (Kp.refl _ _) (.bl _) l q⟩
theorem zaf {C:Int→Int→Prop} {g:Int→Int→Int}:Dn2 K (ic3 C fun i j=>.int (g i j)) (rI C fun i j=>.int (g i j)):=by
  intro Z x y S Q3 v w H Q rx ry l h c
  obtain ⟨i,j,rfl,rfl,h,q⟩:=h
  cases rx
  cases ry
  exact ⟨i,j,rfl,rfl,h,c _ S _ H (Kp.refl _ _) (.int _) l q⟩
def addS3:R3:=fun x y S Q=>∃i j,x=.str i∧y=.str j∧i.length+j.length≤sizeLine∧Q (.str (i++j)) S
theorem zds:Dn2 K addS3 (fun x y H Q=>∃i j,x=.str i∧y=.str j∧i.length+j.length≤sizeLine∧Q (.str (i++j)) H):=by
  intro Z x y S Q3 v w H Q rx ry l h c
  obtain ⟨i,j,rfl,rfl,h,q⟩:=h
  cases rx
  cases ry
  exact ⟨i,j,rfl,rfl,h,c _ S _ H (Kp.refl _ _) (.str _) l q⟩
noncomputable def isNon:D→Bool
  | .non=>true
  | _=>false
theorem zgi {H:Hp} {x:D} {v:V} (r:Rp K H x v):isNon x=decide (v=.non):=by
  cases r<;>rfl
def isN3:R3:=fun x y S Q=>y=.non∧Q (.bl (isNon x)) S
def notN3:R3:=fun x y S Q=>y=.non∧Q (.bl (!isNon x)) S
theorem zjl:Dn2 K isN3 (fun x y H Q=>y=.non∧Q (.bl (decide (x=.non))) H):=by
  intro Z x y S Q3 v w H Q rx ry l h c
  obtain ⟨rfl,q⟩:=h
  cases ry
  rw [←zgi rx]
  exact ⟨rfl,c _ S _ H (Kp.refl _ _) (.bl _) l q⟩
theorem zpz:Dn2 K notN3 (fun x y H Q=>y=.non∧Q (.bl (!decide (x=.non))) H):=by
  intro Z x y S Q3 v w H Q rx ry l h c
  obtain ⟨rfl,q⟩:=h
  cases ry
  rw [←zgi rx]
  exact ⟨rfl,c _ S _ H (Kp.refl _ _) (.bl _) l q⟩
def eqI3:R3:=i3 fun i j=>.bl (decide (i=j))
def neI3:R3:=i3 fun i j=>.bl (!decide (i=j))
def eqS3:R3:=fun x y S Q=>∃i j,x=.str i∧y=.str j∧Q (.bl (decide (i=j))) S
def neS3:R3:=fun x y S Q=>∃i j,x=.str i∧y=.str j∧Q (.bl (!decide (i=j))) S
theorem zoo {i j:Int}:decide (V.int i=V.int j)=decide (i=j):=by rw [zis];rfl
theorem zon {i j:Str}:decide (V.str i=V.str j)=decide (i=j):=by
  by_cases h:i=j
  · subst h;simp
  · have:V.str i≠V.str j:=fun e=>h (V.str.inj e)
    simp [h]
theorem zb4:Dn2 K eqI3 rEq:=by
  intro Z x y S Q3 v w H Q rx ry l h c
  obtain ⟨i,j,rfl,rfl,q⟩:=h
  cases rx
  cases ry
  refine ⟨rfl,?_⟩
  rw [zoo]
  exact c _ S _ H (Kp.refl _ _) (.bl _) l q
theorem dn_neI:Dn2 K neI3 rNe:=by
  intro Z x y S Q3 v w H Q rx ry l h c
  obtain ⟨i,j,rfl,rfl,q⟩:=h
  cases rx
  cases ry
  refine ⟨rfl,?_⟩
  rw [zoo]
  exact c _ S _ H (Kp.refl _ _) (.bl _) l q
theorem zcm:Dn2 K eqS3 rEq:=by
  intro Z x y S Q3 v w H Q rx ry l h c
  obtain ⟨i,j,rfl,rfl,q⟩:=h
  cases rx
  cases ry
  refine ⟨rfl,?_⟩
  rw [zon]
  exact c _ S _ H (Kp.refl _ _) (.bl _) l q
theorem dn_neS:Dn2 K neS3 rNe:=by
  intro Z x y S Q3 v w H Q rx ry l h c
  obtain ⟨i,j,rfl,rfl,q⟩:=h
  cases rx
  cases ry
  refine ⟨rfl,?_⟩
  rw [zon]
  exact c _ S _ H (Kp.refl _ _) (.bl _) l q
noncomputable def flatD:D→Bool
  | .non=>true
  | .bl _=>true
  | .int _=>true
  | .str _=>true
  | _=>false
noncomputable def vD:D→V
  | .non=>.non
  | .bl b=>.bl b
  | .int i=>.int i
  | .str x=>.str x
  | _=>.non
theorem zfq {H:Hp} {x:D} {v:V} (r:Rp K H x v) (h:flatD x=true):v=vD x∧flatV v=true:=by
  cases r<;>first|exact ⟨rfl,rfl⟩|(simp [flatD] at h)
theorem zdj {H:Hp}:∀{ds:List D} {vs:List V},Rps K H ds vs→ds.all flatD=true→vs=ds.map vD∧vs.all flatV=true
  | _,_,.nil,_=>⟨rfl,rfl⟩
  | _,_,.cons r t,h=>by
    simp only [List.all_cons,Bool.and_eq_true] at h
    obtain ⟨e1,f1⟩:=zfq r h.1
    obtain ⟨e2,f2⟩:=zdj t h.2
    subst e1
    subst e2
    exact ⟨rfl,by simp only [List.all_cons,f1,f2,Bool.and_self]⟩
noncomputable def memD (x:D) (ds:List D):Bool:=inV (vD x) (ds.map vD)
def in3 (neg:Bool):R3:=fun x y S Q=>∃ds,(IsL S y ds∨y=.tup ds)∧flatD x=true∧ds.all flatD=true∧Q (.bl (if neg then !memD x ds else memD x ds)) S
theorem dn_in {neg:Bool}:Dn2 K (in3 neg) (rIn K neg):=by
  intro Z x y S Q3 v w H Q rx ry l h c
  obtain ⟨ds,hy,fx,fd,q⟩:=h
  obtain ⟨e1,f1⟩:=zfq rx fx
  subst e1
  rcases hy with hy|rfl
  · obtain ⟨a,vs,rfl,h1,h2⟩:=hy.down ry l
    obtain ⟨e2,f2⟩:=zdj h2 fd
    subst e2
    exact ⟨a,_,rfl,.inl h1,f1,f2,c _ S _ H (Kp.refl _ _) (.bl _) l q⟩
  · cases ry with
    | tup h1 h2 =>
      obtain ⟨e2,f2⟩:=zdj h2 fd
      subst e2
      exact ⟨_,_,rfl,.inr h1,f1,f2,c _ S _ H (Kp.refl _ _) (.bl _) l q⟩
theorem zhl (x:Str) (xs:List Str):memD (.str x) (xs.map D.str)=decide (x∈xs):=by
  unfold memD inV
  induction xs with
  | nil=>rfl
  | cons y ys ih =>
    simp only [List.map_cons,List.any_cons,List.mem_cons]
    rw [ih]
    by_cases h:y=x
    · subst h;simp [eqV,vD]
    · have h':¬x=y:=fun z=>h z.symm
      simp [eqV,vD,h,h']
theorem zhr (xs:List Str):(xs.map D.str).all flatD=true:=by
  induction xs with
  | nil=>rfl
  | cons y ys ih=>simp only [List.map_cons,List.all_cons,ih];rfl
def ixL3:R3:=fun x y S Q=>∃ds i d,IsL S x ds∧y=.int i∧atI ds i=some d∧Q d S
def ixT3:R3:=fun x y S Q=>∃ds i d,x=.tup ds∧y=.int i∧atI ds i=some d∧Q d S
def ixS3:R3:=fun x y S Q=>∃z i c,x=.str z∧y=.int i∧z.length≤sizeLine∧atI z.cps.toList i=some c∧Q (.str ⟨#[c]⟩) S
theorem Rps.atI {H:Hp} {ds:List D} {vs:List V} {i:Int} {d:D} (r:Rps K H ds vs) (h:L2.atI ds i=some d):∃v,L2.atI vs i=some v∧Rp K H d v:=by
  unfold L2.atI at h ⊢
  rw [r.len] at h
  cases e:ixN vs.length i with
  | none=>rw [e] at h;cases h
  | some j =>
    rw [e] at h
    exact r.at h
theorem zcx:Dn2 K ixL3 (rIxL K):=by
  intro Z x y S Q3 v w H Q rx ry l h c
  obtain ⟨ds,i,d,h1,rfl,h2,q⟩:=h
  cases ry
  obtain ⟨a,vs,rfl,h3,h4⟩:=h1.down rx l
  obtain ⟨u,h5,h6⟩:=h4.atI h2
  exact ⟨a,vs,i,u,rfl,rfl,h3,h5,c d S u H (Kp.refl _ _) h6 l q⟩
theorem zaq:Dn2 K ixT3 (rIxT K):=by
  intro Z x y S Q3 v w H Q rx ry l h c
  obtain ⟨ds,i,d,rfl,rfl,h2,q⟩:=h
  cases ry
  cases rx with
  | tup h3 h4 =>
    obtain ⟨u,h5,h6⟩:=h4.atI h2
    exact ⟨_,_,i,u,rfl,rfl,h3,h5,c d S u H (Kp.refl _ _) h6 l q⟩
theorem zol:Dn2 K ixS3 rIxS:=by
  intro Z x y S Q3 v w H Q rx ry l h c
  obtain ⟨z,i,k,rfl,rfl,hz,h2,q⟩:=h
  cases ry
  cases rx
  exact ⟨z,i,k,rfl,rfl,hz,h2,c _ S _ H (Kp.refl _ _) (.str _) l q⟩
noncomputable def cutD (xs:List D) (lo hi:Option Int):List D:=(xs.drop (HT.sIx xs.length 0 lo)).take (HT.sIx xs.length xs.length hi-HT.sIx xs.length 0 lo)
theorem Rps.cut {H:Hp} {ds:List D} {vs:List V} (r:Rps K H ds vs) (lo hi:Option Int):Rps K H (cutD ds lo hi) (cutV vs lo hi):=by
  unfold cutD cutV
  rw [r.len]
  exact (r.drop _).take _
def slL3:D→Option Int→Option Int→Hp3→K3→Prop:=fun x lo hi S Q=>∃ds,IsL S x ds∧newL S (cutD ds lo hi) Q
def slT3:D→Option Int→Option Int→Hp3→K3→Prop:=fun x lo hi S Q=>∃ds,x=.tup ds∧Q (.tup (cutD ds lo hi)) S
def slS3:D→Option Int→Option Int→Hp3→K3→Prop:=fun x lo hi S Q=>∃z,x=.str z∧z.length≤sizeLine∧Q (.str (textOf (cutT z.cps.toList lo hi))) S
theorem zd4:DnS K slL3 (rSlL K):=by
  intro Z x lo hi S Q3 v H Q rx l h c
  obtain ⟨ds,h1,q⟩:=h
  obtain ⟨a,vs,rfl,h3,h4⟩:=h1.down rx l
  exact ⟨a,vs,rfl,h3,newL.down q (h4.cut lo hi) l c⟩
theorem zes:DnS K slS3 rSlS:=by
  intro Z x lo hi S Q3 v H Q rx l h c
  obtain ⟨z,rfl,hz,q⟩:=h
  cases rx
  exact ⟨z,rfl,hz,c _ S _ H (Kp.refl _ _) (.str _) l q⟩
def catL3:R3:=fun x y S Q=>∃a b ds es,x=.ref a∧y=.ref b∧S a=some (.lst ds)∧S b=some (.lst es)∧ds.length+es.length≤sizeLine∧newL S (ds++es) Q
theorem ziq:Dn2 K catL3 rCat:=by
  intro Z x y S Q3 v w H Q rx ry l h c
  obtain ⟨a,b,ds,es,rfl,rfl,h1,h2,hz,q⟩:=h
  cases rx
  cases ry
  obtain ⟨vs,h3,h4⟩:=l.obj a _ h1
  obtain ⟨ws,h5,h6⟩:=l.obj b _ h2
  exact ⟨a,b,vs,ws,rfl,rfl,h3,h5,by rw [←h4.len,←h6.len];exact hz,newL.down q (h4.append h6) l c⟩
def catT3:R3:=fun x y S Q=>∃ds es,x=.tup ds∧y=.tup es∧ds≠[]∧ds.length+es.length≤sizeLine∧Q (.tup (ds++es)) S
def len3:List D→Hp3→K3→Prop:=fun xs S Q=>∃x ds,xs=[x]∧(IsL S x ds∨x=.tup ds)∧Q (.int ds.length) S
theorem zb8:DnC K len3 (fun xs H Q=>∃p ys,xs=[.ref p]∧(SqL K H p ys∨SqT K H p ys)∧Q (.int ys.length) H):=by
  intro Z ds S Q3 vs H Q r l h c
  obtain ⟨x,es,rfl,hx,q⟩:=h
  cases r with
  | cons r rr =>
    cases rr
    rcases hx with hx|rfl
    · obtain ⟨a,ws,rfl,h3,h4⟩:=hx.down r l
      refine ⟨a,ws,rfl,.inl h3,?_⟩
      rw [←h4.len]
      exact c _ S _ H (Kp.refl _ _) (.int _) l q
    · cases r with
      | tup h3 h4 =>
        refine ⟨_,_,rfl,.inr h3,?_⟩
        rw [←h4.len]
        exact c _ S _ H (Kp.refl _ _) (.int _) l q
def lenS3:List D→Hp3→K3→Prop:=fun xs S Q=>∃z,xs=[.str z]∧z.length≤sizeLine∧Q (.int z.length) S
theorem zp0:DnC K lenS3 (fun xs H Q=>∃z,xs=[.str z]∧z.length≤sizeLine∧Q (.int z.length) H):=by
  intro Z ds S Q3 vs H Q r l h c
  obtain ⟨z,rfl,hz,q⟩:=h
  cases r with
  | cons r rr =>
    cases rr
    cases r
    exact ⟨z,rfl,hz,c _ S _ H (Kp.refl _ _) (.int _) l q⟩
def toList3:List D→Hp3→K3→Prop:=fun xs S Q=>∃x ds,xs=[x]∧(IsL S x ds∨x=.tup ds)∧newL S ds Q
theorem zml:DnC K toList3 (fun xs H Q=>∃p ys,xs=[.ref p]∧(SqL K H p ys∨SqT K H p ys)∧∀l,H l=none→Q (.ref l) (upd H l (.lst ys))):=by
  intro Z ds S Q3 vs H Q r l h c
  obtain ⟨x,es,rfl,hx,q⟩:=h
  cases r with
  | cons r rr =>
    cases rr
    rcases hx with hx|rfl
    · obtain ⟨a,ws,rfl,h3,h4⟩:=hx.down r l
      exact ⟨a,ws,rfl,.inl h3,newL.down q h4 l c⟩
    · cases r with
      | tup h3 h4=>exact ⟨_,_,rfl,.inr h3,newL.down q h4 l c⟩
def toTup3:List D→Hp3→K3→Prop:=fun xs S Q=>∃x ds,xs=[x]∧(IsL S x ds∨x=.tup ds)∧Q (.tup ds) S
theorem zd3:DnC K toTup3 (fun xs H Q=>∃p ys,xs=[.ref p]∧((SqL K H p ys∧∀l,H l=none→Q (.ref l) (upd H l (.tup ys)))∨(SqT K H p ys∧Q (.ref p) H))):=by
  intro Z ds S Q3 vs H Q r l h c
  obtain ⟨x,es,rfl,hx,q⟩:=h
  cases r with
  | cons r rr =>
    cases rr
    rcases hx with hx|rfl
    · obtain ⟨a,ws,rfl,h3,h4⟩:=hx.down r l
      exact ⟨a,ws,rfl,.inl ⟨h3,tup.down q h4 l c⟩⟩
    · cases r with
      | tup h3 h4=>exact ⟨_,_,rfl,.inr ⟨h3,c _ S _ H (Kp.refl _ _) (.tup h3 h4) l q⟩⟩
def append3:D→List D→Hp3→K3→Prop:=fun x ys S Q=>∃a ds y,x=.ref a∧ys=[y]∧S a=some (.lst ds)∧ds.length<sizeLine∧Q .non (up S a (.lst (ds++[y])))
theorem zao:DnM K append3 rAppend:=by
  intro Z x ds S Q3 v vs H Q rx r l h c
  obtain ⟨a,es,y,rfl,rfl,e,hz,q⟩:=h
  cases rx
  cases r with
  | @cons _ w _ _ r rr =>
    cases rr
    obtain ⟨ws,h1,h2⟩:=l.obj a _ e
    have kk:Kp Z H (upd H a (.lst (ws++[w]))):=Kp.at l e
    exact ⟨a,ws,w,rfl,rfl,h1,by rw [←h2.len];exact hz,c _ _ _ _ kk .non (l.put (o:=.lst (es++[y])) kk (l.notZ e) ⟨_,zat,(h2.mono kk).append (.cons (r.mono kk) .nil)⟩) q⟩
def pop3:D→List D→Hp3→K3→Prop:=fun x ys S Q=>∃a ds y,x=.ref a∧ys=[]∧S a=some (.lst (ds++[y]))∧Q y (up S a (.lst ds))
theorem zda:DnM K pop3 rPopS:=by
  intro Z x ds S Q3 v vs H Q rx r l h c
  obtain ⟨a,es,y,rfl,rfl,e,q⟩:=h
  cases rx
  cases r
  obtain ⟨ws,h1,h2⟩:=l.obj a _ e
  obtain ⟨us,u,rfl,h3,h4⟩:=h2.snoc_inv
  have kk:Kp Z H (upd H a (.lst us)):=Kp.at l e
  exact ⟨a,us,u,rfl,rfl,h1,c _ _ _ _ kk (h4.mono kk) (l.put (o:=.lst es) kk (l.notZ e) ⟨_,zat,h3.mono kk⟩) q⟩
def extendT3:D→List D→Hp3→K3→Prop:=fun x ys S Q=>∃a ds es,x=.ref a∧ys=[.tup es]∧S a=some (.lst ds)∧ds.length+es.length≤sizeLine∧Q .non (up S a (.lst (ds++es)))
theorem zkt:DnM K extendT3 (rExtendT K):=by
  intro Z x ds S Q3 v vs H Q rx r l h c
  obtain ⟨a,es,fs,rfl,rfl,e,hz,q⟩:=h
  cases rx
  cases r with
  | cons r rr =>
    cases rr
    cases r with
    | @tup b us _ h3 h4 =>
      obtain ⟨ws,h1,h2⟩:=l.obj a _ e
      have kk:Kp Z H (upd H a (.lst (ws++us))):=Kp.at l e
      exact ⟨a,b,ws,us,rfl,rfl,h1,h3,by rw [←h2.len,←h4.len];exact hz,c _ _ _ _ kk .non (l.put (o:=.lst (es++fs)) kk (l.notZ e) ⟨_,zat,(h2.mono kk).append (h4.mono kk)⟩) q⟩
end
end E3
namespace E3
open PySem PySem.Spec PyProof.Rows L2 EE
section
variable {prog:Program} {w:World} {A:Around} {E:Value→Shared→Prop} {s:Shared}
theorem zeg {t sl:Addr} {items:Array Value} {vl vu:Value} {lo hi:Option Int} {Q:Value→Shared→Prop} (ht:IsTup s.heap t items) (hs:s.heap.IsSliceOf sl vl vu .none) (pl:IsPart vl lo) (pu:IsPart vu hi)
    (hw:HT.sIx items.size 0 lo=0∧HT.sIx items.size items.size hi=items.size) (h:Q (.ref t) s):wpAny (model prog w) A (getItem (.ref t) (.ref sl)) Q E s:=by
  obtain ⟨os,hos,hcs,hds⟩:=id hs
  have hTs:s.TypeIs (.ref sl) "slice":=⟨os,hos,hcs⟩
  obtain ⟨o,ho,hc,hd⟩:=id ht
  unfold getItem
  try with_reducible refine wpAny_holding ?_
  first|refine wpAny_bind (wpAny_pure ?_)|skip
  refine wpAny_bind (wpAny_sequenceKey ht.typeIs (by decide) ?_)
  refine wpAny_bind (wpAny_callSpecial?_slot (name:=Str.ofString "__getitem__") ht.typeIs PyProof.Rows.slot_tuple_getitem
    (wpAny_call_entry PyProof.Rows.slot_tuple_getitem ht.typeIs entry_tuple_getitem ?_ (args_tuple_getitem _ _)))
  show wpAny _ _ (Builtin.Tuple.tupleItemsOf (.ref t) >>= _) _ _ s
  refine wpAny_bind (tupleItemsOf_ ht ?_)
  refine wpAny_bind (wpAny_typeOf hTs ?_)
  rw [if_pos (by decide)]
  refine wpAny_bind (HT.zc9 hs pl pu ?_)
  have hyes:(((HT.sIx items.size 0 lo:Nat):Int)==0&&(1:Int)==1&&(HT.sIx items.size items.size hi-HT.sIx items.size 0 lo)==items.size)=true:=by
    rw [hw.1,hw.2]
    simp
  show wpAny _ _ (if (((HT.sIx items.size 0 lo:Nat):Int)==0&&(1:Int)==1&&(HT.sIx items.size items.size hi-HT.sIx items.size 0 lo)==items.size)=true then _ else _) _ _ s
  rw [if_pos hyes]
  refine wpAny_bind (m:=Builtin.Tuple.tupleIsExact (Value.ref t)) ?_
  unfold Builtin.Tuple.tupleIsExact
  first
    | refine wpAny_bind (wpAny_typeOf ht.typeIs (wpAny_pure ?_))
    | exact wpAny_bind (wpAny_typeOf ht.typeIs (wpAny_pure ?_))
  rw [if_pos (by decide)]
  exact wpAny_bind (wpAny_rule (wpAny_pure ⟨_,rfl,wpAny_pure h⟩))
end
section
variable {X:Cx}
def rSlTA (K:PySem.W.Frag):V→Option Int→Option Int→Hp→VK→Prop:=fun x lo hi H Q=>∃a xs,x=.ref a∧SqT K H a xs ∧
  ((HT.sIx xs.length 0 lo=0∧HT.sIx xs.length xs.length hi=xs.length)→Q (.ref a) H)∧(¬(HT.sIx xs.length 0 lo=0∧HT.sIx xs.length xs.length hi=xs.length)→∀p,H p=none→Q (.ref p) (upd H p (.tup (cutV xs lo hi))))
theorem zgs:SlR X (rSlTA X.K):=by
  intro pins s σ H x v vl vu lo hi sl Q I rx hs pl pu h
  obtain ⟨a,xs,rfl,hx,h1,h2⟩:=h
  by_cases hw:HT.sIx xs.length 0 lo=0∧HT.sIx xs.length xs.length hi=xs.length
  · cases rx
    obtain ⟨its,r,ht,hz⟩:=I.tuple hx
    have hlen:its.toArray.size=xs.length:=by rw [List.size_toArray];exact r.length.symm
    refine ⟨"tuple",_,PyProof.Rows.slot_tuple_getitem.lookup,ht.typeIs,?_⟩
    refine zeg ht hs pl pu (by rw [hlen];exact hw) ?_
    exact ⟨.ref a,H,I,rfl,h1 hw⟩
  · exact sl_tup pins s σ H _ v vl vu lo hi sl Q I rx hs pl pu ⟨a,xs,rfl,hx,hw,h2 hw⟩
theorem zn7 {xs:List D} {lo hi:Option Int} (h:HT.sIx xs.length 0 lo=0∧HT.sIx xs.length xs.length hi=xs.length):cutD xs lo hi=xs:=by
  unfold cutD
  rw [h.1,h.2,List.drop_zero,Nat.sub_zero,List.take_length]
theorem zjk {K:PySem.W.Frag}:DnS K slT3 (rSlTA K):=by
  intro Z x lo hi S Q3 v H Q rx l h c
  obtain ⟨ds,rfl,q⟩:=h
  cases rx with
  | @tup a vs _ h3 h4 =>
    refine ⟨a,vs,rfl,h3,fun e=>?_,fun _=>tup.down q (h4.cut lo hi) l c⟩
    rw [←h4.len] at e
    rw [zn7 e] at q
    exact c _ S _ H (Kp.refl _ _) (.tup h3 h4) l q
theorem zmo {K:PySem.W.Frag}:Dn2 K catT3 (rCatT K):=by
  intro Z x y S Q3 v w H Q rx ry l h c
  obtain ⟨ds,es,rfl,rfl,hn,hz,q⟩:=h
  cases rx with
  | @tup a vs _ h1 h2 =>
    cases ry with
    | @tup b ws _ h3 h4 =>
      refine ⟨a,b,vs,ws,rfl,rfl,h1,h3,?_,by rw [←h2.len,←h4.len];exact hz,fun e=>?_,fun _=>tup.down q (h2.append h4) l c⟩
      · rintro rfl
        cases h2
        exact hn rfl
      · subst e
        cases h4
        rw [List.append_nil] at q
        exact c _ S _ H (Kp.refl _ _) (.tup h1 h2) l q
noncomputable def kin (m n:String):Option Bool:=if m=n then some true else if m="bool"∧n="int" then some true else
  if m∈["NoneType","bool","int","str","tuple","list","dict"]∧n∈["bool","int","str","tuple","list","dict"] then some false else none
end
noncomputable abbrev Sp3:=List D→Hp3→K3→X3→Prop
inductive lSp (K:PySem.W.Frag) (sp:Sp3) (vs:List V) (H:Hp) (Q:VK) (E:XK):Prop where
  | mk (Z:Zt) (ds:List D) (S:Hp3) (Q3:K3) (E3:X3) (h1:Rps K H ds vs) (h2:Rl K Z S H) (h3:sp ds S Q3 E3) (h4:CK K Z H Q3 Q) (h5:CE3 K Z H E3 E)
structure Cal3 (P:Program) (w:World) (K:PySem.W.Frag) (mg:Str→Option Value) (base:Heap) (k:Nat) (x:Str) (ps:List Str) (sp:Sp3):Prop where
  ex:∃f fd,FnOk P w K mg base (CX1 P w) k f fd ps (lSp K sp)∧Binds K fd ps []∧PySem.W.keepIn K (.ref f)=true∧mg x=some (.ref f)
noncomputable def start3 (N:List Str) (ds:List D):St3:=ds.map some++List.replicate (N.length-ds.length) none
section
variable {P:Program} {w:World} {K:PySem.W.Frag} {mg:Str→Option Value} {base:Heap}
theorem Cal3.mono {j k:Nat} {x:Str} {ps:List Str} {sp:Sp3} (C:Cal3 P w K mg base j x ps sp) (h:j≤k):Cal3 P w K mg base k x ps sp:=by
  obtain ⟨f,fd,F,r⟩:=C.ex
  exact ⟨f,fd,F.mono h,r⟩
theorem Cal3.imp {k:Nat} {x:Str} {ps:List Str} {sp sp':Sp3} (C:Cal3 P w K mg base k x ps sp) (h:∀ds S Q E,sp' ds S Q E→sp ds S Q E):Cal3 P w K mg base k x ps sp':=by
  obtain ⟨f,fd,F,r⟩:=C.ex
  refine ⟨f,fd,F.imp fun vs H Q E z_1=>by obtain ⟨Z,ds,S,Q3,E3,h1,h2,h3,h4,h5⟩:=z_1;exact ⟨Z,ds,S,Q3,E3,h1,h2,h _ _ _ _ h3,h4,h5⟩,r⟩
def Spl (S A B:Hp3):Prop:=∀a,(S a=A a∧B a=none)∨(A a=none∧S a=B a)
def Sub (A B:Hp3):Prop:=∀a o,A a=some o→B a=some o
def fr (sp:Sp3):Sp3:=fun ds S Q E=>∃S0 F,Spl S S0 F∧sp ds S0 (fun d S1=>∃S2,Sub S2 S1∧∀S',Spl S' S2 F→Q d S') (fun C a S1=>∃S2,Sub S2 S1∧∀S',Spl S' S2 F→E C a S')
theorem Rl.sub {Z:Zt} {S S':Hp3} {H:Hp} (l:Rl K Z S H) (h:Sub S' S):Rl K Z S' H:=by
  refine ⟨fun a o e=>l.obj a o (h a o e),fun a z=>⟨?_,(l.hid a z).2⟩,l.old⟩
  cases e:S' a with
  | none=>rfl
  | some o =>
    have:=h a o e
    rw [(l.hid a z).1] at this
    cases this
noncomputable def join (A B:Hp3):Hp3:=fun a=>match A a with
  | some o=>some o
  | none=>B a
noncomputable abbrev Zt.with (Z:Zt) (H:Hp) (F:Hp3):Zt:=⟨fun a=>Z a∨F a≠none,H⟩
theorem Rl.frame {Z:Zt} {S S0 F S1 S2:Hp3} {H H':Hp} (l:Rl K Z S H) (hs:Spl S S0 F) (k:Kp (Z.with H F) H H') (l1:Rl K (Z.with H F) S1 H') (h2:Sub S2 S1) :
    Spl (join S2 F) S2 F∧Rl K Z (join S2 F) H':=by
  have l2:=l1.sub h2
  have dis:∀a,F a≠none→S2 a=none:=fun a z=>(l2.hid a (.inr z)).1
  refine ⟨fun a=>?_,fun a o e=>?_,fun a z=>?_,l.old.trans (k.unhide fun a z=>.inl z)⟩
  · cases e:F a with
    | none =>
      refine .inl ⟨?_,rfl⟩
      unfold join
      cases e2:S2 a with
      | none=>exact e
      | some o=>rfl
    | some o =>
      have:=dis a (by rw [e];simp)
      refine .inr ⟨this,?_⟩
      unfold join
      rw [this]
      exact e
  · unfold join at e
    cases e2:S2 a with
    | some q =>
      rw [e2] at e
      cases e
      exact l2.obj a _ e2
    | none =>
      rw [e2] at e
      have e:F a=some o:=e
      have hne:F a≠none:=by rw [e];simp
      have hS:S a=some o:=by
        rcases hs a with ⟨_,z⟩|⟨_,z⟩
        · exact absurd z hne
        · rw [z];exact e
      exact (l.obj a o hS).keep k (k.hid a (.inr hne))
  · have z1:=l2.hid a (.inl z)
    have z2:=(l.hid a z).1
    refine ⟨?_,z1.2⟩
    unfold join
    rw [z1.1]
    show F a=none
    rcases hs a with ⟨_,q⟩|⟨_,q⟩
    · exact q
    · rw [←q];exact z2
theorem Cal3.frame {k:Nat} {x:Str} {ps:List Str} {sp:Sp3} (C:Cal3 P w K mg base k x ps sp):Cal3 P w K mg base k x ps (fr sp):=by
  obtain ⟨f,fd,F0,r⟩:=C.ex
  refine ⟨f,fd,F0.imp fun vs H Q E ⟨Z,ds,S,Q3,E3,h1,l,⟨S0,F,hs,h3⟩,cq,ce⟩=>?_,r⟩
  refine ⟨Z.with H F,ds,S0,_,_,h1,⟨fun a o e=>?_,fun a z=>?_,Kp.refl _ _⟩,h3,?_,?_⟩
  · refine l.obj a o ?_
    rcases hs a with ⟨q,_⟩|⟨q,_⟩
    · rw [q];exact e
    · rw [q] at e;cases e
  · rcases z with z|z
    · have z2:=l.hid a z
      refine ⟨?_,z2.2⟩
      rcases hs a with ⟨q,_⟩|⟨q,_⟩
      · rw [←q];exact z2.1
      · exact q
    · rcases hs a with ⟨_,q⟩|⟨q,q2⟩
      · exact absurd q z
      · refine ⟨q,?_⟩
        cases e:F a with
        | none=>exact absurd e z
        | some o=>exact (l.obj a o (q2.trans e)).there
  · rintro d S1 v H' k1 r1 l1 ⟨S2,hsub,q⟩
    obtain ⟨sp',l'⟩:=l.frame hs k1 l1 hsub
    exact cq d _ v H' (k1.unhide fun a z=>.inl z) r1 l' (q _ sp')
  · rintro C a S1 H' k1 l1 ha ⟨S2,hsub,q⟩
    obtain ⟨sp',l'⟩:=l.frame hs k1 l1 hsub
    exact ce C a _ H' (k1.unhide fun a z=>.inl z) l' ha (q _ sp')
theorem zh7 (S:Hp3):Spl S emp S:=fun _=>.inr ⟨rfl,rfl⟩
theorem zf6 {S F:Hp3} (h:Spl S emp F):S=F:=by
  funext a
  rcases h a with ⟨q,z⟩|⟨_,q⟩
  · rw [q,z];rfl
  · exact q
theorem zk2 (S:Hp3):Sub emp S:=fun a o e=>(nomatch e)
noncomputable def one (p:Addr) (o:O):Hp3:=fun a=>if a=p then some o else none
theorem zou {S F:Hp3} {p:Addr} {o:O} (h:Spl S (one p o) F):F p=none∧S=up F p o:=by
  have hp:F p=none:=by
    rcases h p with ⟨_,z⟩|⟨q,_⟩
    · exact z
    · simp [one] at q
  refine ⟨hp,funext fun a=>?_⟩
  by_cases e:a=p
  · subst e
    rw [zab]
    rcases h a with ⟨q,_⟩|⟨q,_⟩
    · rw [q];simp [one]
    · simp [one] at q
  · rw [zbm e]
    rcases h a with ⟨q,z⟩|⟨_,q⟩
    · rw [q,z];simp [one,e]
    · exact q
theorem sub_one {S:Hp3} {p:Addr} {o:O} (h:S p=some o):Sub (one p o) S:=fun a u e=>by
  unfold one at e
  split at e
  · subst a;cases e;exact h
  · cases e
def vS (A:List D→(D→Prop)→Prop):Sp3:=fun ds S Q _=>A ds fun d=>Q d S
def lSt (A:List D→(List D→Prop)→Prop):Sp3:=fun ds S Q _=>A ds fun ys=>newL S ys Q
variable {x:Str} {st:Stmt} {N ps:List Str} {k:Nat}
noncomputable abbrev Zt.at (Z:Zt) (H:Hp):Zt:=⟨Z.p,H⟩
theorem Rl.into {Z:Zt} {S:Hp3} {H:Hp} (l:Rl K Z S H):Rl K (Z.at H) S H:=⟨l.obj,l.hid,Kp.refl _ _⟩
theorem Rl.out {Z:Zt} {S S':Hp3} {H H':Hp} (l':Rl K (Z.at H) S' H') (l:Rl K Z S H) (k:Kp (Z.at H) H H'):Rl K Z S' H':=⟨l'.obj,l'.hid,l.old.trans (k.unhide fun _ z=>z)⟩
noncomputable def zx0 {X:Cx} (Z:Zt) (H:Hp):ZX X NoX:=ZX.no X (Z.at H)
theorem _root_.EE.Has.cal3 {sp:Sp3} (h:Has K mg x st ps) (S:FnScope N ps (defScope st)) (len:∀vs H Q E,sp vs H Q E→vs.length=ps.length)
    (hbody:∀(f:Addr) (cdv:Value) (A:Around) (outer:List Env) (s:Shared) (H:Hp) (E:XK) (ds:List D) (S:Hp3) (Q:K3) (E3:X3),Room k (A.deeper (envOfC x (defScope st) s.heap.objs.size f cdv))→sp ds S Q E3 →
      ∃t Q',PSs3 (cxOf (CX1 P w) P w K mg base N x (defScope st) f cdv A outer s H E).nox NoX (defBody st) t∧t {nx:=fun _ S'=>Q' .non S',rt:=Q'} (start3 N ds) S∧∀d S',Q' d S'→Q d S'):Cal3 P w K mg base (k+1) x ps sp:=by
  obtain ⟨f,fd,F,b,m⟩:=h.ex
  obtain ⟨oc,od,kV,doc,pm,an,cdv,ct,osl,rfl,lk,hcd⟩:=F.ex
  refine ⟨f,_,zn2 lk hcd S (fun vs H Q E z_2=>by obtain ⟨Z,ds,S,Q3,E3,h1,_,h3,_,_⟩:=z_2;rw [←h1.len];exact len _ _ _ _ h3) fun A outer s H vs Q E hr ⟨Z,ds,S3,Q3,E3,h1,h2,h3,h4,_⟩=>?_,b,F.kp,m⟩
  obtain ⟨t,Q',ht,q,hw⟩:=hbody f cdv A outer s H E ds S3 Q3 E3 hr h3
  refine ⟨_,(ht (zx0 Z H)).nox,_,start3 N ds,S3,?_,h2.into,q,⟨?_,?_,?_,?_⟩⟩
  · unfold start3 L2.start
    rw [h1.len]
    exact zbc (SR.ofRps h1) (SR.nones _)
  · intro σ S' τ H' kk _ l q'
    exact h4 .non S' .non H' (kk.unhide fun _ z=>z) .non (l.out h2 kk) (hw _ _ q')
  · exact fun _ _ _ _ _ _ _ z=>z
  · exact fun _ _ _ _ _ _ _ z=>z
  · exact fun d S' v H' kk r l q'=>h4 d S' v H' (kk.unhide fun _ z=>z) r (l.out h2 kk) (hw _ _ q')
theorem _root_.EE.Has.val {A:List D→(D→Prop)→Prop} (h:Has K mg x st ps) (S:FnScope N ps (defScope st)) (len:∀ds q,A ds q→ds.length=ps.length)
    (hbody:∀(f:Addr) (cdv:Value) (Ar:Around) (outer:List Env) (s:Shared) (H:Hp) (E:XK) (ds:List D) (q:D→Prop),Room k (Ar.deeper (envOfC x (defScope st) s.heap.objs.size f cdv))→A ds q →
      ∃t,PSs3 (cxOf (CX1 P w) P w K mg base N x (defScope st) f cdv Ar outer s H E).nox NoX (defBody st) t∧t {nx:=fun _ _=>q .non,rt:=fun d _=>q d} (start3 N ds) emp):Cal3 P w K mg base (k+1) x ps (vS A):=by
  have C:Cal3 P w K mg base (k+1) x ps (fun ds S Q E=>S=emp∧∃q,A ds q∧∀d S',q d→Q d S'):=by
    refine h.cal3 S (fun vs H Q E z_3=>by obtain ⟨_,q,z,_⟩:=z_3;exact len _ _ z) fun f cdv Ar outer s H E ds S3 Q E3 hr z=>?_
    obtain ⟨rfl,q,z,hq⟩:=z
    obtain ⟨t,h1,h2⟩:=hbody f cdv Ar outer s H E ds _ hr z
    exact ⟨t,fun d _=>q d,h1,h2,hq⟩
  exact C.frame.imp fun ds S Q E z=>⟨emp,S,zh7 S,rfl,_,z,fun d S1 hq=>⟨emp,zk2 _,fun S' h=>zf6 h▸hq⟩⟩
theorem _root_.EE.Has.lst {A:List D→(List D→Prop)→Prop} (h:Has K mg x st ps) (S:FnScope N ps (defScope st)) (len:∀ds q,A ds q→ds.length=ps.length)
    (hbody:∀(f:Addr) (cdv:Value) (Ar:Around) (outer:List Env) (s:Shared) (H:Hp) (E:XK) (ds:List D) (q:List D→Prop),Room k (Ar.deeper (envOfC x (defScope st) s.heap.objs.size f cdv))→A ds q →
      ∃t,PSs3 (cxOf (CX1 P w) P w K mg base N x (defScope st) f cdv Ar outer s H E).nox NoX (defBody st) t∧t {nx:=fun _ _=>False,rt:=fun d S'=>∃p ys,d=.ref p∧S' p=some (.lst ys)∧q ys} (start3 N ds) emp):Cal3 P w K mg base (k+1) x ps (lSt A):=by
  have C:Cal3 P w K mg base (k+1) x ps (fun ds S Q E=>S=emp∧∃q,A ds q∧∀d S',(∃p ys,d=.ref p∧S' p=some (.lst ys)∧q ys)→Q d S'):=by
    refine h.cal3 S (fun vs H Q E z_4=>by obtain ⟨_,q,z,_⟩:=z_4;exact len _ _ z) fun f cdv Ar outer s H E ds S3 Q E3 hr z=>?_
    obtain ⟨rfl,q,z,hq⟩:=z
    obtain ⟨t,h1,h2⟩:=hbody f cdv Ar outer s H E ds _ hr z
    refine ⟨t,fun d S'=>∃p ys,d=.ref p∧S' p=some (.lst ys)∧q ys,h1,?_,hq⟩
    have e:(fun (_:St3) (_:Hp3)=>False)=fun (_:St3) (S':Hp3)=>∃p ys,D.non=.ref p∧S' p=some (.lst ys)∧q ys:=by
      funext _ S'
      refine propext ⟨False.elim,fun z=>?_⟩
      obtain ⟨p,ys,z,_⟩:=z
      cases z
    rw [←e]
    exact h2
  refine C.frame.imp fun ds S Q E z=>⟨emp,S,zh7 S,rfl,_,z,fun d S1 ⟨p,ys,e,hp,hq⟩=>⟨one p (.lst ys),sub_one hp,fun S' h=>?_⟩⟩
  obtain ⟨h1,rfl⟩:=zou h
  subst e
  exact hq p h1
section
variable {X:Cx} {CX:CXT} {k:Nat} {f C:Addr} {fd:FuncData} {ps:List Str} {sp:Sp} {dvs:List V} {ds:List Value} {E:L2.St→XK} {x:Str} {p pos:Pos} {e:Expr} {es:List Expr} {t:TA}
theorem znq (F:FnOk X.prog X.w X.K X.mg X.base CX k f fd ps sp) (hr:Room k X.A) (hg:Gl X x) (hm:X.mg x=some (.ref f)) (hk:PySem.W.keepIn X.K (.ref f)=true) (hb:Binds X.K fd ps ds) (hd:Vals dvs ds) (hx:∀τ,PassesAt CX X (E τ) τ)
    (ha:PA X (e::es) t) (hdb:(x==("__debug__":Str))=false:=by decide) (he:starEach (e::es) X.env=(false,eval e X.env)::starEach es X.env:=by rfl) (hpl:(backTo pos (starEach es X.env)).any (·.1)=false:=by rfl) :
    PE X (.Call (.Name x p) (e::es) [] pos) (fun τ H Q=>t τ H fun vs H1=>sp (vs++dvs) H1 Q (E τ)):=by
  intro pins s σ H Q I h
  refine wpAny_Call_Name_kw (zfl I hg hm ?_ hdb)
  refine PySem.W.callWith_K (h₀:=X.base) I.ok.mod.kin hk (thn (ha pos pins s σ H _ I h) fun us s1 ⟨vs,H1,I1,r,q⟩=>⟨I1.kIn,?_⟩) he hpl
  have r2:Vals (vs++dvs) (us++ds):=r.append hd
  have hl:(us++ds).length=ps.length:=by rw [←r2.length];exact F.len _ _ _ _ q
  refine wpAny_call (codeAny_mono (F.run X.A X.stack s1 H1 ⟨us,[]⟩ (us++ds) (vs++dvs) Q (E σ) hr I1.env0 (hb s1 us I1.kIn hl) r2 q) fun r s' hq=>?_)
  cases r with
  | error e=>exact hx σ pins H1 s1 e s' I1 hq
  | ok fl =>
    cases fl with
    | ret u=>exact I1.after hq
    | next=>exact False.elim hq
    | brk=>exact False.elim hq
    | cont=>exact False.elim hq
end
def call3 (sp:Sp3) (W3:W3T) (t:TA3):TE3:=fun σ S Q=>t σ S fun ds S1=>sp ds S1 Q (W3 σ)
variable {X:Cx} {W3:W3T} {y:Str} {pos p:Pos} {e:Expr} {es:List Expr} {t:TA3} {sp:Sp3}
theorem zaj (C:Cal3 X.prog X.w X.K X.mg X.base k y ps sp) (hr:Room k X.A) (hg:Gl X y) (ha:PA3 X W3 (e::es) t)
    (hdb:(y==("__debug__":Str))=false:=by decide) (he:starEach (e::es) X.env=(false,eval e X.env)::starEach es X.env:=by rfl) (hpl:(backTo pos (starEach es X.env)).any (·.1)=false:=by rfl) :
    PE3 X W3 (.Call (.Name y p) (e::es) [] pos) (call3 sp W3 t):=by
  obtain ⟨f,fd,F,b,kp,m⟩:=C.ex
  refine fun Z=>PE.imp (znq F hr hg m kp b .nil Z.pass (ha Z) hdb he hpl) fun τ H Q ⟨σ,S,Q3,hs,hr,ht,hc⟩=>?_
  refine ⟨σ,S,_,hs,hr,ht,fun ds S1 vs H1 k1 r1 l1 q1=>?_⟩
  exact ⟨Z.z,ds,S1,Q3,W3 σ,by rw [List.append_nil];exact r1,l1,q1,hc.mono k1,fun C a S2 H2 k2 l2 ha z=>Z.ce σ τ C a S2 H2 (hs.mono (k1.trans k2)) l2 ha z⟩
end
end E3
namespace E3
open PySem PySem.Spec PyProof.Rows L2 EE
section
variable {σ:St3} {S:Hp3} {Q:K3} {QT:Bool→Hp3→Prop} {QA:List D→Hp3→Prop} {QO:Option Int→Hp3→Prop} {ta tb te:TE3} {tA tB:TT3} {t u:TS3} {al:TA3} {r:R3} {n b c:St3→Hp3→Prop} {rt:K3} {i:Nat}
theorem j_seq (h:t ⟨u ⟨n,rt,b,c⟩,rt,b,c⟩ σ S):seq3 t u ⟨n,rt,b,c⟩ σ S:=h
theorem j_next (h:n σ S):next3 ⟨n,rt,b,c⟩ σ S:=h
theorem j_drop (h:te σ S fun _ S1=>n σ S1):drop3 te ⟨n,rt,b,c⟩ σ S:=h
theorem j_ret (h:te σ S rt):ret3 te ⟨n,rt,b,c⟩ σ S:=h
theorem j_set (h:te σ S fun x S1=>n (σ.set i (some x)) S1):set3 i te ⟨n,rt,b,c⟩ σ S:=h
theorem j_asg {g:TG3} (h:te σ S fun x S1=>g x σ S1 n):asg3 te g ⟨n,rt,b,c⟩ σ S:=h
theorem j_aug {f:Int→Int→Int} {a:Int} (ha:σ[i]?=some (some (.int a))) (h:te σ S fun y S1=>∃b,y=.int b∧n (σ.set i (some (.int (f a b)))) S1):aug3 i te f ⟨n,rt,b,c⟩ σ S:=⟨a,ha,h⟩
theorem j_ei {k:Int} {P:Int→Prop} (h:P k):∃b,D.int k=.int b∧P b:=⟨k,rfl,h⟩
theorem j_ifs (h:tA σ S fun b' S1=>if b'=true then t ⟨n,rt,b,c⟩ σ S1 else u ⟨n,rt,b,c⟩ σ S1):ifs3 tA t u ⟨n,rt,b,c⟩ σ S:=h
theorem j_name {v:D} {Qs:St3→Hp3→Prop} (h:Qs (σ.set i (some v)) S):name3 i v σ S Qs:=h
theorem j_v {d:D} (h:σ[i]?=some (some d)) (q:Q d S):v3 i σ S Q:=⟨d,h,q⟩
theorem j_c {d:D} (q:Q d S):c3 d σ S Q:=q
theorem j_o (h:ta σ S fun x S1=>tb σ S1 fun y S2=>r x y S2 Q):o3 r ta tb σ S Q:=h
theorem j_i3 {g:Int→Int→D} {k j:Int} (q:Q (g k j) S):i3 g (.int k) (.int j) S Q:=⟨k,j,rfl,rfl,q⟩
theorem j_mod {g:Int→Int→D} {k j:Int} (h:0<j) (q:Q (g k j) S):ic3 (fun _ j=>0<j) g (.int k) (.int j) S Q:=⟨k,j,rfl,rfl,h,q⟩
theorem j_div {g:Int→Int→D} {k j:Int} (h:0<j∧j<1073741824) (q:Q (g k j) S):ic3 CDiv g (.int k) (.int j) S Q:=⟨k,j,rfl,rfl,h,q⟩
theorem j_addS {x y:Str} (h:x.length+y.length≤sizeLine) (q:Q (.str (x++y)) S):addS3 (.str x) (.str y) S Q:=⟨x,y,rfl,rfl,h,q⟩
theorem j_isN {x:D} (q:Q (.bl (isNon x)) S):isN3 x .non S Q:=⟨rfl,q⟩
theorem j_notN {x:D} (q:Q (.bl (!isNon x)) S):notN3 x .non S Q:=⟨rfl,q⟩
theorem j_eqI {k j:Int} (q:Q (.bl (decide (k=j))) S):eqI3 (.int k) (.int j) S Q:=⟨k,j,rfl,rfl,q⟩
theorem j_neI {k j:Int} (q:Q (.bl (!decide (k=j))) S):neI3 (.int k) (.int j) S Q:=⟨k,j,rfl,rfl,q⟩
theorem j_eqS {k j:Str} (q:Q (.bl (decide (k=j))) S):eqS3 (.str k) (.str j) S Q:=⟨k,j,rfl,rfl,q⟩
theorem j_neS {k j:Str} (q:Q (.bl (!decide (k=j))) S):neS3 (.str k) (.str j) S Q:=⟨k,j,rfl,rfl,q⟩
theorem j_test (h:te σ S fun x S'=>∃k,x=.bl k∧QT k S'):test3 te σ S QT:=h
theorem j_eb {k:Bool} {P:Bool→Prop} (h:P k):∃b,D.bl k=.bl b∧P b:=⟨k,rfl,h⟩
theorem j_truth (h:te σ S fun x S1=>∃k,Tru S1 x k∧QT k S1):truth3 te σ S QT:=h
theorem j_truL {a:Addr} {ds:List D} {P:Bool→Prop} (hS:S a=some (.lst ds)) (h:P (!ds.isEmpty)):∃k,Tru S (.ref a) k∧P k:=⟨_,.inl ⟨ds,hS,rfl⟩,h⟩
theorem j_and (h:tA σ S fun c' S1=>if c'=true then tB σ S1 QT else QT false S1):and3 tA tB σ S QT:=h
theorem j_not (h:tA σ S fun c' S1=>QT (!c') S1):not3 tA σ S QT:=h
theorem j_ifx (h:tA σ S fun c' S1=>if c'=true then ta σ S1 Q else tb σ S1 Q):if3 tA ta tb σ S Q:=h
theorem j_nil (h:QA [] S):nil3 σ S QA:=h
theorem j_cons (h:te σ S fun x S1=>al σ S1 fun xs S2=>QA (x::xs) S2):cons3 te al σ S QA:=h
theorem j_tup (h:al σ S fun xs S1=>xs.length≤sizeLine∧Q (.tup xs) S1):tup3 al σ S Q:=h
theorem j_lst (h:al σ S fun xs S1=>xs.length≤sizeLine∧newL S1 xs Q):lst3 al σ S Q:=h
theorem j_sz {α:Type} {xs:List α} {P:Prop} (h:xs.length≤sizeLine) (q:P):xs.length≤sizeLine∧P:=⟨h,q⟩
theorem j_cb {f:List D→Hp3→K3→Prop} (h:al σ S fun vs S1=>f vs S1 Q):cb3 f al σ S Q:=h
theorem j_call {sp:Sp3} {W3:W3T} (h:al σ S fun ds S1=>sp ds S1 Q (W3 σ)):call3 sp W3 al σ S Q:=h
theorem j_bm {T:String} {m:D→List D→Hp3→K3→Prop} (h:te σ S fun x S1=>TyD T x S1∧al σ S1 fun xs S2=>m x xs S2 Q):bm3 T m te al σ S Q:=h
theorem j_bm0 {T:String} {m:D→List D→Hp3→K3→Prop} (h:te σ S fun x S1=>TyD T x S1∧m x [] S1 Q):bm03 T m te σ S Q:=h
theorem j_tyL {a:Addr} {ds:List D} {P:Prop} (h:S a=some (.lst ds)) (q:P):TyD "list" (.ref a) S∧P:=⟨.inr (.inl ⟨rfl,ds,.inl ⟨a,rfl,h⟩⟩),q⟩
theorem j_append {a:Addr} {ds:List D} {y:D} (h:S a=some (.lst ds)) (hz:ds.length<sizeLine) (q:Q .non (up S a (.lst (ds++[y])))):append3 (.ref a) [y] S Q:=⟨a,ds,y,rfl,rfl,h,hz,q⟩
theorem j_pop {a:Addr} {ds:List D} {y:D} (h:S a=some (.lst (ds++[y]))) (q:Q y (up S a (.lst ds))):pop3 (.ref a) [] S Q:=⟨a,ds,y,rfl,rfl,h,q⟩
theorem j_extendT {a:Addr} {ds es:List D} (h:S a=some (.lst ds)) (hz:ds.length+es.length≤sizeLine) (q:Q .non (up S a (.lst (ds++es)))):extendT3 (.ref a) [.tup es] S Q:=⟨a,ds,es,rfl,rfl,h,hz,q⟩
theorem j_ixT {ds:List D} {k:Int} {d:D} (h:atI ds k=some d) (q:Q d S):ixT3 (.tup ds) (.int k) S Q:=⟨ds,k,d,rfl,rfl,h,q⟩
theorem j_ixL {a:Addr} {ds:List D} {k:Int} {d:D} (hS:S a=some (.lst ds)) (h:atI ds k=some d) (q:Q d S):ixL3 (.ref a) (.int k) S Q:=⟨ds,k,d,.inl ⟨a,rfl,hS⟩,rfl,h,q⟩
theorem j_ixR {ds:List D} {k:Int} {d:D} (h:atI ds k=some d) (q:Q d S):ixL3 (.rol ds) (.int k) S Q:=⟨ds,k,d,.inr rfl,rfl,h,q⟩
theorem j_ixS {z:Str} {k:Int} {cp:Nat} (hz:z.length≤sizeLine) (h:atI z.cps.toList k=some cp) (q:Q (.str ⟨#[cp]⟩) S):ixS3 (.str z) (.int k) S Q:=⟨z,k,cp,rfl,rfl,hz,h,q⟩
theorem j_lenL {a:Addr} {ds:List D} (hS:S a=some (.lst ds)) (q:Q (.int ds.length) S):len3 [.ref a] S Q:=⟨_,ds,rfl,.inl (.inl ⟨a,rfl,hS⟩),q⟩
theorem j_lenR {ds:List D} (q:Q (.int ds.length) S):len3 [.rol ds] S Q:=⟨_,ds,rfl,.inl (.inr rfl),q⟩
theorem j_lenT {ds:List D} (q:Q (.int ds.length) S):len3 [.tup ds] S Q:=⟨_,ds,rfl,.inr rfl,q⟩
theorem j_lenS {z:Str} (hz:z.length≤sizeLine) (q:Q (.int z.length) S):lenS3 [.str z] S Q:=⟨z,rfl,hz,q⟩
theorem j_toListL {a:Addr} {ds:List D} (hS:S a=some (.lst ds)) (q:newL S ds Q):toList3 [.ref a] S Q:=⟨_,ds,rfl,.inl (.inl ⟨a,rfl,hS⟩),q⟩
theorem j_toTupL {a:Addr} {ds:List D} (hS:S a=some (.lst ds)) (q:Q (.tup ds) S):toTup3 [.ref a] S Q:=⟨_,ds,rfl,.inl (.inl ⟨a,rfl,hS⟩),q⟩
theorem j_sl {f:D→Option Int→Option Int→Hp3→K3→Prop} {tl th:TO3} (h:te σ S fun x S1=>tl σ S1 fun l S2=>th σ S2 fun u' S3=>f x l u' S3 Q):sl3 f te tl th σ S Q:=h
theorem j_nopart (h:QO none S):nopart3 σ S QO:=h
theorem j_part (h:te σ S fun x S1=>∃k,x=.int k∧QO (some k) S1):part3 te σ S QO:=h
theorem j_slL {a:Addr} {ds:List D} {lo hi:Option Int} (hS:S a=some (.lst ds)) (q:newL S (cutD ds lo hi) Q):slL3 (.ref a) lo hi S Q:=⟨ds,.inl ⟨a,rfl,hS⟩,q⟩
theorem j_slT {ds:List D} {lo hi:Option Int} (q:Q (.tup (cutD ds lo hi)) S):slT3 (.tup ds) lo hi S Q:=⟨ds,rfl,q⟩
theorem j_slS {z:Str} {lo hi:Option Int} (hz:z.length≤sizeLine) (q:Q (.str (textOf (cutT z.cps.toList lo hi))) S):slS3 (.str z) lo hi S Q:=⟨z,rfl,hz,q⟩
theorem j_catL {a a':Addr} {ds es:List D} (h:S a=some (.lst ds)) (h':S a'=some (.lst es)) (hz:ds.length+es.length≤sizeLine) (q:newL S (ds++es) Q):catL3 (.ref a) (.ref a') S Q:=⟨a,a',ds,es,rfl,rfl,h,h',hz,q⟩
theorem j_catT {ds es:List D} (hn:ds≠[]) (hz:ds.length+es.length≤sizeLine) (q:Q (.tup (ds++es)) S):catT3 (.tup ds) (.tup es) S Q:=⟨ds,es,rfl,rfl,hn,hz,q⟩
theorem j_comp {wi:TI3} {js:List Nat} (h:wi σ S fun ds Al S1=>∃W:Nat→List D→Hp3→Prop,W 0 [] S1∧(∀i ys S,W i ys S→Al S∧ys.length<sizeLine) ∧
  (∀i d ys S,ds[i]?=some d→W i ys S→te (some d::pick3 σ js) S fun y S'=>W (i+1) (ys++[y]) S')∧∀ys S,W ds.length ys S→newL S ys Q):comp3 wi te js σ S Q:=h
theorem zd6 {js:List Nat} {ds:List D} {Al:Hp3→Prop} {S1:Hp3} (f:Nat→D) (hz:ds.length≤10000) (hA:Al S1)
    (h:∀i d,ds[i]?=some d→∀P:K3,P (f i) S1→te (some d::pick3 σ js) S1 P) (q:newL S1 ((List.range ds.length).map f) Q) :
    ∃W:Nat→List D→Hp3→Prop,W 0 [] S1∧(∀i ys S,W i ys S→Al S∧ys.length<sizeLine) ∧
  (∀i d ys S,ds[i]?=some d→W i ys S→te (some d::pick3 σ js) S fun y S'=>W (i+1) (ys++[y]) S')∧∀ys S,W ds.length ys S→newL S ys Q:=by
  refine ⟨fun i ys S=>i≤ds.length∧ys=(List.range i).map f∧S=S1,⟨Nat.zero_le _,rfl,rfl⟩,?_,?_,?_⟩
  · rintro i ys S ⟨hi,rfl,rfl⟩
    refine ⟨hA,?_⟩
    rw [List.length_map,List.length_range]
    exact Nat.lt_of_le_of_lt (Nat.le_trans hi hz) (by decide)
  · rintro i d ys S hd ⟨hi,rfl,rfl⟩
    refine h i d hd _ ⟨(List.getElem?_eq_some_iff.mp hd).1,?_,rfl⟩
    rw [List.range_succ,List.map_append]
    rfl
  · rintro ys S ⟨_,rfl,rfl⟩
    exact q
theorem j_for {wi:TI3} {g:TG3} (h:wi σ S fun ds Al S1=>∃W:Nat→St3→Hp3→Prop,W 0 σ S1∧(∀i σ S,W i σ S→Al S) ∧
  (∀i d σ S,ds[i]?=some d→W i σ S→g d σ S fun σ2 S2=>t ⟨W (i+1),rt,n,W (i+1)⟩ σ2 S2)∧∀σ S,W ds.length σ S→n σ S):for3 wi g t ⟨n,rt,b,c⟩ σ S:=h
theorem j_while (W:Nat→St3→Hp3→Prop) (m:Nat) (h0:W m σ S) (h:∀m σ S,W m σ S→tA σ S fun b S1=>if b=true then t ⟨fun σ' S'=>∃m',m'<m∧W m' σ' S',rt,n,fun σ' S'=>∃m',m'<m∧W m' σ' S'⟩ σ S1 else n σ S1) :
    while3 tA t ⟨n,rt,b,c⟩ σ S:=⟨W,⟨m,h0⟩,h⟩
noncomputable abbrev RI:=List D→(Hp3→Prop)→Hp3→Prop
variable {R:RI}
def litA (R:RI) (x:D) (S:Hp3):Prop:=(∃a ds,x=.ref a∧S a=some (.lst ds)∧R ds (fun S=>S a=some (.lst ds)) S)∨∃ds,x=.rol ds∧R ds (fun _=>True) S
theorem j_iList (h:te σ S fun x S1=>litA R x S1):iL3 te σ S R:=h
theorem j_iL {a:Addr} {ds:List D} (hS:S a=some (.lst ds)) (q:R ds (fun S=>S a=some (.lst ds)) S):litA R (.ref a) S:=.inl ⟨a,ds,rfl,hS,q⟩
def titA (R:RI) (x:D) (S:Hp3):Prop:=∃ds,x=.tup ds∧R ds (fun _=>True) S
theorem j_iTup (h:te σ S fun x S1=>titA R x S1):iT3 te σ S R:=h
theorem j_iT {ds:List D} (q:R ds (fun _=>True) S):titA R (.tup ds) S:=⟨ds,rfl,q⟩
theorem j_eT {ds:List D} {P:List D→Prop} (h:P ds):∃es,D.tup ds=.tup es∧P es:=⟨ds,rfl,h⟩
def revA (R:RI) (xs:List D) (S:Hp3):Prop:=∃ds,xs=[.tup ds]∧R ds.reverse (fun _=>True) S
theorem j_iRev (h:al σ S fun xs S1=>revA R xs S1):iRev3 al σ S R:=h
theorem j_iRv {ds:List D} (q:R ds.reverse (fun _=>True) S):revA R [.tup ds] S:=⟨ds,rfl,q⟩
theorem j_eS {z:Str} {P:Str→Prop} (h:P z):∃y,D.str z=.str y∧P y:=⟨z,rfl,h⟩
def rngA (R:RI) (vs:List D) (S:Hp3):Prop:=∃j:Int,vs=[.int j]∧-(2^62)≤j∧j<2^62∧R (nums 0 j.toNat) (fun _=>True) S
theorem j_iR1 (h:al σ S fun vs S1=>rngA R vs S1):iR1 al σ S R:=h
theorem j_rng {j:Int} (h1:-(2^62)≤j∧j<2^62) (q:R (nums 0 j.toNat) (fun _=>True) S):rngA R [.int j] S:=⟨j,rfl,h1.1,h1.2,q⟩
theorem j_dnew (h:∀p,S p=none→Q (.ref p) (up S p (.dic []))):dnew3 σ S Q:=h
def setA (v:D) (Qs:St3→Hp3→Prop) (σ:St3) (o i:D) (S:Hp3):Prop:=∃p xs k j,o=.ref p∧i=.int k∧S p=some (.lst xs)∧ixN xs.length k=some j∧Qs σ (up S p (.lst (xs.set j v)))
theorem j_setL {v:D} {Qs:St3→Hp3→Prop} (h:te σ S fun o S1=>ta σ S1 fun i S2=>setA v Qs σ o i S2):setL3 te ta v σ S Qs:=h
theorem j_esL {a:Addr} {xs:List D} {k:Int} {j:Nat} {v:D} {Qs:St3→Hp3→Prop} (hS:S a=some (.lst xs)) (hj:ixN xs.length k=some j) (q:Qs σ (up S a (.lst (xs.set j v)))):setA v Qs σ (.ref a) (.int k) S:=⟨a,xs,k,j,rfl,rfl,hS,hj,q⟩
def dgetA (Q:K3) (x y:D) (S:Hp3):Prop:=∃a kvs k v,x=.ref a∧S a=some (.dic kvs)∧y=kD k∧valD kvs k=some v∧Q v S
theorem j_dget (h:te σ S fun x S1=>ta σ S1 fun y S2=>dgetA Q x y S2):dget3 te ta σ S Q:=h
theorem j_dgetS {a:Addr} {kvs:List (Key×D)} {z:Str} {v:D} (hS:S a=some (.dic kvs)) (hv:valD kvs (.inr z)=some v) (q:Q v S):dgetA Q (.ref a) (.str z) S:=⟨a,kvs,.inr z,v,rfl,hS,rfl,hv,q⟩
def dputA (n:St3→Hp3→Prop) (σ:St3) (v x y:D) (S:Hp3):Prop:=∃a kvs k,x=.ref a∧S a=some (.dic kvs)∧y=kD k∧kvs.length<sizeLine∧n σ (up S a (.dic (putD kvs k v)))
theorem j_dput {tv:TE3} (h:tv σ S fun v S1=>te σ S1 fun x S2=>ta σ S2 fun y S3=>dputA n σ v x y S3):dput3 te ta tv ⟨n,rt,b,c⟩ σ S:=h
theorem j_dputS {a:Addr} {kvs:List (Key×D)} {z:Str} {v:D} (hS:S a=some (.dic kvs)) (hz:kvs.length<sizeLine) (q:n σ (up S a (.dic (putD kvs (.inr z) v)))):dputA n σ v (.ref a) (.str z) S:=⟨a,kvs,.inr z,rfl,hS,rfl,hz,q⟩
end
theorem FnOk.frame {P:Program} {w:World} {K:PySem.W.Frag} {mg:Str→Option Value} {base:Heap} {k:Nat} {f:Addr} {fd:FuncData} {ps:List Str} {sp:Sp3} (F:FnOk P w K mg base (CX1 P w) k f fd ps (lSp K sp)):FnOk P w K mg base (CX1 P w) k f fd ps (lSp K (fr sp)):=by
  refine L2.FnOk.imp F fun vs H Q E ⟨Z,ds,S,Q3,E3,h1,l,⟨S0,F,hs,h3⟩,cq,ce⟩=>?_
  refine ⟨Z.with H F,ds,S0,_,_,h1,⟨fun a o e=>?_,fun a z=>?_,Kp.refl _ _⟩,h3,?_,?_⟩
  · refine l.obj a o ?_
    rcases hs a with ⟨q,_⟩|⟨q,_⟩
    · rw [q];exact e
    · rw [q] at e;cases e
  · rcases z with z|z
    · have z2:=l.hid a z
      refine ⟨?_,z2.2⟩
      rcases hs a with ⟨q,_⟩|⟨q,_⟩
      · rw [←q];exact z2.1
      · exact q
    · rcases hs a with ⟨_,q⟩|⟨q,q2⟩
      · exact absurd q z
      · refine ⟨q,?_⟩
        cases e:F a with
        | none=>exact absurd e z
        | some o=>exact (l.obj a o (q2.trans e)).there
  · rintro d S1 v H' k1 r1 l1 ⟨S2,hsub,q⟩
    obtain ⟨sp',l'⟩:=l.frame hs k1 l1 hsub
    exact cq d _ v H' (k1.unhide fun a z=>.inl z) r1 l' (q _ sp')
  · rintro C a S1 H' k1 l1 ha ⟨S2,hsub,q⟩
    obtain ⟨sp',l'⟩:=l.frame hs k1 l1 hsub
    exact ce C a _ H' (k1.unhide fun a z=>.inl z) l' ha (q _ sp')
def lawS:Sp3:=vS fun ds q=>∃ns:List Int,ds=[.rol (ns.map D.int)]∧ns.length≤63∧q (.bl true)
theorem zl4 {P:Program} {w:World} {K:PySem.W.Frag} {mg:Str→Option Value} {base:Heap} {k:Nat} {st:Stmt} {f:Addr} {fd:FuncData} {N:List Str} (F:Fun K "law" "law" st f fd) (S:FnScope N ["script"] (defScope st))
    (hbody:∀(cdv:Value) (A:Around) (outer:List Env) (s:Shared) (H:Hp) (E:XK) (ns:List Int),Room k (A.deeper (envOfC "law" (defScope st) s.heap.objs.size f cdv))→ns.length≤63 →
      ∃t,PSs3 (cxOf (CX1 P w) P w K mg base N "law" (defScope st) f cdv A outer s H E).nox NoX (defBody st) t∧t {nx:=fun _ _=>False,rt:=fun d _=>d=.bl true} (start3 N [.rol (ns.map D.int)]) emp) :
    FnOk P w K mg base (CX1 P w) (k+1) f fd ["script"] (lSp K lawS):=by
  obtain ⟨oc,od,kV,doc,pm,an,cdv,ct,osl,rfl,lk,hcd⟩:=F.ex
  refine L2.FnOk.imp (sp:=lSp K (fr fun ds S Q E=>S=emp∧∃ns:List Int,ds=[.rol (ns.map D.int)]∧ns.length≤63∧∀S',Q (.bl true) S')) (FnOk.frame ?_) fun vs H Q E z_1=>by obtain ⟨Z,ds,S,Q3,E3,h1,l,⟨ns,e,h63,q⟩,h,h'⟩:=z_1;exact ⟨Z,ds,S,Q3,E3,h1,l,⟨emp,S,zh7 S,rfl,ns,e,h63,fun S1=>⟨emp,zk2 _,fun S' hS=>zf6 hS▸q⟩⟩,h,h'⟩
  refine zn2 lk hcd S (fun vs H Q E z_2=>by obtain ⟨Z,ds,S,Q3,E3,h1,_,⟨_,ns,z,_⟩,_,_⟩:=z_2;rw [←h1.len,z];rfl) fun A outer s H vs Q E hr ⟨Z,ds,S3,Q3,E3,h1,h2,⟨e1,ns,e2,h63,hq⟩,h4,_⟩=>?_
  subst e1 e2
  obtain ⟨t,ht,q⟩:=hbody cdv A outer s H E ns hr h63
  refine ⟨_,(ht (zx0 Z H)).nox,_,start3 N [.rol (ns.map D.int)],emp,?_,h2.into,q,⟨?_,?_,?_,?_⟩⟩
  · unfold start3 L2.start
    rw [h1.len]
    exact zbc (SR.ofRps h1) (SR.nones _)
  · exact fun _ _ _ _ _ _ _ z=>z.elim
  · exact fun _ _ _ _ _ _ _ z=>z
  · exact fun _ _ _ _ _ _ _ z=>z
  · intro d S' v H' kk r l e
    have e:d=.bl true:=e
    subst e
    exact h4 _ S' v H' (kk.unhide fun _ z=>z) r (l.out h2 kk) (hq S')
theorem law_sp {K:PySem.W.Frag} {H:Hp} {a:Addr} {ns:List Int} (hl:ns.length≤63) (hO:Only H) (h:SqL K H a (ns.map V.int)):lSp K lawS [.ref a] H (fun v _=>v=.bl true) fun _ _ _=>False:=by
  refine ⟨⟨fun _=>False,H⟩,[.rol (ns.map D.int)],emp,fun d _=>d=.bl true,fun _ _ _=>False,.cons (.rol (ScR.of h hO) (Rps.ints ns)) .nil,⟨fun a o e=>(nomatch e),fun a z=>z.elim,Kp.refl _ _⟩,⟨ns,rfl,hl,rfl⟩,?_,fun _ _ _ _ _ _ _ z=>z⟩
  intro d S v H' _ r _ e
  have e:d=.bl true:=e
  subst e
  cases r
  rfl
end E3
namespace E3
open PySem PySem.Spec PyProof.Rows L2 EE
theorem Sub.refl (S:Hp3):Sub S S:=fun _ _ h=>h
theorem Sub.trans {A B C:Hp3} (h:Sub A B) (h':Sub B C):Sub A C:=fun a o e=>h' a o (h a o e)
theorem Sub.up {A B:Hp3} {p:Addr} {o:O} (h:Sub A B) (hp:B p=none):Sub A (up B p o):=fun a u e=>zag (h a u e) hp
theorem Sub.free {A B:Hp3} {p:Addr} (h:Sub A B) (hp:B p=none):A p=none:=by
  cases e:A p with
  | none=>rfl
  | some o=>rw [h p o e] at hp;cases hp
theorem Sub.at {A B:Hp3} {p:Addr} {o:O} (h:Sub A B) (hp:A p=none):Sub A (E3.up B p o):=fun a u e=>by
  rw [zbm (ne3 e hp)];exact h a u e
section
variable {P:Program} {w:World} {K:PySem.W.Frag} {mg:Str→Option Value} {base:Heap} {x:Str} {st:Stmt} {N ps:List Str} {k:Nat}
theorem Cal3.drop {sp:Sp3} (C:Cal3 P w K mg base k x ps sp):Cal3 P w K mg base k x ps (fun ds S Q E=>sp ds S (fun d S1=>∃S2,Sub S2 S1∧Q d S2) E):=by
  obtain ⟨f,fd,F0,r⟩:=C.ex
  refine ⟨f,fd,F0.imp fun vs H Q E ⟨Z,ds,S,Q3,E3,h1,l,h3,cq,ce⟩=>⟨Z,ds,S,_,E3,h1,l,h3,?_,ce⟩,r⟩
  rintro d S1 v H' k1 r1 l1 ⟨S2,hsub,q⟩
  exact cq d S2 v H' k1 r1 (l1.sub hsub) q
def rdV (A:List D→Hp3→(D→Prop)→Prop):Sp3:=fun ds S Q _=>A ds S fun d=>Q d S
def wrV (A:List D→Hp3→(D→Addr→O→Prop)→Prop):Sp3:=fun ds S Q _=>A ds S fun d a o=>Q d (up S a o)
theorem _root_.EE.Has.rdV {A:List D→Hp3→(D→Prop)→Prop} (h:Has K mg x st ps) (S:FnScope N ps (defScope st)) (len:∀ds S q,A ds S q→ds.length=ps.length)
    (hbody:∀(f:Addr) (cdv:Value) (Ar:Around) (outer:List Env) (s:Shared) (H:Hp) (E:XK) (ds:List D) (S:Hp3) (q:D→Prop),Room k (Ar.deeper (envOfC x (defScope st) s.heap.objs.size f cdv))→A ds S q →
      ∃t,PSs3 (cxOf (CX1 P w) P w K mg base N x (defScope st) f cdv Ar outer s H E).nox NoX (defBody st) t∧t {nx:=fun _ S'=>Sub S S'∧q .non,rt:=fun d S'=>Sub S S'∧q d} (start3 N ds) S):Cal3 P w K mg base (k+1) x ps (rdV A):=by
  have C:Cal3 P w K mg base (k+1) x ps (fun ds S Q E=>∃q,A ds S q∧∀d S',Sub S S'∧q d→Q d S'):=by
    refine h.cal3 S (fun vs H Q E z_1=>by obtain ⟨q,z,_⟩:=z_1;exact len _ _ _ z) fun f cdv Ar outer s H E ds S3 Q E3 hr ⟨q,z,hq⟩=>?_
    obtain ⟨t,h1,h2⟩:=hbody f cdv Ar outer s H E ds S3 _ hr z
    exact ⟨t,fun d S'=>Sub S3 S'∧q d,h1,h2,hq⟩
  exact C.drop.imp fun ds S Q E z=>⟨_,z,fun d S1 hq=>⟨S,hq.1,hq.2⟩⟩
theorem _root_.EE.Has.wrV {A:List D→Hp3→(D→Addr→O→Prop)→Prop} (h:Has K mg x st ps) (S:FnScope N ps (defScope st)) (len:∀ds S q,A ds S q→ds.length=ps.length)
    (hbody:∀(f:Addr) (cdv:Value) (Ar:Around) (outer:List Env) (s:Shared) (H:Hp) (E:XK) (ds:List D) (S:Hp3) (q:D→Addr→O→Prop),Room k (Ar.deeper (envOfC x (defScope st) s.heap.objs.size f cdv))→A ds S q →
      ∃t,PSs3 (cxOf (CX1 P w) P w K mg base N x (defScope st) f cdv Ar outer s H E).nox NoX (defBody st) t∧t {nx:=fun _ S'=>∃a o,Sub (up S a o) S'∧q .non a o,rt:=fun d S'=>∃a o,Sub (up S a o) S'∧q d a o} (start3 N ds) S):Cal3 P w K mg base (k+1) x ps (wrV A):=by
  have C:Cal3 P w K mg base (k+1) x ps (fun ds S Q E=>∃q,A ds S q∧∀d S',(∃a o,Sub (up S a o) S'∧q d a o)→Q d S'):=by
    refine h.cal3 S (fun vs H Q E z_3=>by obtain ⟨q,z,_⟩:=z_3;exact len _ _ _ z) fun f cdv Ar outer s H E ds S3 Q E3 hr ⟨q,z,hq⟩=>?_
    obtain ⟨t,h1,h2⟩:=hbody f cdv Ar outer s H E ds S3 _ hr z
    exact ⟨t,fun d S'=>∃a o,Sub (up S3 a o) S'∧q d a o,h1,h2,hq⟩
  exact C.drop.imp fun ds S Q E z=>⟨_,z,fun d S1 z_4=>by obtain ⟨a,o,hs,hq⟩:=z_4;exact ⟨_,hs,hq⟩⟩
end
end E3
namespace E3
open PySem PySem.Spec PyProof.Rows L2 EE
section
variable {P:Program} {w:World} {K:PySem.W.Frag} {mg:Str→Option Value} {base:Heap} {x:Str} {st:Stmt} {N ps:List Str} {k:Nat}
def wrL (A:List D→Hp3→(List D→Addr→O→Prop)→Prop):Sp3:=fun ds S Q _=>A ds S fun ys a o=>∀p,S p=none→Q (.ref p) (up (up S a o) p (.lst ys))
theorem _root_.EE.Has.wrL {A:List D→Hp3→(List D→Addr→O→Prop)→Prop} (h:Has K mg x st ps) (S:FnScope N ps (defScope st)) (len:∀ds S q,A ds S q→ds.length=ps.length)
    (hbody:∀(f:Addr) (cdv:Value) (Ar:Around) (outer:List Env) (s:Shared) (H:Hp) (E:XK) (ds:List D) (S:Hp3) (q:List D→Addr→O→Prop),Room k (Ar.deeper (envOfC x (defScope st) s.heap.objs.size f cdv))→A ds S q →
      ∃t,PSs3 (cxOf (CX1 P w) P w K mg base N x (defScope st) f cdv Ar outer s H E).nox NoX (defBody st) t ∧
        t {nx:=fun _ _=>False,rt:=fun d S'=>∃p ys a o,d=.ref p∧S p=none∧S a≠none∧Sub (up S a o) S'∧S' p=some (.lst ys)∧q ys a o} (start3 N ds) S):Cal3 P w K mg base (k+1) x ps (wrL A):=by
  have C:Cal3 P w K mg base (k+1) x ps (fun ds S Q E=>∃q,A ds S q∧∀d S',(∃p ys a o,d=.ref p∧S p=none∧S a≠none∧Sub (up S a o) S'∧S' p=some (.lst ys)∧q ys a o)→Q d S'):=by
    refine h.cal3 S (fun vs H Q E z_6=>by obtain ⟨q,z,_⟩:=z_6;exact len _ _ _ z) fun f cdv Ar outer s H E ds S3 Q E3 hr ⟨q,z,hq⟩=>?_
    obtain ⟨t,h1,h2⟩:=hbody f cdv Ar outer s H E ds S3 _ hr z
    refine ⟨t,fun d S'=>∃p ys a o,d=.ref p∧S3 p=none∧S3 a≠none∧Sub (up S3 a o) S'∧S' p=some (.lst ys)∧q ys a o,h1,?_,hq⟩
    have e:(fun (_:St3) (_:Hp3)=>False)=fun (_:St3) (S':Hp3)=>∃p ys a o,D.non=.ref p∧S3 p=none∧S3 a≠none∧Sub (up S3 a o) S'∧S' p=some (.lst ys)∧q ys a o:=by
      funext _ S'
      refine propext ⟨False.elim,fun z=>?_⟩
      obtain ⟨p,ys,_,_,z,_⟩:=z
      cases z
    rw [←e]
    exact h2
  refine C.drop.imp fun ds S Q E z=>⟨_,z,fun d S1 ⟨p,ys,a,o,e,hp,ha,hs,hp1,hq⟩=>⟨up (up S a o) p (.lst ys),?_,?_⟩⟩
  · intro b u hb
    by_cases c:b=p
    · subst c;rw [zab] at hb;cases hb;exact hp1
    · rw [zbm c] at hb;exact hs b u hb
  · subst e
    exact hq p hp
end
section
variable {σ:St3} {S:Hp3} {Q:K3}
theorem j_pow {g:Int→Int→D} {k j:Int} (h:CPow k j) (q:Q (g k j) S):ic3 CPow g (.int k) (.int j) S Q:=⟨k,j,rfl,rfl,h,q⟩
theorem j_mul {g:Int→Int→D} {k j:Int} (h:CMul k j) (q:Q (g k j) S):ic3 CMul g (.int k) (.int j) S Q:=⟨k,j,rfl,rfl,h,q⟩
end
end E3
namespace E3
def Px (sp:PySem.Addr) (S X:Hp3):Prop:=∀a u,a≠sp→S a=some u→X a=some u
theorem Px.refl (sp:PySem.Addr) (S:Hp3):Px sp S S:=fun _ _ _ h=>h
theorem Px.at {sp:PySem.Addr} {S X:Hp3} {o:O} (h:Px sp S X):Px sp S (up X sp o):=fun a u n e=>by rw [zbm n];exact h a u n e
theorem Px.new {sp p:PySem.Addr} {S X:Hp3} {o:O} (h:Px sp S X) (hp:X p=none):Px sp S (up X p o):=fun a u n e=>zag (h a u n e) hp
theorem Px.sub {sp:PySem.Addr} {S X:Hp3} {o:O} (h:Px sp S X) (hx:X sp=some o):Sub (up S sp o) X:=fun a u e=>by
  by_cases c:a=sp
  · subst c;rw [zab] at e;rw [hx];exact e
  · rw [zbm c] at e;exact h a u c e
end E3
namespace E3
theorem Px.fresh {sp p:PySem.Addr} {S X:Hp3} {o:O} (h:Px sp S X) (hp:S p=none):Px sp S (up X p o):=fun a u n e=>by rw [zbm (ne3 e hp)];exact h a u n e
theorem Px.free {sp p:PySem.Addr} {S X:Hp3} (h:Px sp S X) (hp:X p=none) (n:p≠sp):S p=none:=by
  cases e:S p with
  | none=>rfl
  | some o=>rw [h p o n e] at hp;cases hp
end E3
namespace E3
theorem Px.ext {sp:PySem.Addr} {S X Y:Hp3} (h:Px sp S X) (h':Sub X Y):Px sp S Y:=fun a u n e=>h' a u (h a u n e)
end E3
namespace E3
open PySem PySem.Spec PyProof.Rows L2 EE
theorem zkg {P:Program} {w:World} {H:Hp} {h:Heap} {a:Addr} {o:HO} (x:ObjOk P w H h a o):∃u,h.get? a=some u:=by
  cases o with
  | lst xs=>obtain ⟨_,_,_,_,e⟩:=x;exact ⟨_,e⟩
  | tup xs=>obtain ⟨_,_,_,⟨o,e,_⟩,_⟩:=x;exact ⟨_,e⟩
  | dK kvs=>obtain ⟨_,_,_,_,o,_,_,e,_⟩:=x;exact ⟨_,e⟩
  | dT kvs=>obtain ⟨_,_,_,_,o,_,_,e,_⟩:=x;exact ⟨_,e⟩
  | set S n=>obtain ⟨o,_,_,_,e,_⟩:=x;exact ⟨_,e⟩
  | ins C dx fs=>obtain ⟨_,_,_,e,_⟩:=x;exact ⟨_,e⟩
  | own y=>exact x
  | xd fs=>obtain ⟨_,⟨_,_,_,e,_⟩,_⟩:=x;exact ⟨_,e⟩
  | rng lo hi=>obtain ⟨_,_,_,e⟩:=x;exact ⟨_,e⟩
  | frz ob u=>obtain ⟨e,_⟩:=x;exact ⟨_,e⟩
  | tbl ps=>exact ⟨_,show h.get? a=some _ from x⟩
  | met f y=>exact ⟨_,show h.get? a=some _ from x⟩
  | ext φ=>exact x.2.1
theorem ze1 {P:Program} {w:World} {H:Hp} {h:Heap} {a:Addr} (x:HOk P w H h) (e:h.get? a=none):H a=none:=by
  cases q:H a with
  | none=>rfl
  | some o=>obtain ⟨u,z⟩:=zkg (x a o q);rw [e] at z;cases z
section
variable {P:Program} {w:World} {K:PySem.W.Frag} {mg:Str→Option Value} {base:Heap} {N:List Str} {qual:Str} {scope:Scope} {f:Addr} {cd:Value} {A:Around} {outer:List Env} {s s2:Shared} {H H1:Hp} {E:XK}
  {pins:List (Addr×Obj)} {σ:L2.St} {a C:Addr}
theorem zeh (I:Inv (cxOf (CX1 P w) P w K mg base N qual scope f cd A outer s H E) pins σ H1 s2):s2.heap.FunFrames base (envOfC qual scope s.heap.objs.size f cd::outer):=by
  obtain ⟨m,⟨o,es,ep,ho,hd,_⟩,_⟩:=I.loc
  have hk:scope.kind=.function:=I.ok.kind
  refine ⟨?_,⟨s.heap.objs.size,o,rfl,?_,ho,fun vs z=>?_⟩,I.funs⟩
  · show scope.kind≠.module
    rw [hk]
    intro z
    cases z
  · cases q:base.get? s.heap.objs.size with
    | none=>rfl
    | some u=>exact absurd (Nat.lt_of_lt_of_le (Heap.lt_size q) I.ok.bsz) (Nat.lt_irrefl _)
  · rw [hd] at z
    cases z
theorem zop {a0:Value} {h':Heap} (hold:List Addr) (I:Inv (cxOf (CX1 P w) P w K mg base N qual scope f cd A outer s H E) pins σ H1 s2) (hh:∀b∈hold,H1 b=none∧s.heap.get? b=none) (na:H1 a=none∧s.heap.get? a=none)
    (fl:Heap.FlyingW (PySem.W.hideAll s2.heap (hold++frs (envOfC qual scope s.heap.objs.size f cd::outer))) outer a (.ref C) a0 h') (us:s2.heap.UpToSlots h') (q:E (.ref C) (some a) H1) {s3:Shared} (h3:s3.heap=h') (ho:s3.os=s2.os) (hg:s3.gens=s2.gens) :
    CX1 P w outer H s E (.ref a) s3:=by
  have all:=zeh I
  have frL:frs (envOfC qual scope s.heap.objs.size f cd::outer)=s.heap.objs.size::frs outer:=rfl
  have hL:s.heap.get? s.heap.objs.size=none:=by
    cases q:s.heap.get? s.heap.objs.size with
    | none=>rfl
    | some u=>exact absurd (Heap.lt_size q) (Nat.lt_irrefl _)
  have frame:∀b,b∈frs (envOfC qual scope s.heap.objs.size f cd::outer)→H1 b=none∧∃o,s2.heap.get? b=some o∧∀vs,o.data≠.fields vs:=by
    intro b hb
    refine ⟨?_,(all.mem hb).2⟩
    rw [frL] at hb
    rcases List.mem_cons.mp hb with rfl|hb
    · exact I.free
    · obtain ⟨_,o,e,_⟩:=I.ok.funs.mem hb
      exact I.base.free b o e (I.ok.frf b hb) (by exact List.not_mem_nil)
  have keep:∀b o,s2.heap.get? b=some o→b∉hold→b∉frs (envOfC qual scope s.heap.objs.size f cd::outer)→h'.get? b=some o:=fun b o e n1 n2 =>
    fl.1 b o (PySem.W.hideAll_get _ e fun z=>(List.mem_append.mp z).elim n1 n2)
  have slot:∀b o,s2.heap.get? b=some o→b∈frs (envOfC qual scope s.heap.objs.size f cd::outer)→∃sl,h'.get? b=some {o with slots:=sl}:=fun b o e hb=>by
    obtain ⟨_,o',e',hn⟩:=frame b hb
    rw [e] at e'
    cases e'
    exact us b o e hn
  have nold:∀b o,s.heap.get? b=some o→b∉hold:=fun b o e z=>by rw [(hh b z).2] at e;cases e
  have nL:∀b o,s.heap.get? b=some o→b∉frs outer→b∉frs (envOfC qual scope s.heap.objs.size f cd::outer):=fun b o e n z=>by
    rw [frL] at z
    rcases List.mem_cons.mp z with rfl|z
    · rw [hL] at e;cases e
    · exact n z
  obtain ⟨f1,f2,f3,oe,vs,T,oT,ts,he,⟨hc,h0⟩,hd,h1,hnT,hTe,hT,hdT,h3T⟩:=fl
  have hTfr:T∉frs (envOfC qual scope s.heap.objs.size f cd::outer):=fun z=>by
    obtain ⟨_,o',e',hn⟩:=frame T z
    obtain ⟨sl,e2⟩:=us T o' e' hn
    rw [hT] at e2
    cases e2
    exact hn _ hdT
  have tT:H1 T=none∧s.heap.get? T=none:=by
    by_cases hz:T∈hold
    · exact hh T hz
    · have n2:s2.heap.get? T=none:=by
        cases q:s2.heap.get? T with
        | none=>rfl
        | some o =>
          rw [PySem.W.hideAll_get _ q fun z=>(List.mem_append.mp z).elim hz hTfr] at hnT
          cases hnT
      refine ⟨ze1 I.hok n2,?_⟩
      cases q:s.heap.get? T with
      | none=>rfl
      | some o =>
        obtain ⟨o',e'⟩:=I.base.there T o q (by exact List.not_mem_nil)
        rw [n2] at e'
        cases e'
  refine ⟨a,C,T,H1,rfl,ho.trans I.os,?_,?_,?_,?_,na.1,tT.1,na.2,tT.2,q⟩
  · rw [hg];exact I.bare
  · rw [h3]
    refine ⟨fun b o e n hf hx=>?_,fun b o e n hf hx=>?_,fun b o e n hx=>I.base.free b o e n (by exact List.not_mem_nil),fun b o e hx=>?_,I.base.tups,I.base.frzs,I.base.tbls⟩
    · exact keep b o (I.base.keep b o e n hf (by exact List.not_mem_nil)) (nold b o e) (nL b o e hf)
    · obtain ⟨sl,e1⟩:=I.base.slot b o e n hf (by exact List.not_mem_nil)
      obtain ⟨sl',e2⟩:=slot b _ e1 (by rw [frL];exact .tail _ hf)
      exact ⟨sl',e2⟩
    · obtain ⟨o',e1⟩:=I.base.there b o e (by exact List.not_mem_nil)
      by_cases hb:b∈frs (envOfC qual scope s.heap.objs.size f cd::outer)
      · obtain ⟨sl,e2⟩:=slot b _ e1 hb
        exact ⟨_,e2⟩
      · exact ⟨_,keep b _ e1 (nold b o e) hb⟩
  · rw [h3]
    intro b o e
    refine (I.hok b o e).stay (fun c u hc q=>?_) (fun _ q=>q) fun _ _ q=>q
    have hcH:H1 c≠none:=by
      rcases hc with rfl|z
      · rw [e];simp
      · rw [z];simp
    exact keep c u q (fun z=>hcH (hh c z).1) fun z=>hcH (frame c z).1
  · rw [h3]
    exact ⟨hTe,⟨oe,vs,a0,he,hc,hd,h0,h1⟩,⟨oT,ts,hT,hdT,h3T⟩⟩
theorem zph:Passes (CX1 P w) (cxOf (CX1 P w) P w K mg base N qual scope f cd A outer s H E) E:=by
  rintro pins σ H1 s1 e s' I ⟨a,C,T,H',he,hos,hb,u,hok,fly,ha,hT,na,nT,z⟩
  subst he
  have I':=I.call' hos u hok hb fun _ z=>nomatch z
  have all:=zeh I'
  have old:∀b,s1.heap.get? b=none→s.heap.get? b=none:=fun b e=>by
    cases q:s.heap.get? b with
    | none=>rfl
    | some o =>
      obtain ⟨o',e'⟩:=I.base.there b o q (by exact List.not_mem_nil)
      rw [e] at e'
      cases e'
  obtain ⟨oe,vs,a0,e1,e2,e3,e4,e5⟩:=fly.exc
  obtain ⟨oT,ts,t1,t2,t3⟩:=fly.tb
  have hl:∀env∈(envOfC qual scope s.heap.objs.size f cd::outer),∀b,env.frame=some b→b∈[a,T]++frs (envOfC qual scope s.heap.objs.size f cd::outer):=fun env he b hb=>List.mem_append_right _ (List.mem_filterMap.mpr ⟨env,he,hb⟩)
  show wpAny _ _ (leaving (envOfC qual scope s.heap.objs.size f cd) (.ref a)) _ _ s'
  refine wpAny_leaves_onW (base:=PySem.W.hideAll s'.heap ([a,T]++frs (envOfC qual scope s.heap.objs.size f cd::outer))) I'.ok.frames rfl ⟨fun b o q=>PySem.W.of_hideAll _ q,PySem.W.hideAll_none _ (by simp),PySem.W.funFrames_hide all hl,
    oe,vs,T,oT,ts,e1,⟨e2,e4⟩,e3,e5,PySem.W.hideAll_none _ (by simp),fly.ne,t1,t2,t3⟩ fun h' x1 x2=>?_
  refine zop [a,T] I' (fun b hb=>?_) ⟨ha,old a na⟩ x1 x2 z rfl rfl rfl
  rcases List.mem_cons.mp hb with rfl|hb
  · exact ⟨ha,old b na⟩
  · rcases List.mem_cons.mp hb with rfl|hb
    · exact ⟨hT,old b nT⟩
    · cases hb
theorem leave_new {args:List Value} {s3:Shared} {e:Addr} (I:Inv (cxOf (CX1 P w) P w K mg base N qual scope f cd A outer s H E) pins σ H1 s2) (hx:Heap.MadeExcOf s2.heap s3.heap e (.ref C) args) (ho:s3.os=s2.os) (hg:s3.gens=s2.gens) (q:E (.ref C) (some e) H1) :
    (cxOf (CX1 P w) P w K mg base N qual scope f cd A outer s H E).xe (.ref e) s3:=by
  have all:=zeh I
  have hl:∀env∈(envOfC qual scope s.heap.objs.size f cd::outer),∀b,env.frame=some b→b∈[]++frs (envOfC qual scope s.heap.objs.size f cd::outer):=fun env he b hb=>List.mem_append_right _ (List.mem_filterMap.mpr ⟨env,he,hb⟩)
  show wpAny _ _ (leaving (envOfC qual scope s.heap.objs.size f cd) (.ref e)) _ _ s3
  refine wpAny_leaves_madeW (base:=PySem.W.hideAll s2.heap ([]++frs (envOfC qual scope s.heap.objs.size f cd::outer))) (h:=s2.heap) I.ok.frames rfl (fun b o q=>PySem.W.of_hideAll _ q) (PySem.W.funFrames_hide all hl) hx fun h' t x1 _ _ x4=>?_
  refine zop [] I (fun b hb=>nomatch hb) ⟨ze1 I.hok hx.new,?_⟩ x1 ((Heap.UpToSlots.of_keeps hx.keeps).trans x4) q rfl ho hg
  cases q:s.heap.get? e with
  | none=>rfl
  | some o =>
    obtain ⟨o',e'⟩:=I.base.there e o q (by exact List.not_mem_nil)
    rw [hx.new] at e'
    cases e'
end
end E3
namespace E3
open PySem PySem.Spec PyProof.Rows L2 EE
section
variable {P:Program} {w:World} {K:PySem.W.Frag} {mg:Str→Option Value} {base:Heap} {x:Str} {st:Stmt} {N ps:List Str} {k:Nat}
noncomputable def zxE {f:Addr} {cdv:Value} {A:Around} {outer:List Env} {s:Shared} {H:Hp} {E:XK} {scope:Scope} (Z:Zt) (W:X3) (o:Kp Z Z.base H) (ce:CE3 K Z H W E):ZX (cxOf (CX1 P w) P w K mg base N x scope f cdv A outer s H E) (fun _=>W) where
  z:=Z.at H
  E:=fun _=>E
  pass:=fun τ pins H s e s' I q=>zph pins τ H s e s' I q
  rz:=fun _ _ _ _ _ _ _ _ I hx ho hg q=>leave_new I hx ho hg q
  ce:=fun _ _ C a S H' _ l ha q=>ce C a S H' (l.old.unhide fun _ z=>z) ⟨l.obj,l.hid,o.trans (l.old.unhide fun _ z=>z)⟩ ha q
theorem _root_.EE.Has.cal3x {sp:Sp3} (h:Has K mg x st ps) (S:FnScope N ps (defScope st)) (len:∀vs H Q E,sp vs H Q E→vs.length=ps.length)
    (hbody:∀(f:Addr) (cdv:Value) (A:Around) (outer:List Env) (s:Shared) (H:Hp) (E:XK) (ds:List D) (S:Hp3) (Q:K3) (W:X3),Room k (A.deeper (envOfC x (defScope st) s.heap.objs.size f cdv))→sp ds S Q W →
      ∃t Q' W',PSs3 (cxOf (CX1 P w) P w K mg base N x (defScope st) f cdv A outer s H E) (fun _=>W') (defBody st) t∧t {nx:=fun _ S'=>Q' .non S',rt:=Q'} (start3 N ds) S∧(∀d S',Q' d S'→Q d S')∧∀C a S',W' C a S'→W C a S'):Cal3 P w K mg base (k+1) x ps sp:=by
  obtain ⟨f,fd,F,b,m⟩:=h.ex
  obtain ⟨oc,od,kV,doc,pm,an,cdv,ct,osl,rfl,lk,hcd⟩:=F.ex
  refine ⟨f,_,zn2 lk hcd S (fun vs H Q E z_1=>by obtain ⟨Z,ds,S,Q3,E3,h1,_,h3,_,_⟩:=z_1;rw [←h1.len];exact len _ _ _ _ h3) fun A outer s H vs Q E hr ⟨Z,ds,S3,Q3,E3,h1,h2,h3,h4,h5⟩=>?_,b,F.kp,m⟩
  obtain ⟨t,Q',W',ht,q,hw,hx⟩:=hbody f cdv A outer s H E ds S3 Q3 E3 hr h3
  refine ⟨_,ht (zxE Z W' h2.old fun C a S' H' kk l ha z=>h5 C a S' H' kk l ha (hx _ _ _ z)),_,start3 N ds,S3,?_,h2.into,q,⟨?_,?_,?_,?_⟩⟩
  · unfold start3 L2.start
    rw [h1.len]
    exact zbc (SR.ofRps h1) (SR.nones _)
  · intro σ S' τ H' kk _ l q'
    exact h4 .non S' .non H' (kk.unhide fun _ z=>z) .non (l.out h2 kk) (hw _ _ q')
  · exact fun _ _ _ _ _ _ _ z=>z
  · exact fun _ _ _ _ _ _ _ z=>z
  · exact fun d S' v H' kk r l q'=>h4 d S' v H' (kk.unhide fun _ z=>z) r (l.out h2 kk) (hw _ _ q')
end
end E3
namespace E3
open PySem PySem.Spec PyProof.Rows L2 EE
noncomputable abbrev bmVE:List Value:=[.type "ValueError",.type "Exception",.type "BaseException",.type "object"]
theorem zpv {K:PySem.W.Frag} {h:Heap} {C:Addr} {bmB:List Value} {newId:String} (X:K.In h) (q:PySem.W.excIn K C bmB newId=true) :
    ∃bm N nm qn bs hdct sn sub ab col dd q0 q1 q2 q3 q5 mN,h.get? C=some (excClassObj nm qn C N bs bm hdct sn sub ab col dd q0 q1 q2 q3 q5 newId)∧h.Ns N mN∧mN "__init__"=none∧OwnTail h bmB bm:=by
  unfold PySem.W.excIn at q
  split at q
  · rename_i dd cd sl ho
    split at q
    · rename_i Ca bm q0 q1 q2 q3 n q5 hmr hsz
      simp only [Bool.and_eq_true,beq_iff_eq,Bool.not_eq_true'] at q
      obtain ⟨⟨⟨⟨⟨rfl,rfl⟩,hde⟩,ht⟩,hns⟩,hin⟩:=q
      obtain ⟨nm,bs,mro,ns,qn,hd,sn,sub,ab,col,del⟩:=cd
      dsimp only at hmr hde hns hin
      subst hmr hde
      have hsa:sl=#[q0,q1,q2,q3,some (.builtin n),q5]:=by
        obtain ⟨l⟩:=sl
        simp only at hsz
        rw [hsz]
      subst hsa
      exact ⟨bm,ns,nm,qn,bs,hd,sn,sub,ab,col,dd,q0,q1,q2,q3,q5,_,X _ _ ho,.of_isNs (PySem.W.isNs_of_in X hns),PySem.W.nsMap_none_of_in X hns hin,PySem.W.tail_of_in X ht⟩
    · cases q
  · cases q
section
variable {X:Cx} {x:Str} {C:Addr} {np cpos pos:Pos} {e:Expr} {es:List Expr}
theorem zne {ta:TA} {E:L2.St→XK} (hm:X.mg x=some (.ref C)) (q:PySem.W.excIn X.K C bmVE "ValueError.__new__"=true) (hc:X.calm=true) (hg:Gl X x) (rz:∀τ,RaisesAt X (E τ) τ) (ha:PA X (e::es) ta)
    (hd:(x==("__debug__":Str))=false:=by decide) (he:starEach (e::es) X.env=(false,eval e X.env)::starEach es X.env:=by rfl) (hpl:(backTo cpos (starEach es X.env)).any (·.1)=false:=by rfl) :
    PS X (.Raise (some (.Call (.Name x np) (e::es) [] cpos)) none pos) (fun _ τ H=>ta τ H fun vs H1=>vs.length≤sizeLine∧∀a,H1 a=none→E τ (.ref C) (some a) H1):=by
  intro pins s σ H D I h
  obtain ⟨bm,N,nm,qn,bs,hdct,sn,sub,ab,col,dd,k0,k1,k2,k3,k5,mN,hC,hN,hni,T⟩:=zpv I.mod.kin q
  refine wpAny_Raise_call_subT (C:=C) (nm:=nm) (q:=qn) (N:=N) (bs:=bs) (bm:=bm) (hdct:=hdct) (sn:=sn) (sub:=sub) (ab:=ab) (col:=col) (dd:=dd) (k0:=k0) (k1:=k1) (k2:=k2) (k3:=k3) (k5:=k5)
    PySem.F.excBase_ValueError (mN:=mN) (T.hasType PySem.F.excBase_ValueError.hasBase) (I.ok.hd hc) (by rw [he];show (false||(backTo cpos (starEach es X.env)).any (·.1))=false;rw [hpl];rfl) hni (zfl I hg hm ⟨rfl,?_⟩ hd)
  have h1:=ha cpos pins s σ H _ I h
  rw [he] at h1 ⊢
  refine Calls.evalArgs_plain (wpAny_mono h1 (fun us s1 ⟨vs,H1,I1,r,hl,z⟩=>?_) fun _ _ y=>y)
  have keep:∀b o,X.base.get? b=some o→s1.heap.get? b=some o:=I1.bk
  refine ⟨rfl,by show us.length≤sizeLine;rw [←r.length];exact hl,keep _ _ hC,hN.keeps keep,T.keeps keep,fun h' a hx=>?_⟩
  exact rz σ pins H1 s1 _ a C us I1 hx rfl rfl (z a (ze1 I1.hok hx.new))
def raise3 (W3:W3T) (C:Addr) (ta:TA3):TS3:=fun _ σ S=>ta σ S fun ds S1=>ds.length≤sizeLine∧∀a,W3 σ C a S1
variable {W3:W3T}
theorem zlf {ta:TA3} (hm:X.mg x=some (.ref C)) (q:PySem.W.excIn X.K C bmVE "ValueError.__new__"=true) (hc:X.calm=true) (hg:Gl X x) (ha:PA3 X W3 (e::es) ta)
    (hd:(x==("__debug__":Str))=false:=by decide) (he:starEach (e::es) X.env=(false,eval e X.env)::starEach es X.env:=by rfl) (hpl:(backTo cpos (starEach es X.env)).any (·.1)=false:=by rfl) :
    PS3 X W3 (.Raise (some (.Call (.Name x np) (e::es) [] cpos)) none pos) (raise3 W3 C ta):=fun Z=>PS.imp (zne hm q hc hg Z.rz (ha Z) hd he hpl) fun D τ H z_1=>by obtain ⟨D3,σ,S,hs,hr,ht,hcd⟩:=z_1;exact 
  ⟨σ,S,_,hs,hr,ht,fun ds S1 vs H1 k1 r1 l1 q1=>⟨by rw [←r1.len];exact q1.1,fun a ha=>Z.ce σ τ C a S1 H1 (hs.mono k1) l1 ha (q1.2 a)⟩⟩
def Fmt:D→Str→Prop
  | .str y,z=>z=y∧y.length≤sizeLine
  | .int a,z=>z=toString a∧a.natAbs.log2<1920
  | _,_=>False
def fmt3 (te:TE3):TE3:=fun σ S Q=>te σ S fun d S1=>∃y,Fmt d y∧Q (.str y) S1
theorem zn3 {te:TE3} (he:PE3 X W3 e te):PE3 X W3 (.FormattedValue e (-1) none pos) (fmt3 te):=by
  rintro Z pins s τ H Q I ⟨σ,S,Q3,hs,hr,ht,hc⟩
  refine wpAny_FormattedValue_plain (wpAny_mono (he Z pins s τ H (fun v H1=>∃y,(v=.str y∧y.length≤sizeLine∨∃a:Int,v=.int a∧y=toString a∧a.natAbs.log2<1920)∧Q (.str y) H1) I ⟨σ,S,_,hs,hr,ht,fun d S1 v H1 k1 r1 l1 q1=>?_⟩) (fun u s1 z=>?_) fun _ _ y=>y)
  · obtain ⟨y,f,q⟩:=q1
    cases r1 with
    | str x=>obtain ⟨rfl,hl⟩:=f;exact ⟨_,.inl ⟨rfl,hl⟩,hc _ S1 _ H1 k1 (.str _) l1 q⟩
    | int a=>obtain ⟨rfl,hl⟩:=f;exact ⟨_,.inr ⟨a,rfl,rfl,hl⟩,hc _ S1 _ H1 k1 (.str _) l1 q⟩
    | _=>exact f.elim
  · obtain ⟨v,H1,I1,r,y,hv,q⟩:=z
    rcases hv with ⟨rfl,hl⟩|⟨a,rfl,rfl,hl⟩
    · obtain ⟨t,rfl⟩:=r
      exact wpAny_formatField_str ⟨.str y,H1,I1,⟨_,rfl⟩,q⟩ ⟨.str y,H1,I1.tok _,⟨_,rfl⟩,q⟩ hl
    · obtain ⟨t,rfl⟩:=r
      exact wpAny_formatField_int hl ⟨.str _,H1,I1.tok _,⟨_,rfl⟩,q⟩
def PF3 (X:Cx) (W3:W3T) (es:List Expr) (t:Str→TE3):Prop:=∀(Z:ZX X W3) (pins:List (Addr×Obj)) (s:Shared) (τ:L2.St) (H:Hp) (Q:VK) (acc:Str),Inv X pins τ H s→lE X.K Z.z (t acc) τ H Q →
  Joins (model X.prog X.w) X.A X.xe (evalEach es X.env) acc (fun out s1=>out.length≤sizeLine∧∃H1,Inv X pins τ H1 s1∧Q (.str out) H1) s
def fnil3 (acc:Str):TE3:=fun _ S Q=>acc.length≤sizeLine∧Q (.str acc) S
def fcons3 (te:TE3) (t:Str→TE3) (acc:Str):TE3:=fun σ S Q=>te σ S fun d S1=>∃y,d=.str y∧(acc++y).length≤sizeLine∧t (acc++y) σ S1 Q
theorem f_nil:PF3 X W3 [] fnil3:=fun Z pins s τ H Q acc I z_2=>by obtain ⟨σ,S,Q3,hs,hr,ht,hc⟩:=z_2;exact ⟨ht.1,H,I,hc _ S _ H (Kp.refl _ _) (.str _) hr ht.2⟩
theorem zeq {te:TE3} {t:Str→TE3} (he:PE3 X W3 e te) (ht:PF3 X W3 es t):PF3 X W3 (e::es) (fcons3 te t):=by
  rintro Z pins s τ H Q acc I ⟨σ,S,Q3,hs,hr,h,hc⟩
  refine wpAny_mono (he Z pins s τ H (fun v H1=>∃y,v=.str y∧(acc++y).length≤sizeLine∧lE X.K Z.z (t (acc++y)) τ H1 Q) I ⟨σ,S,_,hs,hr,h,fun d S1 v H1 k1 r1 l1 q1=>?_⟩) (fun u s1 z=>?_) fun _ _ y=>y
  · obtain ⟨y,rfl,hl,q⟩:=q1
    cases r1
    exact ⟨y,rfl,hl,σ,S1,Q3,hs.mono k1,l1,q,hc.mono k1⟩
  · obtain ⟨v,H1,I1,r,y,rfl,hl,q⟩:=z
    obtain ⟨t',rfl⟩:=r
    exact ⟨y,t',rfl,hl,ht Z pins s1 τ H1 Q _ I1 q⟩
theorem zok {e2:Expr} {t:Str→TE3} (h:PF3 X W3 (e::e2::es) t):PE3 X W3 (.JoinedStr (e::e2::es) pos) (t Str.empty):=by
  intro Z pins s τ H Q I hq
  have j:=h Z pins s τ H Q _ I hq
  refine wpAny_JoinedStr ?_
  have mono:∀(l:List (Sem Value)) (acc:Str) (s:Shared) {R R':Str→Shared→Prop},(∀o s,R o s→R' o s)→Joins (model X.prog X.w) X.A X.xe l acc R s→Joins (model X.prog X.w) X.A X.xe l acc R' s:=by
    intro l
    induction l with
    | nil=>exact fun acc s R R' f q=>f _ _ q
    | cons a l ih=>exact fun acc s R R' f q=>wpAny_mono q (fun v s1 z_3=>by obtain ⟨y,t,e,hl,z⟩:=z_3;exact ⟨y,t,e,hl,ih _ _ f z⟩) fun _ _ z=>z
  exact mono _ _ _ (fun o s1 z_4=>by obtain ⟨hl,H1,I1,q⟩:=z_4;exact ⟨hl,.str o,H1,I1.tok _,⟨_,rfl⟩,q⟩) j
end
section
variable {σ:St3} {S:Hp3} {Q:K3} {te:TE3} {al:TA3} {n b c:St3→Hp3→Prop} {rt:K3} {W3:W3T} {C:Addr}
theorem j_raise (h:al σ S fun ds S1=>ds.length≤sizeLine∧∀a,W3 σ C a S1):raise3 W3 C al ⟨n,rt,b,c⟩ σ S:=h
theorem j_fmt (h:te σ S fun d S1=>∃y,Fmt d y∧Q (.str y) S1):fmt3 te σ S Q:=h
theorem j_fmtS {y:Str} {P:Str→Prop} (hl:y.length≤sizeLine) (q:P y):∃z,Fmt (.str y) z∧P z:=⟨y,⟨rfl,hl⟩,q⟩
theorem j_fmtI {a:Int} {P:Str→Prop} (hl:a.natAbs.log2<1920) (q:P (toString a)):∃z,Fmt (.int a) z∧P z:=⟨_,⟨rfl,hl⟩,q⟩
theorem j_fnil {acc:Str} (hl:acc.length≤sizeLine) (q:Q (.str acc) S):fnil3 acc σ S Q:=⟨hl,q⟩
theorem j_fcons {t:Str→TE3} {acc:Str} (h:te σ S fun d S1=>∃y,d=.str y∧(acc++y).length≤sizeLine∧t (acc++y) σ S1 Q):fcons3 te t acc σ S Q:=h
end
end E3
namespace E3
open PySem PySem.Spec PyProof.Rows L2 EE
noncomputable abbrev _root_.L2.Cx.caught (X:Cx) (v:Value):Cx:={X with A:=X.A.mark (some v),calm:=false,xe:=fun _ _=>False}
noncomputable abbrev _root_.L2.Cx.tried (X:Cx) (xe:Value→Shared→Prop) (pn:List (Addr×Obj)):Cx:={X with xe:=xe,pn:=pn}
section
variable {X:Cx} {pins pn:List (Addr×Obj)} {τ:L2.St} {H H1:Hp} {s s1:Shared} {a C:Addr} {v:Value} {xe:Value→Shared→Prop}
theorem zlx (ok:X.Ok):(X.caught v).Ok:=⟨ok.mod,ok.kind,ok.glob,ok.blt,ok.above,ok.inj,ok.has,ok.cab,(fun z=>nomatch z),ok.frames,ok.stk,ok.exf,ok.bs,ok.bsz,ok.noex,ok.exfs,ok.funs,ok.frf⟩
theorem znr (ok:X.Ok):(X.tried xe pn).Ok:=⟨ok.mod,ok.kind,ok.glob,ok.blt,ok.above,ok.inj,ok.has,ok.cab,ok.hd,ok.frames,ok.stk,ok.exf,ok.bs,ok.bsz,ok.noex,ok.exfs,ok.funs,ok.frf⟩
theorem zgk (I:Inv X pins τ H s):Inv (X.caught v) pins τ H s:=⟨zlx I.ok,I.os,I.bare,I.base,I.loc,I.cell,I.free,I.freeC,I.pin,I.hok,I.len⟩
theorem zcl (ok:X.Ok) (I:Inv (X.caught v) pins τ H s):Inv X pins τ H s:=⟨ok,I.os,I.bare,I.base,I.loc,I.cell,I.free,I.freeC,I.pin,I.hok,I.len⟩
theorem zma (I:Inv X pins τ H s):Inv (X.tried xe (X.pn++pins)) [] τ H s:=⟨znr I.ok,I.os,I.bare,I.base,I.loc,I.cell,I.free,I.freeC,fun p hp=>I.pin p (by simpa using hp),I.hok,I.len⟩
theorem zb2 {pins':List (Addr×Obj)} (ok:X.Ok) (I:Inv (X.tried xe (X.pn++pins)) pins' τ H s):Inv X pins τ H s:=⟨ok,I.os,I.bare,I.base,I.loc,I.cell,I.free,I.freeC,fun p hp=>I.pin p (List.mem_append_left _ hp),I.hok,I.len⟩
theorem zjt {D:Ends} {f:Flow} (ok:X.Ok) (h:SP (X.tried xe (X.pn++pins)) [] D f s):SP X pins D f s:=by
  cases f with
  | next=>obtain ⟨σ',H',I,q⟩:=h;exact ⟨σ',H',zb2 ok I,q⟩
  | brk=>obtain ⟨σ',H',I,q⟩:=h;exact ⟨σ',H',zb2 ok I,q⟩
  | cont=>obtain ⟨σ',H',I,q⟩:=h;exact ⟨σ',H',zb2 ok I,q⟩
  | ret u=>obtain ⟨v,σ',H',I,r,q⟩:=h;exact ⟨v,σ',H',zb2 ok I,r,q⟩
structure Hld (X:Cx) (pins:List (Addr×Obj)) (τ:L2.St) (H:Hp) (a C:Addr) (s:Shared):Prop where
  ex:∃(s1:Shared) (H1:Hp) (g:Heap) (hold:List Addr) (a0:Value),Inv X pins τ H1 s1∧Un (frs X.stack) [] H1 H s1.heap g∧HOk X.prog X.w H g∧(∀b∈hold,H b=none∧s1.heap.get? b=none)∧(H a=none∧s1.heap.get? a=none) ∧
    Heap.FlyingW (PySem.W.hideAll g (hold++frs X.stack)) X.stack a (.ref C) a0 s.heap∧g.UpToSlots s.heap∧s.os=s1.os∧AllBare s.gens
theorem Hld.exc (h:Hld X pins τ H a C s):∃o vs,s.heap.get? a=some o∧o.cls=.ref C∧o.data=.fields vs:=by
  obtain ⟨s1,H1,g,hold,a0,I,u,ok,hh,na,fl,us,ho,hb⟩:=h.ex
  obtain ⟨oe,vs,h1,h2,h3,h4⟩:=fl.first
  exact ⟨oe,vs,h1,h2,h3⟩
theorem Hld.no (h:Hld X pins τ H a C s):H a=none:=by
  obtain ⟨s1,H1,g,hold,a0,I,u,ok,hh,na,fl,us,ho,hb⟩:=h.ex
  exact na.1
theorem Hld.un (h:Hld X pins τ H a C s) (o:Option HO) (hO:∀q,o=some q→ObjOk X.prog X.w (upd H a q) s.heap a q):Inv X pins τ (match o with|some q=>upd H a q|none=>H) s:=by
  obtain ⟨s1,H1,g,hold,a0,I,u,ok,hh,na,fl,us,ho,hb⟩:=h.ex
  have I':s.heap=s.heap:=rfl
  have fr:∀b∈frs X.stack,H b=none∧∃o,g.get? b=some o∧∀vs,o.data≠.fields vs:=by
    intro b hb
    obtain ⟨o,e,hn⟩:=(I.stack.mem hb).2
    obtain ⟨sl,e'⟩:=u.slot b o e (I.stkFree b hb) hb (by exact List.not_mem_nil)
    exact ⟨u.free b o e (I.stkFree b hb) (by exact List.not_mem_nil),_,e',hn⟩
  have keep:∀b o,g.get? b=some o→b∉hold→b∉frs X.stack→s.heap.get? b=some o:=fun b o e n1 n2=>fl.1 b o (PySem.W.hideAll_get _ e fun z=>(List.mem_append.mp z).elim n1 n2)
  have slot:∀b o,g.get? b=some o→b∈frs X.stack→∃sl,s.heap.get? b=some {o with slots:=sl}:=fun b o e hb=>by
    obtain ⟨_,o',e',hn⟩:=fr b hb
    rw [e] at e'
    cases e'
    exact us b o e hn
  have nold:∀b o,s1.heap.get? b=some o→b∉hold:=fun b o e z=>by rw [(hh b z).2] at e;cases e
  have na':∀b o,s1.heap.get? b=some o→b≠a:=fun b o e z=>by rw [z,na.2] at e;cases e
  have un:Un (frs X.stack) [] H1 H s1.heap s.heap:=by
    refine ⟨fun b o e n hf hx=>?_,fun b o e n hf hx=>?_,u.free,fun b o e hx=>?_,u.tups,u.frzs,u.tbls⟩
    · exact keep b o (u.keep b o e n hf hx) (nold b o e) hf
    · obtain ⟨sl,e1⟩:=u.slot b o e n hf hx
      obtain ⟨sl',e2⟩:=slot b _ e1 hf
      exact ⟨sl',e2⟩
    · obtain ⟨o',e1⟩:=u.there b o e hx
      by_cases hb:b∈frs X.stack
      · obtain ⟨sl,e2⟩:=slot b _ e1 hb
        exact ⟨_,e2⟩
      · exact ⟨_,keep b _ e1 (nold b o e) hb⟩
  have hok:HOk X.prog X.w H s.heap:=by
    intro b o e
    refine (ok b o e).stay (fun c u hc q=>?_) (fun _ q=>q) fun _ _ q=>q
    have hcH:H c≠Option.none:=by
      rcases hc with rfl|z
      · rw [e];simp
      · rw [z];simp
    exact keep c u q (fun z=>hcH (hh c z).1) fun z=>hcH (fr c z).1
  cases o with
  | none=>exact I.call' ho un hok hb fun _ z=>nomatch z
  | some q =>
    have n1:∀b o,H b=some o→b≠a:=fun b o e z=>by rw [z,na.1] at e;cases e
    refine I.call' ho ⟨un.keep,un.slot,fun b o e n hx=>?_,un.there,fun b xs e=>?_,fun b o u e=>?_,fun b ps e=>?_⟩ (fun b o e=>?_) hb fun _ z=>nomatch z
    · show upd H a q b=Option.none
      rw [zal (na' b o e)]
      exact un.free b o e n hx
    · show upd H a q b=_
      rw [zal (n1 b _ (un.tups b xs e))]
      exact un.tups b xs e
    · show upd H a q b=_
      rw [zal (n1 b _ (un.frzs b o u e))]
      exact un.frzs b o u e
    · obtain ⟨more,e1⟩:=un.tbls b ps e
      refine ⟨more,?_⟩
      show upd H a q b=_
      rw [zal (n1 b _ e1)]
      exact e1
    · have e:upd H a q b=some o:=e
      by_cases hb:b=a
      · subst hb
        rw [zat] at e
        cases e
        exact hO _ rfl
      · rw [zal hb] at e
        refine (hok b o e).stay (fun c u hc q=>q) (fun c z=>?_) fun c xs z=>?_
        · show upd H a q c=_
          rw [zal (n1 c _ z)]
          exact z
        · show upd H a q c=_
          rw [zal (n1 c _ z)]
          exact z
theorem Hld.inv (h:Hld X pins τ H a C s):Inv X pins τ H s:=h.un none fun _ z=>nomatch z
theorem Hld.as (h:Hld X pins τ H a C s):Inv X pins τ (upd H a (.ext (ExcOf a C))) s:=by
  obtain ⟨o,vs,h1,h2,h3⟩:=h.exc
  refine h.un (some _) fun q e=>?_
  cases e
  refine ⟨⟨o,h1,h2,vs,_,h3,rfl⟩,⟨o,h1⟩,fun h1 h2 z_1 k=>by obtain ⟨o,e,c,vs,n,d,hn⟩:=z_1;exact ⟨o,k o e,c,vs,n,d,hn⟩⟩
theorem Hld.lands {M:Model} {A:Around} {E:Value→Shared→Prop} {Q:Unit→Shared→Prop} (h:Hld X pins τ H a C s) (k:∀s',Hld X pins τ H a C s'→Q () s'):wpAny M A (setFlight (.ref a) none) Q E s:=by
  obtain ⟨s1,H1,g,hold,a0,I,u,ok,hh,na,fl,us,ho,hb⟩:=h.ex
  exact lands_againW fl fun h' fl' us'=>k _ ⟨s1,H1,g,hold,a0,I,u,ok,hh,na,fl',us.trans us',ho,hb⟩
theorem zl2 {E:XK} {e:Value} {s':Shared} {M:Model} {Ex:Value→Shared→Prop} {Q:Unit→Shared→Prop} (hst:X.stack=X.env::X.outer) (hf:X.env.frame=some X.env.locals) (I:Inv X pins τ H1 s1) (cx:CX1 X.prog X.w X.stack H1 s1 E e s')
    (k:∀a C H s5,e=.ref a→E (.ref C) (some a) H→Hld X pins τ H a C s5→Q () s5) :
    wpAny M X.A (noteFrame e X.env) (fun _ s2=>wpAny M X.A (setFlight e none) Q Ex s2) Ex s':=by
  obtain ⟨a,C,T,H',he,hos,hb,u,hok,fly,ha,hT,na,nT,z⟩:=cx
  subst he
  have I':=I.call' hos u hok hb fun _ z=>nomatch z
  have all:=I'.stack
  obtain ⟨oe,vs,a0,e1,e2,e3,e4,e5⟩:=fly.exc
  obtain ⟨oT,ts,t1,t2,t3⟩:=fly.tb
  have hl:∀env∈X.stack,∀b,env.frame=some b→b∈[a,T]++frs X.stack:=fun env he b hb=>List.mem_append_right _ (List.mem_filterMap.mpr ⟨env,he,hb⟩)
  have fl:Heap.FlyingW (PySem.W.hideAll s'.heap ([a,T]++frs X.stack)) X.stack a (.ref C) a0 s'.heap:=⟨fun b o q=>PySem.W.of_hideAll _ q,PySem.W.hideAll_none _ (by simp),PySem.W.funFrames_hide all hl,
    oe,vs,T,oT,ts,e1,⟨e2,e4⟩,e3,e5,PySem.W.hideAll_none _ (by simp),fly.ne,t1,t2,t3⟩
  have fl':=fl
  rw [hst] at fl'
  refine wpAny_looks_onW (by rw [I.ok.frames,hst]) hf fl' fun h4 held us4=>?_
  refine wpAny_landsW held fun h5 fl5 us5=>?_
  rw [←hst] at fl5
  refine k a C H' _ rfl z ⟨s1,H1,s'.heap,[a,T],a0,I,u,hok,fun b hb=>?_,⟨ha,na⟩,fl5,us4.trans us5,hos,hb⟩
  rcases List.mem_cons.mp hb with rfl|hb
  · exact ⟨ha,na⟩
  · rcases List.mem_cons.mp hb with rfl|hb
    · exact ⟨hT,nT⟩
    · cases hb
theorem zkm {args:List Value} {s3:Shared} {M:Model} {Ex:Value→Shared→Prop} {Q:Unit→Shared→Prop} (hst:X.stack=X.env::X.outer) (hf:X.env.frame=some X.env.locals) (I:Inv X pins τ H1 s1) (hx:Heap.MadeExcOf s1.heap s3.heap a (.ref C) args)
    (ho:s3.os=s1.os) (hg:s3.gens=s1.gens) (k:∀s5,Hld X pins τ H1 a C s5→Q () s5) :
    wpAny M X.A (noteFrame (.ref a) X.env) (fun _ s2=>wpAny M X.A (setFlight (.ref a) none) Q Ex s2) Ex s3:=by
  obtain ⟨t,he,htn,ht⟩:=hx.there
  have all:=I.stack
  have hl:∀env∈X.stack,∀b,env.frame=some b→b∈[]++frs X.stack:=fun env he b hb=>List.mem_append_right _ (List.mem_filterMap.mpr ⟨env,he,hb⟩)
  have ff:=PySem.W.funFrames_hide (as:=[]++frs X.stack) all hl
  have fresh:∀b,s1.heap.get? b=none→(PySem.W.hideAll s1.heap ([]++frs X.stack)).get? b=none:=fun b hb=>by
    cases q:(PySem.W.hideAll s1.heap ([]++frs X.stack)).get? b with
    | none=>rfl
    | some o=>have:=PySem.W.of_hideAll _ q;rw [hb] at this;cases this
  have ff':=ff
  rw [hst] at ff'
  unfold noteFrame
  simp only [hf]
  refine wpAny_bind (wpAny_field he rfl (x:=.none) rfl ?_)
  rw [if_neg (by decide)]
  refine wpAny_entryW (base:=PySem.W.hideAll s1.heap ([]++frs (X.env::X.outer))) (outer:=X.outer) (by rw [I.ok.frames,hst]) ?_ hf he (fun b o hb=>?_) ?_ rfl (by simp) (a0:=.ref t) rfl fun h4 ⟨n1,n2,n3,n4⟩=>?_
  · rw [←hst]
    exact ff.of_keeps fun b o hb _=>⟨o,hx.keeps b o hb,rfl⟩
  · rw [←hst] at hb
    exact hx.keeps b o (PySem.W.of_hideAll _ hb)
  · rw [←hst]
    exact fresh a hx.new
  · refine wpAny_landsW (base:=PySem.W.hideAll s1.heap ([]++frs (X.env::X.outer))) (l:=X.env::X.outer) (L:=X.env.locals) (cls:=.ref C) (a0:=.ref t) ⟨n1,by rw [←hst];exact fresh a hx.new,n2,n3⟩ fun h5 fl5 us5=>?_
    rw [←hst] at fl5
    have hbare:AllBare s3.gens:=by rw [hg];exact I.bare
    have hno:∀b∈([]:List Addr),H1 b=Option.none∧s1.heap.get? b=Option.none:=fun b hb=>absurd hb List.not_mem_nil
    exact k _ ⟨s1,H1,s1.heap,[],.ref t,I,Un.refl,I.hok,hno,⟨ze1 I.hok hx.new,hx.new⟩,fl5,((Heap.UpToSlots.of_keeps hx.keeps).trans n4).trans us5,ho,hbare⟩
end
end E3
namespace E3
open PySem PySem.Spec PyProof.Rows L2 EE
theorem zio {K:PySem.W.Frag} {M:Model} {A:Around} {E:Value→Shared→Prop} {s:Shared} {a C Dc:Addr} {o:Obj} {b:Bool} {Q:Bool→Shared→Prop} (X:K.In s.heap) (h1:s.heap.get? a=some o) (h2:o.cls=.ref C) (hk:PySem.W.kitCls K (.ref C) (.ref Dc)=some b)
    (hb:PySem.W.kitCls K (.ref Dc) (.type "BaseException")=some true) (q:Q b s):wpAny M A (excMatches (.ref a) (.ref Dc)) Q E s:=by
  obtain ⟨t1,t2,t3⟩:=PySem.W.kit_cls (M:=M) X hk
  obtain ⟨_,_,t4⟩:=PySem.W.kit_cls (M:=M) X hb
  have LI:PySem.W.Looks M s.heap (isInstance (.ref Dc) (.type "tuple")) false:=t1.andThen (PySem.W.Looks.of_pure tc_notTuple)
  have LE:PySem.W.Looks M s.heap (isExcClass (.ref Dc)) true:=t2.andThen (by simpa using t4)
  have LT:PySem.W.Looks M s.heap (typeOf (.ref a)) (.ref C):=h2▸(PySem.W.Looks.ld h1).andThen .now
  unfold excMatches
  refine wpAny_bind (LI.here ?_)
  rw [if_neg (by decide)]
  refine wpAny_bind (wpAny_pure ?_)
  dsimp only
  rw [List.forIn_cons]
  refine wpAny_bind (wpAny_bind (wpAny_bind (LE.here ?_)))
  rw [if_neg (by decide)]
  refine wpAny_pure ?_
  dsimp only
  rw [List.forIn_nil]
  refine wpAny_pure (wpAny_bind (LT.here ?_))
  rw [List.forIn_cons]
  refine wpAny_bind (wpAny_bind (wpAny_bind (t3.here ?_)))
  cases b
  · rw [if_neg (by decide)]
    refine wpAny_pure ?_
    dsimp only
    rw [List.forIn_nil]
    exact wpAny_pure (wpAny_pure q)
  · rw [if_pos rfl]
    exact wpAny_pure (wpAny_pure (wpAny_pure q))
section
variable {X:Cx} {W3:W3T} {pins:List (Addr×Obj)} {τ:L2.St} {H:Hp} {s:Shared}
theorem SR.setNone {K:PySem.W.Frag} {H:Hp}:∀{σ:St3} {τ:L2.St} (i:Nat),SR K H σ τ→SR K H (σ.set i none) (τ.set i none)
  | _,_,_,.nil=>.nil
  | _,_,0,.cons _ t=>.cons (fun e he=>by cases he) t
  | _,_,i+1,.cons q t=>.cons q (SR.setNone i t)
theorem name_goes {M:Model} {A:Around} {E:Value→Shared→Prop} {i:Nat} {x:Str} {pos:Pos} {Q:Unit→Shared→Prop} (I:Inv X pins τ H s) (hN:X.N.Nodup) (hi:X.N[i]?=some x) (hk:X.env.scope.names.lookup x=some .local) (h:∀s',Inv X pins (τ.set i none) H s'→Q () s') :
    wpAny M A (do bindName X.env x .none;unbindBehindTheSuite X.env x pos) Q E s:=by
  obtain ⟨m,hn,hl⟩:=id I.loc
  have hcls:(X.env.scope.kind == .class||(X.env.scope.kind == .module&&X.env.locals != X.env.globals))=false:=by rw [I.ok.kind];rfl
  obtain ⟨oL,_,_,hoL,_⟩:=id hn
  refine wpAny_nameGoes_keeps hk hn hcls fun h' v hn' hs=>h _ ?_
  have ne:∀b o,X.s₀.heap.get? b=some o→b≠X.env.locals:=fun b o e=>Nat.ne_of_lt (Nat.lt_of_lt_of_le (Heap.lt_size e) I.ok.above)
  refine ⟨I.ok,I.os,I.bare,⟨fun b o e n hb hx=>?_,fun b o e n hb hx=>?_,I.base.free,fun b o e hx=>?_,I.base.tups,I.base.frzs,I.base.tbls⟩,⟨_,hn',fun j y v' e1 e2 e3=>?_⟩,fun y c e=>?_,I.free,I.freeC,fun p hp=>?_,fun b ob e=>?_,by simpa using I.len⟩
  · exact (hs.2 b (ne b o e)).trans (I.base.keep b o e n hb hx)
  · obtain ⟨sl,e1⟩:=I.base.slot b o e n hb hx
    exact ⟨sl,(hs.2 b (ne b o e)).trans e1⟩
  · obtain ⟨o',e1⟩:=I.base.there b o e hx
    exact ⟨o',(hs.2 b (ne b o e)).trans e1⟩
  · by_cases hj:j=i
    · subst hj
      rw [List.getElem?_set] at e2
      simp at e2
    · rw [List.getElem?_set_ne (Ne.symm hj)] at e2
      obtain ⟨u',r',q⟩:=hl j y v' e1 e2 e3
      refine ⟨u',r',?_⟩
      rcases q with ⟨k,e⟩|⟨k,c,e,z⟩
      · refine .inl ⟨k,?_⟩
        have:y≠x:=fun e=>hj (zgy hN e1 (e▸hi))
        simp [this,e]
      · exact .inr ⟨k,c,e,z.sameBut hs (I.cne y c e)⟩
  · obtain ⟨w',z⟩:=I.cell y c e
    exact ⟨w',z.sameBut hs (I.cne y c e)⟩
  · obtain ⟨e,n,ne,nf,d⟩:=I.pin p hp
    exact ⟨(hs.2 p.1 ne).trans e,n,ne,nf,d⟩
  · refine (I.hok b ob e).stay (fun c w' hc q=>(hs.2 c ?_).trans q) (fun _ q=>q) fun _ _ q=>q
    rintro rfl
    have hfree:=I.free
    rcases hc with rfl|hc
    · rw [hfree] at e;cases e
    · rw [hfree] at hc;cases hc
def PH3 (X:Cx) (hs:List ExceptHandler) (r:Ends3→W3T):Prop:=∀(z:Zt) (pins:List (Addr×Obj)) (s:Shared) (τ:L2.St) (σ:St3) (H:Hp) (S:Hp3) (D:Ends) (D3:Ends3) (a C:Addr),Hld X pins τ H a C s→SR X.K H σ τ→Rl X.K z S H→CD X.K z H D3 D→r D3 σ C a S →
  wpAny (model X.prog X.w) X.A (handleBy (.ref a) X.env hs) (SP X pins D) X.xe s
theorem h_nil:PH3 X [] (fun _ _ _ _ _=>False):=fun _ _ _ _ _ _ _ _ _ _ _ _ _ _ _ h=>h.elim
def hAs (K:PySem.W.Frag) (Dc:Addr) (i:Nat) (t:TS3) (r:Ends3→W3T):Ends3→W3T:=fun D3 σ C a S=>∃b,PySem.W.kitCls K (.ref C) (.ref Dc)=some b ∧
  if b=true then S a=none→t {nx:=fun σ' S'=>D3.nx (σ'.set i none) S',rt:=D3.rt,bk:=fun σ' S'=>D3.bk (σ'.set i none) S',ct:=fun σ' S'=>D3.ct (σ'.set i none) S'} (σ.set i (some (.ref a))) (up S a (.exc C)) else r D3 σ C a S
variable {x n:Str} {Dc:Addr} {i:Nat} {np pos:Pos} {b0:Stmt} {suite:List Stmt} {rest:List ExceptHandler} {t:TS3} {r:Ends3→W3T}
theorem h_as (hm:X.mg x=some (.ref Dc)) (hb:PySem.W.kitCls X.K (.ref Dc) (.type "BaseException")=some true) (hg:Gl X x) (hN:X.N.Nodup) (hi:X.N[i]?=some n) (hl:X.env.scope.names.lookup n=some .local)
    (ht:∀v,PSs3 (X.caught v) NoX (b0::suite) t) (hr:PH3 X rest r) (hd:(x==("__debug__":Str))=false:=by decide):PH3 X (.ExceptHandler (some (.Name x np)) (some n) (b0::suite) pos::rest) (hAs X.K Dc i t r):=by
  intro z pins s τ σ H S D D3 a C hld hs l cd h
  obtain ⟨b,hk,h⟩:=h
  have I:=hld.inv
  obtain ⟨o,vs,h1,h2,h3⟩:=hld.exc
  refine wpAny_handleBy_cons (codeAny_handlers_test (zfl (X:=X.caught (.ref a)) (zgk I) hg hm (zio I.kIn h1 h2 hk hb ?_) hd)) (by intro q;cases q)
  cases b with
  | false=>exact hr z pins s τ σ H S D D3 a C hld hs l cd h
  | true =>
    have hn:=hld.no
    have hS:S a=none:=(l.fresh hn).1
    have hz:¬z a:=(l.fresh hn).2
    have h:=h hS
    have kp:Kp z H (upd H a (.ext (ExcOf a C))):=Kp.new hn hz
    refine codeAny_handlers_suite_as (hld.lands fun s6 h6=>?_)
    refine zey (X:=X.caught (.ref a)) (v:=.ref a) (zgk h6.as) hN hi (.inl hl) rfl (fun s7 I7=>?_) (.inr hl)
    have go:=ht (.ref a) (ZX.no _ z) pins s7 _ _ {nx:=fun τ' H'=>D.nx (τ'.set i none) H',rt:=D.rt,bk:=fun τ' H'=>D.bk (τ'.set i none) H',ct:=fun τ' H'=>D.ct (τ'.set i none) H'} I7
      ⟨_,_,_,(hs.mono kp).set (.ref a) i,l.put (o:=.exc C) kp hz (show upd H a (.ext (ExcOf a C)) a=some (.ext (ExcOf a C)) from zat),h,
        ⟨fun σ' S' τ' H' k' s' l' q'=>cd.nx _ S' _ H' (kp.trans k') (s'.setNone i) l' q',fun σ' S' τ' H' k' s' l' q'=>cd.bk _ S' _ H' (kp.trans k') (s'.setNone i) l' q',
          fun σ' S' τ' H' k' s' l' q'=>cd.ct _ S' _ H' (kp.trans k') (s'.setNone i) l' q',fun d S' v H' k' r' l' q'=>cd.rt d S' v H' (kp.trans k') r' l' q'⟩⟩
    refine wpAny_mono go (fun f s8 q=>?_) fun _ _ z=>z.elim
    cases f with
    | next=>obtain ⟨τ',H',I8,q⟩:=q;exact name_goes (zcl I.ok I8) hN hi hl fun s9 I9=>⟨_,H',I9,q⟩
    | brk=>obtain ⟨τ',H',I8,q⟩:=q;exact name_goes (zcl I.ok I8) hN hi hl fun s9 I9=>⟨_,H',I9,q⟩
    | cont=>obtain ⟨τ',H',I8,q⟩:=q;exact name_goes (zcl I.ok I8) hN hi hl fun s9 I9=>⟨_,H',I9,q⟩
    | ret u=>obtain ⟨v,τ',H',I8,rv,q⟩:=q;exact name_goes (zcl I.ok I8) hN hi hl fun s9 I9=>⟨v,_,H',I9,rv,q⟩
def try3 (tb:W3T→TS3) (r:Ends3→W3T):TS3:=fun D3 σ S=>tb (r D3) D3 σ S
theorem cd_at {K:PySem.W.Frag} {Z:Zt} {S S':Hp3} {H H':Hp} {D3:Ends3} {D:Ends} (l:Rl K Z S H) (hc:CD K Z H D3 D) (l':Rl K (Z.at H) S' H'):CD K (Z.at H) H' D3 D:=by
  have k0:Kp Z H H':=l'.old.unhide fun _ z=>z
  have out:∀{S2:Hp3} {H2:Hp},Kp (Z.at H) H' H2→Rl K (Z.at H) S2 H2→Kp Z H H2∧Rl K Z S2 H2:=fun k l2=>⟨k0.trans (k.unhide fun _ z=>z),l2.out l (l'.old.trans k)⟩
  exact ⟨fun σ' S2 τ' H2 k s2 l2 q=>hc.nx _ _ _ _ (out k l2).1 s2 (out k l2).2 q,fun σ' S2 τ' H2 k s2 l2 q=>hc.bk _ _ _ _ (out k l2).1 s2 (out k l2).2 q,fun σ' S2 τ' H2 k s2 l2 q=>hc.ct _ _ _ _ (out k l2).1 s2 (out k l2).2 q,
    fun d S2 v H2 k r l2 q=>hc.rt _ _ _ _ (out k l2).1 r (out k l2).2 q⟩
theorem s_try {body:List Stmt} {h0:ExceptHandler} {hs:List ExceptHandler} {tb:W3T→TS3} (hst:X.stack=X.env::X.outer) (hf:X.env.frame=some X.env.locals)
    (hb:∀xe pn (W:W3T),PSs3 (X.tried xe pn) W body (tb W)) (hh:PH3 X (h0::hs) r):PS3 X W3 (.Try body (h0::hs) [] [] pos) (try3 tb r):=by
  rintro Z pins s τ H D I ⟨D3,σ,S,hsr,l,ht,hc⟩
  refine wpAny_Try_except ?_
  have main:∀τ' a C H' s5 σ' S',Hld X pins τ' H' a C s5→SR X.K H' σ' τ'→Rl X.K (Z.z.at H) S' H'→r D3 σ' C a S'→wpAny (model X.prog X.w) X.A (handleBy (.ref a) X.env (h0::hs)) (SP X pins D) X.xe s5 :=
    fun τ' a C H' s5 σ' S' hld sr l' w=>hh (Z.z.at H) pins s5 τ' σ' H' S' D D3 a C hld sr l' (cd_at l hc l') w
  let xe':Value→Shared→Prop:=fun e s1=>wpAny (model X.prog X.w) X.A (noteFrame e X.env) (fun _ s2=>wpAny (model X.prog X.w) X.A (setFlight e none) (fun _ s3=>wpAny (model X.prog X.w) X.A (handleBy e X.env (h0::hs)) (SP X pins D) X.xe s3) X.xe s2) X.xe s1
  let zx:ZX (X.tried xe' (X.pn++pins)) (r D3):={
    z:=Z.z.at H
    E:=fun τ cv oa H'=>∃C a σ S,cv=.ref C∧oa=some a∧SR X.K H' σ τ∧Rl X.K (Z.z.at H) S H'∧r D3 σ C a S
    pass:=fun τ' pins' H1 s1 e s' I1 cx=>zl2 hst hf (zb2 I.ok I1) cx fun a C H' s5 he hE hld=>by
      subst he
      obtain ⟨C',a',σ',S',e1,e2,sr,l',w⟩:=hE
      cases e1
      cases e2
      exact main τ' a C H' s5 σ' S' hld sr l' w
    rz:=fun τ' pins' H1 s1 s3 a C args I1 hx ho hg hE=>zkm hst hf (zb2 I.ok I1) hx ho hg fun s5 hld=>by
      obtain ⟨C',a',σ',S',e1,e2,sr,l',w⟩:=hE
      cases e1
      cases e2
      exact main τ' a C H1 s5 σ' S' hld sr l' w
    ce:=fun σ τ C a S H' sr l' _ w=>⟨C,a,σ,S,rfl,rfl,sr,l',w⟩}
  refine wpAny_mono (hb xe' (X.pn++pins) (r D3) zx [] s τ H D (zma I) ⟨D3,σ,S,hsr,l.into,ht,cd_at l hc l.into⟩) (fun f s1 q=>?_) fun _ _ z=>z
  have q:=zjt I.ok q
  cases f with
  | next=>exact wpAny_execs_nil q
  | brk=>exact q
  | cont=>exact q
  | ret u=>exact q
end
section
variable {σ:St3} {S:Hp3} {n b c:St3→Hp3→Prop} {rt:K3} {K:PySem.W.Frag} {C Dc a:Addr} {i:Nat} {t:TS3} {r:Ends3→W3T}
theorem j_try {tb:W3T→TS3} (h:tb (r ⟨n,rt,b,c⟩) ⟨n,rt,b,c⟩ σ S):try3 tb r ⟨n,rt,b,c⟩ σ S:=h
theorem j_hit (hk:PySem.W.kitCls K (.ref C) (.ref Dc)=some true) (h:S a=none→t ⟨fun σ' S'=>n (σ'.set i none) S',rt,fun σ' S'=>b (σ'.set i none) S',fun σ' S'=>c (σ'.set i none) S'⟩ (σ.set i (some (.ref a))) (up S a (.exc C))):hAs K Dc i t r ⟨n,rt,b,c⟩ σ C a S:=⟨true,hk,by rw [if_pos rfl];exact h⟩
end
end E3
namespace E3
section
open PySem PySem.Spec PyProof.Rows L2 EE PySem.W Builtin Builtin.ObjectAttr Builtin.Getset_descriptor
theorem zmi {K:PySem.W.Frag} {prog:Program} {w:World} {A:Around} {E:Value→Shared→Prop} {s:Shared} {a C:Addr} {o:Obj} {Q:Option Value→Shared→Prop} (X:K.In s.heap) (h1:s.heap.get? a=some o) (h2:o.cls=.ref C)
    (hga:findIn K (.ref C) "__getattribute__"=some (some (.builtin "BaseException.__getattribute__"))) (hgt:findIn K (.ref C) "__getattr__"=some none) (ha:findIn K (.ref C) "__class__"=some (some (.builtin "object.__class__")))
    (hn:specialIn K (.builtin "object.__class__") "__get__"=some (some (.builtin "getset_descriptor.__get__"))) (htk:takesIn K (.builtin "object.__class__")=some true) (hm:mroIn K C (.type "object")=some true) (hmB:mroIn K C (.type "BaseException")=some true)
    (h:Q (some (.ref C)) {s with toks:=s.toks+1}):wpAny (model prog w) A (getAttr? (.ref a) "__class__") Q E s:=by
  obtain ⟨hh,g,d,t,os⟩:=s
  have L0:Looks (model prog w) hh (typeOf (.ref a)) (.ref C):=h2▸(Looks.ld h1).andThen .now
  have L1:=looks_findIn (M:=model prog w) X hga;have L2:=looks_findIn (M:=model prog w) X hgt
  have LF:Looks (model prog w) hh (Builtin.ObjectAttr.find (.ref a) (.ref C) "__class__") (.bind (.builtin "getset_descriptor.__get__") (.builtin "object.__class__")) :=
    by
    have d1:Looks (model prog w) hh (Builtin.ObjectAttr.dataDescriptor? (some (.builtin "object.__class__")) (some (.builtin "getset_descriptor.__get__"))) (some (.builtin "getset_descriptor.__get__",.builtin "object.__class__")):=by
      have d0:=looks_takesIn (M:=model prog w) X htk
      intro A' Q' E' s' k q
      refine wpAny_bind (d0 A' _ E' s' k ?_)
      rw [if_pos rfl]
      exact wpAny_pure q
    exact (looks_findIn X ha).andThen ((looks_specialIn X hn).andThen (d1.andThen (Looks.tag .now)))
  have Lm:Looks (model prog w) hh (isSubtype (.ref C) (.type "BaseException")) true:=looks_mroIn X hmB
  have Lo:Looks (model prog w) hh (isSubtype (.ref C) (.type "object")) true:=looks_mroIn X hm
  unfold getAttr? getAttrBy? getAttrBy;refine wpAny_bind (wpAny_mkText (wpAny_bind (wpAny_attempt (wpAny_holding (wpAny_bind (L0.at (wpAny_bind (L1.at ?_))))))))
  show wpAny _ _ (getAttrByItsOwn _ _ _ _ _ _) _ _ _
  unfold getAttrByItsOwn
  refine wpAny_bind (L2.at ?_)
  refine wpAny_bind (wpAny_attempt (wpAny_holding ?_))
  show wpAny _ _ (boundAndCalled _ _ _) _ _ _
  unfold boundAndCalled
  rw [F.excAttr_ValueError.ga.bind]
  refine wpAny_bind (wpAny_pure ?_)
  refine wpAny_call (codeAny_call_builtin F.excAttr_ValueError.ga.plain F.entry_bexc_ga ?_)
  have hk:builtinKind "BaseException.__getattribute__"=some .slot:=by decide +kernel
  have hs:splitId "BaseException.__getattribute__"=some ("BaseException","__getattribute__"):=by decide +kernel
  simp only [checkBuiltinCall,hk,hs]
  have LI:Looks (model prog w) hh (isInstance (.ref a) (.type "BaseException")) true:=L0.andThen Lm
  refine wpAny_bind (LI.at ?_)
  simp only [Bool.not_true,Bool.false_eq_true,if_false]
  have fin:∀s1:Shared,s1=⟨hh,g,d,t+1,os⟩→wpAny (model prog w) A (handedOut (.ref C)) (fun a s'=>wpAny (model prog w) A (pure (some a)) Q E s') E s1:=fun s1 e=>by
    subst e
    exact wpAny_pure (wpAny_pure h)
  have get:∀{R:Result→Shared→Prop} {A:Around},R (.ok (.ret (.ref C))) ⟨hh,g,d,t+1,os⟩→codeAny (model prog w) A (.call (.builtin "getset_descriptor.__get__") ⟨[.builtin "object.__class__",.ref a,.ref C],[]⟩) R ⟨hh,g,d,t+1,os⟩:=by
    intro R A hR;refine codeAny_call_builtin KF.slot_gs.plain KF.entry_gs (KF.slot_gs.check _ _ _ _ _ _ _ _ KF.type_class (KF.args_gs _ _ _) ?_);unfold Builtin.«getset_descriptor.__get__» descrGet
    rw [dga_obj]
    refine wpAny_bind (wpAny_pure ?_)
    unfold descrGetter descrCheckInstance descrNameAndClass isInstance;simp only [KF.owner_class];(repeat lk);refine ⟨Code.quiet_builtin _ (by decide +kernel),codeAny_builtin KF.entry_class ?_⟩;unfold Builtin.«object.__class__» shownTypeOf
    repeat lk
    exact hR
  have body:∀{A:Around} {Q:Fin→Shared→Prop} {E:Value→Shared→Prop},Q (.done (.ret (.ref C))) ⟨hh,g,d,t+1,os⟩→wpAny (model prog w) A (Builtin.«object.__getattribute__» ⟨[.ref a,.str "__class__" t],[]⟩) Q E ⟨hh,g,d,t+1,os⟩:=by
    intro A Q E hQ
    unfold Builtin.«object.__getattribute__» slotArgs
    repeat (first|with_reducible refine Looks.at (by assumption) ?_|wp_step)
    exact get (wpAny_pure hQ)
  cases hsig:Manifest.signature? "BaseException.__getattribute__" with
  | none =>
    refine wpAny_pure (body ?_)
    exact wpAny_pure (wpAny_pure h)
  | some sig =>
    have ha:=F.args_bexc_ga (.ref a) (.str "__class__" t)
    simp only [argsOk,hsig] at ha
    have h2:Bind.checkArgs "BaseException.__getattribute__" sig ⟨[.ref a,.str "__class__" t],[]⟩=pure ():=ha
    show wpAny _ _ (Bind.checkArgs "BaseException.__getattribute__" sig ⟨[.ref a,.str "__class__" t],[]⟩) _ _ _
    rw [h2]
    refine wpAny_pure (body ?_)
    exact wpAny_pure (wpAny_pure h)
end
open PySem PySem.Spec PyProof.Rows L2 EE
noncomputable def rfOne (K:PySem.W.Frag) (C:Addr):Bool:=PySem.W.excIn K C bmVE "ValueError.__new__"&&PySem.W.findIn K (.ref C) "__getattribute__"==some (some (.builtin "BaseException.__getattribute__"))&&PySem.W.findIn K (.ref C) "__getattr__"==some none &&
  PySem.W.findIn K (.ref C) "__class__"==some (some (.builtin "object.__class__"))&&PySem.W.specialIn K (.builtin "object.__class__") "__get__"==some (some (.builtin "getset_descriptor.__get__"))&&PySem.W.takesIn K (.builtin "object.__class__")==some true &&
  PySem.W.mroIn K C (.type "object")==some true&&PySem.W.mroIn K C (.type "BaseException")==some true&&PySem.W.kitCls K (.ref C) (.type "BaseException")==some true&&PySem.W.kitCls K (.ref C) (.type "ValueError")==some true&&(PySem.W.clsIn K C).isSome
def AtX (a C:Addr) (h:Heap):Prop:=∃o,h.get? a=some o∧o.cls=.ref C
theorem zgz {K:PySem.W.Frag} {a C:Addr} (e:rfOne K C=true):PySem.W.KitX K (.ref a) (.ref C) (AtX a C):=by
  unfold rfOne at e
  simp only [Bool.and_eq_true,beq_iff_eq] at e
  obtain ⟨⟨⟨⟨⟨⟨⟨⟨⟨⟨_,e1⟩,e2⟩,e3⟩,e4⟩,e5⟩,e6⟩,e7⟩,_⟩,_⟩,e8⟩:=e
  obtain ⟨cd,e8⟩:=Option.isSome_iff_exists.mp e8
  unfold PySem.W.clsIn at e8
  split at e8
  · rename_i c' d' cd' sl' ho
    refine ⟨fun M h X p=>?_,fun M h X p=>?_,fun h tp dd its n sl X htp=>?_,fun X p k=>?_⟩
    · obtain ⟨o,h1,h2⟩:=p
      exact h2▸(PySem.W.Looks.ld h1).andThen .now
    · intro A' Q' E' s' k q
      unfold isType loadHead
      exact wpAny_bind (wpAny_loadPart (k _ _ (X _ _ ho)) (wpAny_pure q))
    · refine Bool.eq_false_iff.mpr fun q=>?_
      have e:C=tp:=Value.ref.inj (beq_iff_eq.mp q)
      subst e
      cases (X _ _ ho).symm.trans htp
    · obtain ⟨o,h1,h2⟩:=p
      exact zmi X h1 h2 e1 e2 e3 e4 e5 e6 e7 k
  · cases e8
section
variable {X:Cx}
theorem zg6:∀{cs:List Addr} {us:List Value},Vals (cs.map V.ref) us→us=cs.map Value.ref
  | [],_,.nil=>rfl
  | _::cs,_,.cons r t=>by rw [zg6 t,show _=Value.ref _ from r];rfl
def isEV (K:PySem.W.Frag):List V→Hp→VK→Prop:=fun xs H Q=>∃(a C:Addr) (c:V) (b:Bool),xs=[.ref a,c]∧H a=some (.ext (ExcOf a C))∧rfOne K C=true∧Q (.bl b) H ∧
  ((∃Dc,c=.ref Dc∧PySem.W.kitOne K (.ref C) (.ref Dc)=some b)∨(∃n,c=.ty n∧PySem.W.kitOne K (.ref C) (.type n)=some b)∨∃(t:Addr) (cs:List Addr),c=.ref t∧SqT K H t (cs.map V.ref)∧PySem.W.kitAny K (.ref C) (cs.map Value.ref)=some b)
theorem zd7:CallR X (.builtin "isinstance") (isEV X.K):=by
  intro pins s σ H xs us Q I r h
  obtain ⟨a,C,c,b,rfl,hH,e,q,h⟩:=h
  obtain ⟨u,v,rfl,ru,rv⟩:=vals2 r
  cases (show u=Value.ref a from ru)
  have p:AtX a C s.heap:=by
    obtain ⟨⟨o,h1,h2,_⟩,_⟩:=I.hok a _ hH
    exact ⟨o,h1,h2⟩
  rcases h with ⟨Dc,rfl,hk⟩|⟨n,rfl,hk⟩|⟨t,cs,rfl,ht,hk⟩
  · cases (show v=Value.ref Dc from rv)
    exact PySem.W.kia_one (zgz e) I.kIn p hk (fun z=>nomatch z) fun tk=>⟨.bl b,H,I.tok _,rfl,q⟩
  · cases (show v=Value.type n from rv)
    exact PySem.W.kia_one (zgz e) I.kIn p hk (fun z=>nomatch z) fun tk=>⟨.bl b,H,I.tok _,rfl,q⟩
  · cases (show v=Value.ref t from rv)
    obtain ⟨its,rs,⟨o,h1,h2,n,h3⟩,_⟩:=I.tuple ht
    cases zg6 rs
    obtain ⟨oc,od,dt,sl⟩:=o
    cases h2
    cases h3
    exact PySem.W.kia_tup (zgz e) I.kIn p h1 hk (fun z=>nomatch z) fun tk=>⟨.bl b,H,I.tok _,rfl,q⟩
end
inductive Rf where
  | err|text|twice|such|count|apart|many|way
  deriving DecidableEq
noncomputable def Rf.nm:Rf→Str
  | .err=>"ErrandError" | .text=>"BadText" | .twice=>"Twice" | .such=>"NoSuch" | .count=>"WrongCount" | .apart=>"Apart" | .many=>"TooMany" | .way=>"NoWay"
noncomputable def Rf.sub (i j:Rf):Bool:=decide (i=j)||decide (j=.err)
structure Rfs (K:PySem.W.Frag) (mg:Str→Option Value) (es:List Rf) (adr:Rf→Addr):Prop where
  bound:∀i∈es,mg i.nm=some (.ref (adr i))
  one:∀i∈es,rfOne K (adr i)=true
  two:∀i∈es,∀j∈es,PySem.W.kitCls K (.ref (adr i)) (.ref (adr j))=some (i.sub j)
section
variable {K:PySem.W.Frag} {mg:Str→Option Value} {es:List Rf} {adr:Rf→Addr} (R:Rfs K mg es adr) {i j:Rf}
include R
theorem Rfs.exc (hi:i∈es):PySem.W.excIn K (adr i) bmVE "ValueError.__new__"=true:=by
  have e:=R.one i hi
  unfold rfOne at e
  simp only [Bool.and_eq_true] at e
  exact e.1.1.1.1.1.1.1.1.1.1
theorem Rfs.base (hi:i∈es):PySem.W.kitCls K (.ref (adr i)) (.type "BaseException")=some true:=by
  have e:=R.one i hi
  unfold rfOne at e
  simp only [Bool.and_eq_true,beq_iff_eq] at e
  exact e.1.1.2
theorem Rfs.val (hi:i∈es):PySem.W.kitOne K (.ref (adr i)) (.type "ValueError")=some true:=by
  have e:=R.one i hi
  unfold rfOne at e
  simp only [Bool.and_eq_true,beq_iff_eq] at e
  unfold PySem.W.kitOne
  rw [if_neg (by intro z;cases beq_iff_eq.mp z)]
  exact e.1.2
theorem Rfs.is (hi:i∈es) (hj:j∈es):PySem.W.kitOne K (.ref (adr i)) (.ref (adr j))=some (i.sub j):=by
  unfold PySem.W.kitOne
  have h:=R.two i hi j hj
  split
  · rename_i z
    have e:adr i=adr j:=Value.ref.inj (beq_iff_eq.mp z)
    rw [←e,R.two i hi i hi] at h
    rw [←h]
    unfold Rf.sub
    simp
  · exact h
theorem Rfs.any (hi:i∈es):∀{js:List Rf},(∀j∈js,j∈es)→PySem.W.kitAny K (.ref (adr i)) ((js.map adr).map Value.ref)=some (js.any fun j=>i.sub j)
  | [],_=>rfl
  | j::js,h=>by
    have hr:=Rfs.any hi (js:=js) fun k hk=>h k (.tail _ hk)
    simp only [List.map_cons,PySem.W.kitAny,R.is hi (h j (.head _)),List.any_cons]
    cases i.sub j
    · exact hr
    · rfl
end
def isE3 (es:List Rf) (adr:Rf→Addr):List D→Hp3→K3→Prop:=fun xs S Q=>∃a i c b,xs=[.ref a,c]∧S a=some (.exc (adr i))∧i∈es∧Q (.bl b) S ∧
  ((∃j∈es,c=.ref (adr j)∧b=i.sub j)∨(c=.ty "ValueError"∧b=true)∨∃js:List Rf,(∀j∈js,j∈es)∧c=.tup (js.map fun j=>.ref (adr j))∧b=js.any fun j=>i.sub j)
theorem zja {K:PySem.W.Frag} {H:Hp} {adr:Rf→Addr}:∀{js:List Rf} {vs:List V},Rps K H (js.map fun j=>D.ref (adr j)) vs→vs=(js.map adr).map V.ref
  | [],_,.nil=>rfl
  | _::js,_,.cons (.ref _) q=>by rw [zja q];rfl
theorem zhs {K:PySem.W.Frag} {mg:Str→Option Value} {es:List Rf} {adr:Rf→Addr} (R:Rfs K mg es adr):DnC K (isE3 es adr) (isEV K):=by
  intro Z ds S Q3 vs H Q r l h c
  obtain ⟨a,i,x,b,rfl,hS,hi,q,h⟩:=h
  cases r with
  | cons r rr =>
    cases rr with
    | cons r2 rr =>
      cases rr
      cases r
      refine ⟨a,adr i,_,b,rfl,l.obj a _ hS,R.one i hi,c _ S _ H (Kp.refl _ _) (.bl _) l q,?_⟩
      rcases h with ⟨j,hj,rfl,rfl⟩|⟨rfl,rfl⟩|⟨js,hj,rfl,rfl⟩
      · cases r2
        exact .inl ⟨_,rfl,R.is hi hj⟩
      · cases r2
        exact .inr (.inl ⟨_,rfl,R.val hi⟩)
      · cases r2 with
        | tup h1 h2 =>
          cases zja h2
          exact .inr (.inr ⟨_,js.map adr,rfl,h1,R.any hi hj⟩)
section
variable {S:Hp3} {Q:K3} {es:List Rf} {adr:Rf→Addr} {a:Addr} {i j:Rf}
theorem j_isE (hS:S a=some (.exc (adr i))) (hi:i∈es) (hj:j∈es) (q:Q (.bl (i.sub j)) S):isE3 es adr [.ref a,.ref (adr j)] S Q:=⟨a,i,_,_,rfl,hS,hi,q,.inl ⟨j,hj,rfl,rfl⟩⟩
theorem j_isET (js:List Rf) (hS:S a=some (.exc (adr i))) (hi:i∈es) (hj:∀j∈js,j∈es) (q:Q (.bl (js.any fun j=>i.sub j)) S):isE3 es adr [.ref a,.tup (js.map fun j=>.ref (adr j))] S Q:=⟨a,i,_,_,rfl,hS,hi,q,.inr (.inr ⟨js,hj,rfl,rfl⟩)⟩
end
noncomputable def rfAll (K:PySem.W.Frag) (l:List (Rf×Addr)):Bool:=l.all fun p=>rfOne K p.2&&l.all fun q=>PySem.W.kitCls K (.ref p.2) (.ref q.2)==some (p.1.sub q.1)
noncomputable def adrOf (l:List (Rf×Addr)) (i:Rf):Addr:=(l.lookup i).getD 0
theorem lookup_mem {i:Rf}:∀{l:List (Rf×Addr)},i∈l.map (·.1)→(i,adrOf l i)∈l
  | (j,b)::l,h=>by
    unfold adrOf
    by_cases e:i=j
    · subst e
      simp [List.lookup]
    · have:(i==j)=false:=by simpa using e
      rw [List.lookup,this]
      rcases List.mem_cons.mp h with z|z
      · exact absurd z e
      · exact .tail _ (lookup_mem (l:=l) z)
theorem rfs_mk {K:PySem.W.Frag} {mg:Str→Option Value} {l:List (Rf×Addr)} (h:rfAll K l=true) (hm:∀i∈l.map (·.1),mg i.nm=some (.ref (adrOf l i))):Rfs K mg (l.map (·.1)) (adrOf l):=by
  unfold rfAll at h
  simp only [List.all_eq_true,Bool.and_eq_true,beq_iff_eq] at h
  exact ⟨hm,fun i hi=>(h _ (lookup_mem hi)).1,fun i hi j hj=>(h _ (lookup_mem hi)).2 _ (lookup_mem hj)⟩
end E3
namespace E3
open PySem PySem.Spec PyProof.Rows L2 EE
section
variable {P:Program} {w:World} {K:PySem.W.Frag} {mg:Str→Option Value} {base:Heap} {x:Str} {st:Stmt} {N ps:List Str} {k:Nat}
theorem Cal3.dropX {sp:Sp3} (C:Cal3 P w K mg base k x ps sp):Cal3 P w K mg base k x ps (fun ds S Q E=>sp ds S (fun d S1=>∃S2,Sub S2 S1∧Q d S2) fun C a S1=>∃S2,Sub S2 S1∧E C a S2):=by
  obtain ⟨f,fd,F0,r⟩:=C.ex
  refine ⟨f,fd,F0.imp fun vs H Q E ⟨Z,ds,S,Q3,E3,h1,l,h3,cq,ce⟩=>⟨Z,ds,S,_,_,h1,l,h3,?_,?_⟩,r⟩
  · rintro d S1 v H' k1 r1 l1 ⟨S2,hsub,q⟩
    exact cq d S2 v H' k1 r1 (l1.sub hsub) q
  · rintro C a S1 H' k1 l1 ha ⟨S2,hsub,q⟩
    exact ce C a S2 H' k1 (l1.sub hsub) ha q
def rdX (A:List D→Hp3→(D→Prop)→(Addr→Prop)→Prop):Sp3:=fun ds S Q W=>A ds S (fun d=>Q d S) fun C=>∀a,W C a S
theorem _root_.EE.Has.rdX {A:List D→Hp3→(D→Prop)→(Addr→Prop)→Prop} (h:Has K mg x st ps) (S:FnScope N ps (defScope st)) (len:∀ds S q qx,A ds S q qx→ds.length=ps.length)
    (hbody:∀(f:Addr) (cdv:Value) (Ar:Around) (outer:List Env) (s:Shared) (H:Hp) (E:XK) (ds:List D) (S:Hp3) (q:D→Prop) (qx:Addr→Prop),Room k (Ar.deeper (envOfC x (defScope st) s.heap.objs.size f cdv))→A ds S q qx →
      ∃t,PSs3 (cxOf (CX1 P w) P w K mg base N x (defScope st) f cdv Ar outer s H E) (fun _ C _ S'=>Sub S S'∧qx C) (defBody st) t∧t {nx:=fun _ S'=>Sub S S'∧q .non,rt:=fun d S'=>Sub S S'∧q d} (start3 N ds) S):Cal3 P w K mg base (k+1) x ps (rdX A):=by
  have C:Cal3 P w K mg base (k+1) x ps (fun ds S Q E=>∃q qx,A ds S q qx∧(∀d S',Sub S S'∧q d→Q d S')∧∀C a S',Sub S S'∧qx C→E C a S'):=by
    refine h.cal3x S (fun vs H Q E z_1=>by obtain ⟨q,qx,z,_⟩:=z_1;exact len _ _ _ _ z) fun f cdv Ar outer s H E ds S3 Q E3 hr ⟨q,qx,z,hq,hx⟩=>?_
    obtain ⟨t,h1,h2⟩:=hbody f cdv Ar outer s H E ds S3 _ _ hr z
    exact ⟨t,fun d S'=>Sub S3 S'∧q d,fun C _ S'=>Sub S3 S'∧qx C,h1,h2,hq,hx⟩
  exact C.dropX.imp fun ds S Q E z=>⟨_,_,z,fun d S1 hq=>⟨S,hq.1,hq.2⟩,fun C a S1 hx=>⟨S,hx.1,hx.2 a⟩⟩
end
noncomputable def _root_.EE.Tre.d:Tre→D
  | .bud=>.non
  | .pair l r=>.tup [l.d,r.d]
end E3
namespace E3
open PySem PySem.Spec PyProof.Rows L2 EE
theorem zhm:typeLookup (.type "list") "keys"=pure none:=by rw [typeLookup_type,builtinLookup_eq_fast];kernel_rfl
theorem zde:typeLookup (.type "list") "__getattr__"=pure none:=by rw [typeLookup_type,builtinLookup_eq_fast];kernel_rfl
section
variable {prog:Program} {w:World} {A:Around} {E:Value→Shared→Prop} {a:Addr} {its:Array Value} {n:Nat}
theorem zfn (a:Addr) (u:Tok) (its:Array Value) (n:Nat):Meets (Builtin.«object.__getattribute__» ⟨[.ref a,.str "keys" u],[]⟩) (fun A R s=>s.heap.get? a=some {cls:=.type "list",data:=.seq its n}∧raisesAttr (.ref a) "keys" A R s) :=
  Meets.of_wp fun prog w A R s hs=>by
    obtain ⟨hx,hs⟩:=hs
    obtain ⟨hp,g,d,tk,os⟩:=s
    have hT:(⟨hp,g,d,tk,os⟩:Shared).TypeIs (.ref a) "list":=⟨_,hx,rfl⟩
    have f4:=zhm
    have f5:=zde
    unfold Builtin.«object.__getattribute__»
    repeat (any_goals (first|assumption|wp_step))
    exact wpAny_raiseAttrError hs.1 hs.2 (attrMsg_fits (by decide +kernel) (by decide))
theorem zl5 {s:Shared} {Q:Option Value→Shared→Prop} (hh:A.handled=none) (hx:s.heap.get? a=some {cls:=.type "list",data:=.seq its n})
    (h:∀h' tk,(∀b ob,s.heap.get? b=some ob→h'.get? b=some ob)→Q none {s with heap:=h',toks:=tk}):wpAny (model prog w) A (getAttr? (.ref a) "keys") Q E s:=by
  obtain ⟨hp,g,d,tk,os⟩:=s
  have hT:∀(tk:Nat),(⟨hp,g,d,tk,os⟩:Shared).TypeIs (.ref a) "list":=fun _=>⟨_,hx,rfl⟩
  have f1:=sub_AttributeError
  have f3:=F.slot_list_getattribute.lookup
  have f4:=F.slot_list_getattribute.bind (.ref a)
  have f5:=zde
  unfold getAttr? getAttrBy?
  repeat (any_goals (first|assumption|((with_reducible show wpAny _ _ (call (Value.builtin "list.__getattribute__") _ _) _ _ _);refine call_meets F.slot_list_getattribute (hT _) F.entry_list_ga (F.args_list_getattribute_2 _ _) (zfn a _ its n) ⟨hx,hh,fun h' tk' e hx=>?_⟩)|wp_step))
  obtain ⟨t',u',he⟩:=hx.there
  show wpAny _ _ (getattributeRaised _ _ _ _ _ _ _) _ _ _
  unfold getattributeRaised
  repeat (any_goals (first|assumption|wp_step))
  exact h _ _ hx.keeps
end
end E3
namespace E3
open PySem PySem.Spec PyProof.Rows L2 EE
section
variable {prog:Program} {w:World} {A:Around} {E:Value→Shared→Prop}
theorem ze0:plainId "dict.update.loop"=true:=by decide +kernel
theorem zji:entryFor table "dict.update.loop"=some Builtin.«dict.update.loop»:=entryFor_of_fast (by kernel_rfl)
noncomputable def storedAll {κ:Type} [DecidableEq κ] (kvs:List (κ×Value)):List (κ×Value)→List (κ×Value)
  | []=>kvs
  | (k,v)::r=>storedAll (stored kvs k v) r
inductive PairsAt {κ:Type} [DecidableEq κ] (knd:PySem.KeyKind prog w κ) (h:Heap):List Value→List (κ×Value)→Prop where
  | nil:PairsAt knd h [] []
  | cons {t:Addr} {key v:Value} {k:κ} {r:List Value} {ps:List (κ×Value)}:IsTup h t #[key,v]→knd.is k key=true→PairsAt knd h r ps→PairsAt knd h (.ref t::r) ((k,v)::ps)
theorem PairsAt.keep {κ:Type} [DecidableEq κ] {knd:PySem.KeyKind prog w κ} {h h':Heap} {d:Addr} {o:Obj} (hd:h.get? d=some o) (hc:o.cls=.type "dict") (hs:∀b ob,b≠d→h.get? b=some ob→h'.get? b=some ob):∀{r:List Value} {ps:List (κ×Value)},PairsAt knd h r ps→PairsAt knd h' r ps
  | _,_,.nil=>.nil
  | _,_,.cons ⟨ob,e,c,q⟩ hk t=>.cons ⟨ob,hs _ _ (by rintro rfl;rw [hd] at e;cases e;rw [hc] at c;exact absurd c (by decide)) e,c,q⟩ hk (PairsAt.keep hd hc hs t)
theorem PairsAt.kept {κ:Type} [DecidableEq κ] {knd:PySem.KeyKind prog w κ} {h h':Heap} (hs:∀b ob,h.get? b=some ob→h'.get? b=some ob):∀{r:List Value} {ps:List (κ×Value)},PairsAt knd h r ps→PairsAt knd h' r ps
  | _,_,.nil=>.nil
  | _,_,.cons ⟨ob,e,c,q⟩ hk t=>.cons ⟨ob,hs _ _ e,c,q⟩ hk (PairsAt.kept hs t)
theorem zh5 {κ:Type} [DecidableEq κ] {knd:PySem.KeyKind prog w κ} {d it l:Addr} {R:Result→Shared→Prop} (hh:A.handled=none) (hdit:d≠it) (hdl:d≠l) (hitl:it≠l) :
    ∀(r:List Value) (ps:List (κ×Value)) (i:Nat) (s:Shared) (kvs:List (κ×Value)) (its:Array Value),its.toList.drop i=r→PairsAt knd s.heap r ps→s.heap.IsListIter it l i→s.heap.IsList l its→s.heap.DictOf knd d kvs→kvs.length+ps.length≤sizeLine →
    (∀h' tk,h'.DictOf knd d (storedAll kvs ps)→(∀b ob,b≠d→b≠it→s.heap.get? b=some ob→h'.get? b=some ob)→R (.ok (.ret .none)) {s with heap:=h',toks:=tk}) →
    codeAny (model prog w) A (.builtin "dict.update.loop" ⟨[.ref d,.ref it,rawInt i,.none],[]⟩) R s:=by
  intro r
  induction r with
  | nil =>
    intro ps i s kvs its hr hp hit hl hd hz hR
    cases hp
    refine codeAny_builtin zji ?_
    rw [Around.under_plainId ze0 _]
    show wpAny _ A.in1 (pyNext (.ref it) >>= _) _ _ s
    have hlen:its[i]?=none:=by
      refine Array.getElem?_eq_none ?_
      have:=congrArg List.length hr
      simp at this
      omega
    refine wpAny_bind (wpAny_pyNext_list_end hh hit hl hlen fun h' eb=>?_)
    show wpAny _ _ (Builtin.Dict.addKeywords d [] >>= _) _ _ _
    refine wpAny_bind (wpAny_pure (wpAny_pure ?_))
    exact hR h' s.toks (hd.extBut eb hdit) fun b ob _ hb e=>eb b ob hb e
  | cons x r ih =>
    intro ps i s kvs its hr hp hit hl hd hz hR
    cases hp with
    | @cons t key v k _ ps ht hk hp =>
    refine codeAny_builtin zji ?_
    rw [Around.under_plainId ze0 _]
    show wpAny _ A.in1 (pyNext (.ref it) >>= _) _ _ s
    have hx:its[i]?=some (.ref t):=by
      have:(its.toList.drop i)[0]?=some (.ref t):=by rw [hr];rfl
      simpa using this
    refine wpAny_bind (wpAny_pyNext_list_item hit hl hx fun h1 st1 sb1=>?_)
    have ht1:IsTup h1 t #[key,v]:=by
      obtain ⟨ob,e,c,q⟩:=ht
      refine ⟨ob,(sb1.2 t ?_).trans e,c,q⟩
      rintro rfl
      obtain ⟨o2,e2,c2,_⟩:=hit
      rw [e] at e2;cases e2
      rw [c] at c2;exact absurd c2 (by decide)
    have hT1:(⟨h1,s.gens,s.drawn,s.toks,s.os⟩:Shared).TypeIs (.ref t) "tuple":=ht1.typeIs
    obtain ⟨o1,e1,c1,n1,q1⟩:=id ht1
    have hd1:h1.DictOf knd d kvs:=hd.sameBut sb1 hdit
    refine wpAny_bind (wpAny_holding ?_)
    refine wpAny_bind ?_
    refine wpAny_tryCatch ?_
    unfold Builtin.Dict.pairItems
    refine wpAny_bind (wpAny_typeOf hT1 ?_)
    rw [if_pos (by decide)]
    refine wpAny_bind (wpAny_seqItems (s:=⟨h1,s.gens,s.drawn,s.toks,s.os⟩) e1 q1 (wpAny_pure ?_))
    show wpAny _ _ (holding [key,v] (dictSet d key v)) _ _ _
    refine wpAny_holding (wpAny_dictSet_pairs (s:=⟨h1,s.gens,s.drawn,s.toks,s.os⟩) hk hd1 (fun h2 hd2 sb2=>?_) (by have:((k,v)::ps).length=ps.length+1:=rfl;omega))
    have ei:(i:Int)+1=((i+1:Nat):Int):=by omega
    rw [ei]
    obtain ⟨od,es,ep,ed,xd,_⟩:=id hd
    have hld:(stored kvs k v).length≤kvs.length+1:=by
      unfold stored
      split
      · rw [List.length_map];omega
      · simp
    refine wpAny_pure ⟨plainId_quiet ze0 _,ih ps (i+1) _ (stored kvs k v) its ?_ ?_ ?_ ?_ hd2 ?_ fun h' tk hd' hk'=>?_⟩
    · have:=congrArg List.tail hr
      rw [List.tail_drop] at this
      exact this
    · refine PairsAt.keep (h:=h1) (d:=d) ((sb1.2 d hdit).trans ed) xd.1 (fun b ob hb e=>(sb2.2 b hb).trans e) ?_
      obtain ⟨oi,ei,ci,di⟩:=id hit
      clear ih hR hr
      induction hp with
      | nil=>exact .nil
      | @cons t' key' v' k' r' ps' ht' hk' hp' ih' =>
        refine .cons ?_ hk' (ih' (by simp at hz ⊢;omega))
        obtain ⟨ob,e,c,q⟩:=ht'
        refine ⟨ob,(sb1.2 t' ?_).trans e,c,q⟩
        rintro rfl
        rw [e] at ei;cases ei
        rw [c] at ci;exact absurd ci (by decide)
    · exact st1.at fun o e=>(sb2.2 it (Ne.symm hdit)).trans e
    · obtain ⟨o,e,c⟩:=hl
      exact ⟨o,(sb2.2 l (Ne.symm hdl)).trans ((sb1.2 l (Ne.symm hitl)).trans e),c⟩
    · have:((k,v)::ps).length=ps.length+1:=rfl
      omega
    · exact hR h' tk hd' fun b ob h1 h2 e=>hk' b ob h1 h2 ((sb2.2 b h1).trans ((sb1.2 b h2).trans e))
theorem zgw:(Value.type "list" != Value.type "dict")=true:=by decide
theorem zf4 {κ:Type} [DecidableEq κ] {knd:PySem.KeyKind prog w κ} {s:Shared} {l:Addr} {its:Array Value} {n:Nat} {ps:List (κ×Value)} {Q:Value→Shared→Prop} (hh:A.handled=none)
    (hl:s.heap.get? l=some {cls:=.type "list",data:=.seq its n}) (hp:PairsAt knd s.heap its.toList ps) (hz:ps.length≤sizeLine)
    (h:∀h' tk,h'.DictOf knd s.heap.objs.size (storedAll [] ps)→(∀b ob,s.heap.get? b=some ob→h'.get? b=some ob)→Q (.ref s.heap.objs.size) {s with heap:=h',toks:=tk}) :
    wpAny (model prog w) A (call (.type "dict") [.ref l]) Q E s:=by
  refine callType_codes (Q₁:=fun obj s₁=>obj=.ref s.heap.objs.size∧s₁={s with heap:=s.heap.push {cls:=.type "dict",data:=.dict #[]}}) F.kt_called_dict (F.kt_typeCall_dict_1 _) F.entry_dict_init (kt_code_dict_new _ ⟨rfl,rfl⟩) ?_
  rintro obj s₁ ⟨rfl,rfl⟩
  have hnew:(s.heap.push {cls:=.type "dict",data:=.dict #[]}).DictOf knd s.heap.objs.size []:=Heap.DictOf.new s.heap
  have hl1:(s.heap.push {cls:=.type "dict",data:=.dict #[]}).get? l=some {cls:=.type "list",data:=.seq its n}:=Heap.get?_push_of_some _ hl
  refine ⟨hnew.typeIs,F.args_dict_init_2 _ _,?_⟩
  unfold Builtin.«dict.__init__»
  refine wpAny_bind ?_
  unfold Builtin.Dict.selfAndRest
  refine wpAny_bind (wpAny_notOrdered_dict hnew.typeIs ?_)
  show wpAny _ _ (pure (s.heap.objs.size,[Value.ref l])) _ _ _
  refine wpAny_pure ?_
  show wpAny _ _ (Builtin.Dict.updateFrom "dict.__init__" s.heap.objs.size (.ref l) [] .none) _ _ _
  unfold Builtin.Dict.updateFrom
  refine wpAny_bind (wpAny_typeOf (T:="list") ⟨_,hl1,rfl⟩ ?_)
  rw [if_pos zgw]
  refine wpAny_bind (zl5 (by first|exact hh|(show A.handled=none;exact hh)) hl1 fun h2 tk2 k2=>?_)
  rw [if_pos (show (none:Option Value).isNone=true from rfl)]
  refine wpAny_bind (wpAny_rule ?_)
  have hl2:h2.get? l=some {cls:=.type "list",data:=.seq its n}:=k2 _ _ hl1
  have il2:h2.IsList l its:=⟨_,hl2,rfl,n,rfl⟩
  refine wpAny_bind (wpAny_pyIter_list (s:={heap:=h2,gens:=s.gens,drawn:=s.drawn,toks:=tk2,os:=s.os}) il2 ?_)
  have hlt:s.heap.objs.size<h2.objs.size:=by
    have:=k2 s.heap.objs.size _ (Heap.get?_push_size _ rfl)
    exact Heap.lt_size this
  have hll:l<s.heap.objs.size:=Heap.lt_size hl
  refine wpAny_pure ⟨plainId_quiet ze0 _,zh5 (A:=A.in1) (d:=s.heap.objs.size) (it:=h2.objs.size) (l:=l) (knd:=knd) (show A.in1.handled=none from hh) (Nat.ne_of_lt hlt) (Nat.ne_of_gt hll) (Nat.ne_of_gt (Nat.lt_trans hll hlt)) its.toList ps 0 _ [] its rfl ?_ ⟨{cls:=.type "list_iterator",data:=.fields #[.ref l,.int 0 0]},Heap.get?_push_size _ rfl,rfl,rfl⟩ ?_ ?_ ?_ fun h' tk hd' hk'=>?_⟩
  · clear hl h
    have kk:∀b ob,s.heap.get? b=some ob→(h2.push {cls:=.type "list_iterator",data:=.fields #[.ref l,rawInt 0]}).get? b=some ob:=fun b ob e=>Heap.get?_push_of_some _ (k2 b ob (Heap.get?_push_of_some _ e))
    exact hp.kept kk
  · exact ⟨_,Heap.get?_push_of_some _ hl2,rfl,n,rfl⟩
  · obtain ⟨o,es,ep,e,r⟩:=hnew
    exact ⟨o,es,ep,Heap.get?_push_of_some _ (k2 _ _ e),r⟩
  · simpa using hz
  · refine ⟨rfl,h h' tk hd' fun b ob e=>hk' b ob ?_ ?_ (Heap.get?_push_of_some _ (k2 b ob (Heap.get?_push_of_some _ e)))⟩
    · exact Nat.ne_of_lt (Heap.lt_size e)
    · exact Nat.ne_of_lt (Nat.lt_trans (Heap.lt_size e) hlt)
end
section
variable {X:Cx} {W3:W3T}
theorem zep:∀{more:List (Key×V)} {rs:List (Key×Value)} {kvs:List (Key×V)} {vs:List (Key×Value)},KV more rs→KV kvs vs→KV (more.foldl (fun acc kv=>putK acc kv.1 kv.2) kvs) (E3.storedAll vs rs)
  | _,_,_,_,.nil,h=>h
  | _,_,_,_,.cons (a:=p) (b:=q) ⟨e,r⟩ t,h=>by
    obtain ⟨k,v⟩:=p
    obtain ⟨k',v'⟩:=q
    obtain rfl:k=k':=e
    simp only [List.foldl_cons,E3.storedAll]
    exact zep t (KV.put h k r)
theorem zje:∀(more kvs:List (Key×V)),(more.foldl (fun acc kv=>putK acc kv.1 kv.2) kvs).length≤kvs.length+more.length
  | [],kvs=>by simp
  | p::r,kvs=>by
    simp only [List.foldl_cons,List.length_cons]
    have h1:=zje r (putK kvs p.1 p.2)
    have h2:=zdn kvs p.1 p.2
    omega
theorem pairs_at {pins:List (Addr×Obj)} {σ:L2.St} {H:Hp} {s:Shared} (I:Inv X pins σ H s):∀{kvs:List (Key×V)} {xs:List V} {us:List Value},Paired (fun (kv:Key×V) (x:V)=>∃t,x=.ref t∧SqT X.K H t [kV kv.1,kv.2]) kvs xs→Vals xs us →
    ∃ps,PairsAt (mixKind X.prog X.w) s.heap us ps∧KV kvs ps
  | _,_,_,.nil,.nil=>⟨[],.nil,.nil⟩
  | _,_,_,.cons (a:=kv) ⟨t,e,ht⟩ q,.cons r rr=>by
    subst e
    cases r
    obtain ⟨ps,h1,h2⟩:=pairs_at I q rr
    obtain ⟨its,rv,p,_⟩:=I.tuple ht
    cases rv with
    | cons ra rv =>
      cases rv with
      | cons rb rv =>
        cases rv
        exact ⟨(kv.1,_)::ps,.cons p (zl8 ra) h1,.cons ⟨rfl,rb⟩ h2⟩
theorem zfu (hc:X.calm=true:=by rfl):CallR X (.type "dict") (fun xs H Q=>∃l ys kvs,xs=[.ref l]∧H l=some (.lst ys)∧Paired (fun (kv:Key×V) (x:V)=>∃t,x=.ref t∧SqT X.K H t [kV kv.1,kv.2]) kvs ys ∧
    ∀p,H p=none→Q (.ref p) (upd H p (.dK (kvs.foldl (fun acc kv=>putK acc kv.1 kv.2) [])))):=by
  intro pins s σ H xs us Q I r h
  obtain ⟨l,ys,kvs,rfl,hH,hp,q⟩:=h
  obtain ⟨u,rfl,ru⟩:=vals1 r
  cases ru
  obtain ⟨z,its,n,rv,hl,e⟩:=I.lstM hH
  obtain ⟨ps,h1,h2⟩:=pairs_at I hp rv
  have hl1:kvs.length=ys.length:=Paired.length hp
  have hl2:kvs.length=ps.length:=KV.length h2
  refine zf4 (knd:=mixKind X.prog X.w) (I.ok.hd hc) e (by simpa using h1) (by omega) fun h' tk hd' hk'=>?_
  have fr:=I.fresh
  refine ⟨.ref s.heap.objs.size,_,I.laid (t':=tk) hk' (Nat.le_refl _) ?_,rfl,q _ fr⟩
  have hkv:KV (kvs.foldl (fun acc kv=>putK acc kv.1 kv.2) []) (storedAll [] ps):=zep h2 .nil
  have hle:=zje kvs []
  exact ⟨by simp at hle;omega,beq_eq_false_iff_ne.mpr (Nat.ne_of_gt I.big),_,hkv,hd'⟩
def toDict3:List D→Hp3→K3→Prop:=fun xs S Q=>∃(a:Addr) (kvs:List (Key×D)),xs=[.ref a]∧S a=some (.lst (kvs.map fun kv:Key×D=>D.tup [kD kv.1,kv.2]))∧∀p,S p=none→Q (.ref p) (up S p (.dic (kvs.foldl (fun acc kv=>putD acc kv.1 kv.2) [])))
theorem zj8 {K:PySem.W.Frag} {H:Hp}:∀{kvs:List (Key×D)} {ys:List V},Rps K H (kvs.map fun kv:Key×D=>D.tup [kD kv.1,kv.2]) ys→∃ws:List (Key×V),KR K H kvs ws∧Paired (fun (kv:Key×V) (x:V)=>∃t,x=.ref t∧SqT K H t [kV kv.1,kv.2]) ws ys:=by
  intro kvs
  induction kvs with
  | nil=>intro ys h;cases h;exact ⟨[],.nil,.nil⟩
  | cons kv kvs ih =>
    intro ys h
    rw [List.map_cons] at h
    cases h with
    | cons r q =>
      obtain ⟨ws,h2,h3⟩:=ih q
      cases r with
      | tup h1 h4 =>
        cases h4 with
        | cons ra h4 =>
          cases h4 with
          | cons rb h4 =>
            cases h4
            have e:=zil ra
            subst e
            exact ⟨(kv.1,_)::ws,.cons ⟨rfl,rb⟩ h2,.cons ⟨_,rfl,h1⟩ h3⟩
theorem KR.fold {K:PySem.W.Frag} {H:Hp}:∀{kvs:List (Key×D)} {ws:List (Key×V)} {as:List (Key×D)} {bs:List (Key×V)},KR K H kvs ws→KR K H as bs→KR K H (kvs.foldl (fun acc kv=>putD acc kv.1 kv.2) as) (ws.foldl (fun acc kv=>putK acc kv.1 kv.2) bs)
  | _,_,_,_,.nil,h=>h
  | _,_,_,_,.cons (a:=p) (b:=q) ⟨e,r⟩ t,h=>by
    obtain ⟨k,v⟩:=p
    obtain ⟨k',v'⟩:=q
    obtain rfl:k=k':=e
    simp only [List.foldl_cons]
    exact KR.fold t (KR.put h k r)
theorem zmm {K:PySem.W.Frag}:DnC K toDict3 (fun xs H Q=>∃l ys kvs,xs=[.ref l]∧H l=some (.lst ys)∧Paired (fun (kv:Key×V) (x:V)=>∃t,x=.ref t∧SqT K H t [kV kv.1,kv.2]) kvs ys ∧
    ∀p,H p=none→Q (.ref p) (upd H p (.dK (kvs.foldl (fun acc kv=>putK acc kv.1 kv.2) [])))):=by
  intro Z ds S Q3 vs H Q r l h c
  obtain ⟨a,kvs,rfl,e,q⟩:=h
  cases r with
  | cons r rr =>
    cases rr
    cases r
    obtain ⟨ys,h1,h2⟩:=l.obj a _ e
    obtain ⟨ws,h3,h4⟩:=zj8 h2
    refine ⟨a,ys,ws,rfl,h1,h4,fun p hp=>?_⟩
    obtain ⟨hs,hz⟩:=l.fresh hp
    have k:=Kp.new (o:=HO.dK (ws.foldl (fun acc kv=>putK acc kv.1 kv.2) [])) hp hz
    refine c _ _ _ _ k (.ref p) (l.put (o:=.dic (kvs.foldl (fun acc kv=>putD acc kv.1 kv.2) [])) k hz ⟨_,zat,?_⟩) (q p hs)
    have h5:KR K (upd H p (.dK (ws.foldl (fun acc kv=>putK acc kv.1 kv.2) []))) kvs ws:=Paired.mapP h3 fun p q z=>⟨z.1,z.2.mono k⟩
    exact KR.fold h5 .nil
theorem zhg {i o:Expr} {td ty:TE} (hu:X.A.units+1<cLine) (hi:PE X i ty) (ho:PE X o td):PC X .NotIn i o (fun σ H Q=>ty σ H fun y H1=>td σ H1 fun x H2=>(∃a r,x=.ref a∧DGet H2 a y r∧Q (.bl (!r.isSome)) H2)∨rIn X.K true y x H2 Q):=by
  intro pins s σ H Q I h
  refine bin hi ho I h fun v u s2 y x H2 I2 ry rx q=>?_
  rcases q with ⟨a,r,rfl,g,q⟩|q
  · cases rx
    exact zp2 hu I2 g ry fun s' I'=>⟨.bl _,H2,I',rfl,q⟩
  · exact zhh pins s2 σ H2 y x v u Q I2 ry rx q
def notinA (Q:K3) (x y:D) (S:Hp3):Prop:=(∃a kvs k,x=.ref a∧S a=some (.dic kvs)∧y=kD k∧Q (.bl (!(valD kvs k).isSome)) S)∨∃ds,x=.tup ds∧flatD y=true∧ds.all flatD=true∧Q (.bl (!memD y ds)) S
def notin3 (ty td:TE3):TE3:=fun σ S Q=>ty σ S fun y S1=>td σ S1 fun x S2=>notinA Q x y S2
theorem zos {i o:Expr} {td ty:TE3} {pos:Pos} (hu:X.A.units+1<cLine) (hi:PE3 X W3 i ty) (ho:PE3 X W3 o td) (h1:behindInMarks .NotIn o=false:=by with_unfolding_all rfl):PT3 X W3 (.Compare i [.NotIn] [o] pos) (test3 (notin3 ty td)) :=
  fun Z=>PT.imp (pt_cmp (zhg hu (hi Z) (ho Z)) h1) fun τ H Q z_2=>by
    obtain ⟨σ,S,Q3,hs,hr,ht,hc⟩:=z_2
    refine ⟨σ,S,_,hs,hr,ht,fun y S1 w H1 k1 r1 l1 q1=>⟨σ,S1,_,hs.mono k1,l1,q1,fun x S2 v H2 k2 r2 l2 q2=>?_⟩⟩
    rcases q2 with ⟨a,kvs,k,rfl,e,rfl,b,eb,q⟩|⟨ds,rfl,fy,fd,b,eb,q⟩
    · cases r2
      obtain ⟨ws,g,kr⟩:=DGet.down l2 e (r1.mono k2)
      refine .inl ⟨a,_,rfl,g,b,?_,hc _ S2 H2 (k1.trans k2) l2 q⟩
      rw [←(kr.val k).2]
      cases eb
      rfl
    · cases r2 with
      | tup h3 h4 =>
        obtain ⟨e1,f1⟩:=zfq (r1.mono k2) fy
        obtain ⟨e2,f2⟩:=zdj h4 fd
        subst e1
        subst e2
        refine .inr ⟨_,_,rfl,.inr h3,f1,f2,b,?_,hc _ S2 H2 (k1.trans k2) l2 q⟩
        cases eb
        rfl
section
variable {σ:St3} {S:Hp3} {Q:K3} {te ta:TE3}
theorem j_notin (h:te σ S fun y S1=>ta σ S1 fun x S2=>notinA Q x y S2):notin3 te ta σ S Q:=h
theorem j_notinD {a:Addr} {kvs:List (Key×D)} {z:Str} (hS:S a=some (.dic kvs)) (q:Q (.bl (!(valD kvs (.inr z)).isSome)) S):notinA Q (.ref a) (.str z) S:=.inl ⟨a,kvs,.inr z,rfl,hS,rfl,q⟩
theorem j_notinT {xs:List Str} {z:Str} (q:Q (.bl (!decide (z∈xs))) S):notinA Q (.tup (xs.map D.str)) (.str z) S:=.inr ⟨_,rfl,rfl,zhr xs,by rw [zhl];exact q⟩
theorem j_inT {x:D} {ds:List D} (hx:flatD x=true) (hd:ds.all flatD=true) (q:Q (.bl (memD x ds)) S):in3 false x (.tup ds) S Q:=⟨ds,.inr rfl,hx,hd,q⟩
theorem j_toDict {a:Addr} {kvs:List (Key×D)} (hS:S a=some (.lst (kvs.map fun kv:Key×D=>D.tup [kD kv.1,kv.2]))) (q:∀p,S p=none→Q (.ref p) (up S p (.dic (kvs.foldl (fun acc kv=>putD acc kv.1 kv.2) [])))):toDict3 [.ref a] S Q:=⟨a,kvs,rfl,hS,q⟩
end
theorem iteBt {b:Bool} {A B:Prop} (h:b=true) (q:A):if b=true then A else B:=by rw [if_pos h];exact q
theorem iteBf {b:Bool} {A B:Prop} (h:b=false) (q:B):if b=true then A else B:=by rw [if_neg (by rw [h];exact Bool.false_ne_true)];exact q
end
end E3
namespace E3
open PySem PySem.Spec PyProof.Rows L2 EE
theorem zbg {n:Nat} (h:n≤1000000):n≤sizeLine:=Nat.le_trans h (by decide)
theorem zav {n:Nat} (h:n≤1000000):n<sizeLine:=Nat.lt_of_le_of_lt h (by decide)
theorem zor {α:Type} {xs:List α} {i:Int} {v:α} (h0:0≤i) (h:xs[i.toNat]?=some v):atI xs i=some v:=by
  have e:i=((i.toNat:Nat):Int):=by omega
  rw [e]
  exact zdg h
theorem atI_0 {α:Type} {x:α} {xs:List α}:atI (x::xs) 0=some x:=zdg (j:=0) rfl
theorem atI_2 {α:Type} {x y z:α} {xs:List α}:atI (x::y::z::xs) 2=some z:=zdg (j:=2) rfl
theorem ixN_of {n:Nat} {i:Int} {j:Nat} (h:i=(j:Int)) (hj:j<n):ixN n i=some j:=by
  subst h
  unfold ixN
  rw [if_pos (by omega),if_pos (by omega)]
  simp
theorem ixN_0 {α:Type} {x:α} {xs:List α}:ixN (x::xs).length 0=some 0:=ixN_of rfl (by simp)
theorem zg2 {xs:List D} {p:Int} (h0:0≤p):cutD xs none (some p)=xs.take p.toNat:=by
  unfold cutD
  have e:p=((p.toNat:Nat):Int):=by omega
  rw [e,HT.zdy,HT.zff,List.drop_zero,Nat.sub_zero,←e]
  by_cases h:p.toNat≤xs.length
  · rw [Nat.min_eq_left h]
  · rw [Nat.min_eq_right (by omega),List.take_of_length_le (by omega),List.take_of_length_le (by omega)]
theorem zcy {xs:List D} {p:Int} (h0:0≤p):cutD xs (some p) none=xs.drop p.toNat:=by
  unfold cutD
  have e:p=((p.toNat:Nat):Int):=by omega
  rw [e,HT.zdy,HT.zff,←e]
  by_cases h:p.toNat≤xs.length
  · rw [Nat.min_eq_left h,List.take_of_length_le (by rw [List.length_drop];omega)]
  · rw [Nat.min_eq_right (by omega),List.drop_eq_nil_of_le (Nat.le_refl _),List.drop_eq_nil_of_le (by omega)]
    simp
theorem zg1 {cs:List Nat} {p:Int} (h0:0≤p):cutT cs none (some p)=cs.take p.toNat:=by
  unfold cutT
  have e:p=((p.toNat:Nat):Int):=by omega
  rw [e,HT.zdy,HT.zff,List.drop_zero,Nat.sub_zero,←e]
  by_cases h:p.toNat≤cs.length
  · rw [Nat.min_eq_left h]
  · rw [Nat.min_eq_right (by omega),List.take_of_length_le (by omega),List.take_of_length_le (by omega)]
theorem zht {cs:List Nat} {p:Int} (h0:0≤p):cutT cs (some p) none=cs.drop p.toNat:=by
  unfold cutT
  have e:p=((p.toNat:Nat):Int):=by omega
  rw [e,HT.zdy,HT.zff,←e]
  by_cases h:p.toNat≤cs.length
  · rw [Nat.min_eq_left h,List.take_of_length_le (by rw [List.length_drop];omega)]
  · rw [Nat.min_eq_right (by omega),List.drop_eq_nil_of_le (Nat.le_refl _),List.drop_eq_nil_of_le (by omega)]
    simp
def NameOk (x:Str):Prop:=∃cs:List Nat,x=textOf cs∧1≤cs.length∧cs.length≤8∧∀c∈cs,97≤c∧c≤122
theorem zjr {a b:List Nat} (h:textOf a=textOf b):a=b:=by
  have:=congrArg (fun x:Str=>x.cps.toList) h
  simpa [textOf] using this
theorem zba (cs:List Nat):(textOf cs).cps.toList=cs:=by simp [textOf]
theorem zlg:("abcdefghijklmnopqrstuvwxyz":Str)=textOf (List.range' 97 26):=by decide +kernel
theorem zhe:("abcdefghijkl":Str)=textOf (List.range' 97 12):=by decide +kernel
theorem zi9:("abcd":Str)=textOf [97,98,99,100]:=by decide +kernel
theorem zjo {n:Nat} {i:Int} (h0:0≤i) (h1:i<n):atI (List.range' 97 n) i=some (97+i.toNat):=by
  refine zor h0 ?_
  rw [List.getElem?_range' (by omega)]
  simp
noncomputable def nm1 (cs:List Nat) (p k:Nat):List Nat:=(cs.take p++[97+k])++cs.drop p
noncomputable def nm2 (cs:List Nat) (k:Nat):List Nat:=cs.take 4++[97,98,99,100].take (k+1)
noncomputable def nm3 (cs:List Nat) (k:Nat):List Nat:=[97,98,99,100].drop (3-k)++cs.take 4
def Letters (cs:List Nat):Prop:=∀c∈cs,97≤c∧c≤122
structure Row (n:Nat) (xs:List Str):Prop where
  len:xs.length=n
  nd:xs.Nodup
  ok:∀x∈xs,NameOk x
theorem zlm {n:Nat} {f:Nat→List Nat} (inj:∀i j,i<n→j<n→f i=f j→i=j) (ok:∀i,i<n→NameOk (textOf (f i))):Row n ((List.range n).map fun k=>textOf (f k)):=by
  refine ⟨by simp,?_,fun x hx=>?_⟩
  · rw [List.nodup_iff_pairwise_ne,List.pairwise_map]
    have:=List.nodup_range (n:=n)
    rw [List.nodup_iff_pairwise_ne] at this
    refine List.Pairwise.imp_of_mem (fun {a b} ha hb hab e=>hab ?_) this
    exact inj a b (List.mem_range.mp ha) (List.mem_range.mp hb) (zjr e)
  · obtain ⟨k,hk,rfl⟩:=List.mem_map.mp hx
    exact ok k (List.mem_range.mp hk)
theorem row1 {n p:Nat} {cs:List Nat} (hl:Letters cs) (h7:cs.length≤7) (hn:n≤12):Row n ((List.range n).map fun k=>textOf (nm1 cs p k)):=by
  refine zlm (fun i j hi hj e=>?_) fun i hi=>⟨_,rfl,?_,?_,?_⟩
  · unfold nm1 at e
    have e2:=List.append_inj_left' e rfl
    have e3:=List.append_inj_right e2 rfl
    simp at e3
    exact e3
  · simp [nm1];omega
  · simp only [nm1,List.length_append,List.length_take,List.length_cons,List.length_nil,List.length_drop];omega
  · intro c hc
    simp only [nm1,List.mem_append,List.mem_singleton] at hc
    rcases hc with (hc|rfl)|hc
    · exact hl c (List.mem_of_mem_take hc)
    · omega
    · exact hl c (List.mem_of_mem_drop hc)
theorem row2 {n:Nat} {cs:List Nat} (hl:Letters cs) (hn:n≤4):Row n ((List.range n).map fun k=>textOf (nm2 cs k)):=by
  refine zlm (fun i j hi hj e=>?_) fun i hi=>⟨_,rfl,?_,?_,?_⟩
  · have:=congrArg List.length e
    simp only [nm2,List.length_append,List.length_take,List.length_cons,List.length_nil] at this
    omega
  · simp only [nm2,List.length_append,List.length_take,List.length_cons,List.length_nil];omega
  · simp only [nm2,List.length_append,List.length_take,List.length_cons,List.length_nil];omega
  · intro c hc
    simp only [nm2,List.mem_append] at hc
    rcases hc with hc|hc
    · exact hl c (List.mem_of_mem_take hc)
    · have:=List.mem_of_mem_take hc
      simp only [List.mem_cons,List.not_mem_nil,or_false] at this
      omega
theorem row3 {n:Nat} {cs:List Nat} (hl:Letters cs) (hn:n≤4):Row n ((List.range n).map fun k=>textOf (nm3 cs k)):=by
  refine zlm (fun i j hi hj e=>?_) fun i hi=>⟨_,rfl,?_,?_,?_⟩
  · have:=congrArg List.length e
    simp only [nm3,List.length_append,List.length_take,List.length_drop,List.length_cons,List.length_nil] at this
    omega
  · simp only [nm3,List.length_append,List.length_take,List.length_drop,List.length_cons,List.length_nil];omega
  · simp only [nm3,List.length_append,List.length_take,List.length_drop,List.length_cons,List.length_nil];omega
  · intro c hc
    simp only [nm3,List.mem_append] at hc
    rcases hc with hc|hc
    · have:=List.mem_of_mem_drop hc
      simp only [List.mem_cons,List.not_mem_nil,or_false] at this
      omega
    · exact hl c (List.mem_of_mem_take hc)
theorem Row.turn {n t:Nat} {xs:List Str} (r:Row n xs):Row n (xs.drop t++xs.take t):=by
  have e:=List.take_append_drop t xs
  have pm:(xs.drop t++xs.take t).Perm xs:=by
    have:=List.perm_append_comm (l₁:=xs.drop t) (l₂:=xs.take t)
    rw [e] at this
    exact this
  exact ⟨pm.length_eq.trans r.len,pm.nodup_iff.mpr r.nd,fun x hx=>r.ok x (pm.mem_iff.mp hx)⟩
inductive Sy where
  | name (x:Str)|bud|pair (a b:Sy)|left (a:Sy)|right (a:Sy)|fork (a b c:Sy)|send (x:Str) (as:List Sy)
mutual
noncomputable def Sy.d:Sy→D
  | .name x=>.tup [.str "name",.str x]
  | .bud=>.tup [.str "bud"]
  | .pair a b=>.tup [.str "pair",a.d,b.d]
  | .left a=>.tup [.str "left",a.d]
  | .right a=>.tup [.str "right",a.d]
  | .fork a b c=>.tup [.str "fork",a.d,b.d,c.d]
  | .send x as=>.tup [.str "send",.str x,.tup (Sy.ds as)]
noncomputable def Sy.ds:List Sy→List D
  | []=>[]
  | a::as=>a.d::Sy.ds as
end
mutual
noncomputable def Sy.deep:Sy→Nat
  | .name _=>1
  | .bud=>1
  | .pair a b=>max a.deep b.deep+1
  | .left a=>a.deep+1
  | .right a=>a.deep+1
  | .fork a b c=>max a.deep (max b.deep c.deep)+1
  | .send _ as=>Sy.deeps as+1
noncomputable def Sy.deeps:List Sy→Nat
  | []=>0
  | a::as=>max a.deep (Sy.deeps as)
end
noncomputable def Sy.parts:Sy→List Sy
  | .name _=>[]
  | .bud=>[]
  | .pair a b=>[a,b]
  | .left a=>[a]
  | .right a=>[a]
  | .fork a b c=>[a,b,c]
  | .send _ as=>as
mutual
noncomputable def Sy.pre:Sy→List Sy
  | .name x=>[.name x]
  | .bud=>[.bud]
  | .pair a b=>.pair a b::(a.pre++b.pre)
  | .left a=>.left a::a.pre
  | .right a=>.right a::a.pre
  | .fork a b c=>.fork a b c::(a.pre++(b.pre++c.pre))
  | .send x as=>.send x as::Sy.pres as
noncomputable def Sy.pres:List Sy→List Sy
  | []=>[]
  | a::as=>a.pre++Sy.pres as
end
theorem Sy.pre_parts (s:Sy):s.pre=s::Sy.pres s.parts:=by
  cases s<;>simp [Sy.pre,Sy.parts,Sy.pres]
theorem Sy.ds_map:∀as:List Sy,Sy.ds as=as.map Sy.d
  | []=>rfl
  | a::as=>by simp only [Sy.ds,List.map_cons,Sy.ds_map as]
theorem Sy.pres_append:∀as bs:List Sy,Sy.pres (as++bs)=Sy.pres as++Sy.pres bs
  | [],bs=>by simp [Sy.pres]
  | a::as,bs=>by simp [Sy.pres,Sy.pres_append as bs]
mutual
def Sy.wf (ar:Str→Option Nat) (ps:List Str):Sy→Prop
  | .name x=>x∈ps
  | .bud=>True
  | .pair a b=>a.wf ar ps∧b.wf ar ps
  | .left a=>a.wf ar ps
  | .right a=>a.wf ar ps
  | .fork a b c=>a.wf ar ps∧b.wf ar ps∧c.wf ar ps
  | .send x as=>ar x=some as.length∧1≤as.length∧as.length≤4∧Sy.wfs ar ps as
def Sy.wfs (ar:Str→Option Nat) (ps:List Str):List Sy→Prop
  | []=>True
  | a::as=>a.wf ar ps∧Sy.wfs ar ps as
end
theorem Sy.wfs_iff {ar:Str→Option Nat} {ps:List Str}:∀{as:List Sy},Sy.wfs ar ps as↔∀a∈as,a.wf ar ps
  | []=>by simp [Sy.wfs]
  | a::as=>by simp [Sy.wfs,Sy.wfs_iff (as:=as)]
theorem Sy.deeps_le:∀{as:List Sy} {n:Nat},(∀a∈as,a.deep≤n)→Sy.deeps as≤n
  | [],_,_=>Nat.zero_le _
  | a::as,n,h=>by
    simp only [Sy.deeps]
    have h1:=h a List.mem_cons_self
    have h2:=Sy.deeps_le (as:=as) (n:=n) fun b hb=>h b (List.mem_cons_of_mem _ hb)
    omega
noncomputable def Sy.sends (s:Sy):Nat:=(s.pre.filter fun a=>match a with | .send _ _=>true|_=>false).length
noncomputable def Sy.sendss (as:List Sy):Nat:=((Sy.pres as).filter fun a=>match a with | .send _ _=>true|_=>false).length
theorem Sy.sendss_cons (a:Sy) (as:List Sy):Sy.sendss (a::as)=a.sends+Sy.sendss as:=by simp [Sy.sendss,Sy.sends,Sy.pres]
theorem Sy.sendss_append (as bs:List Sy):Sy.sendss (as++bs)=Sy.sendss as+Sy.sendss bs:=by simp [Sy.sendss,Sy.pres_append]
noncomputable def arOf:List Str→List Nat→Str→Option Nat
  | x::xs,n::ns,y=>if y=x then some n else arOf xs ns y
  | _,_,_=>none
theorem ziz:∀{xs:List Str} {ns:List Nat} {i:Nat} {x:Str} {n:Nat},xs.Nodup→xs[i]?=some x→ns[i]?=some n→arOf xs ns x=some n
  | [],_,_,_,_,_,h,_=>by simp at h
  | _::_,[],_,_,_,_,_,h=>by simp at h
  | y::xs,m::ns,0,x,n,_,h1,h2=>by
    simp at h1 h2
    subst h1 h2
    simp [arOf]
  | y::xs,m::ns,i+1,x,n,nd,h1,h2=>by
    have hx:x∈xs:=List.mem_of_getElem? (by simpa using h1)
    have hne:x≠y:=fun z=>(List.nodup_cons.mp nd).1 (z▸hx)
    rw [arOf,if_neg hne]
    exact ziz (List.nodup_cons.mp nd).2 (by simpa using h1) (by simpa using h2)
structure Er where
  name:Str
  ps:List Str
  body:Sy
noncomputable def Er.d (e:Er):D:=.tup [.str e.name,.tup (e.ps.map D.str),e.body.d]
end E3
namespace E3
open PySem PySem.Spec PyProof.Rows L2 EE
theorem at_mod {α:Type} {xs:List α} (c:Int) (h:0<xs.length):∃(j:Nat) (v:α),c%(xs.length:Int)=(j:Int)∧j<xs.length∧xs[j]?=some v:=by
  have h0:=Int.emod_nonneg c (show (xs.length:Int)≠0 by omega)
  have h1:=Int.emod_lt_of_pos c (show (0:Int)<xs.length by omega)
  have hj:(c%(xs.length:Int)).toNat<xs.length:=by omega
  exact ⟨(c%(xs.length:Int)).toNat,xs[(c%(xs.length:Int)).toNat],by omega,hj,List.getElem?_eq_getElem hj⟩
theorem zix {α:Type} {f:α→D} {xs:List α} (c:Int) (h:0<xs.length):∃(j:Nat) (v:α),c%((xs.map f).length:Int)=(j:Int)∧xs[j]?=some v∧atI (xs.map f) (c%((xs.map f).length:Int))=some (f v):=by
  obtain ⟨j,v,e,hj,hv⟩:=at_mod (xs:=xs) c h
  have e':c%((xs.map f).length:Int)=(j:Int):=by rw [List.length_map];exact e
  refine ⟨j,v,e',hv,?_⟩
  rw [e']
  refine zdg ?_
  rw [List.getElem?_map,hv]
  rfl
theorem Sy.sends_parts (s:Sy):s.sends=(match s with | .send _ _=>1|_=>0)+Sy.sendss s.parts:=by
  cases s<;>simp [Sy.sends,Sy.sendss,Sy.pre,Sy.parts,Sy.pres]<;>omega
noncomputable def arP (prog:List Er):Str→Option Nat:=arOf (prog.map Er.name) (prog.map fun e=>e.ps.length)
theorem arP_eq {ers:List Er} {names:List Str} {counts:List Nat} (h1:ers.map Er.name=names) (h2:(ers.map fun e=>e.ps.length)=counts):arP ers=arOf names counts:=by
  unfold arP;rw [h1,h2]
theorem ps_ok {n c:Nat} {xs:List Str} (r:Row n xs) (hc:c≤n):(xs.take c).length=c∧(xs.take c).Nodup∧∀x∈xs.take c,NameOk x:=by
  refine ⟨by rw [List.length_take,r.len];omega,r.nd.sublist (List.take_sublist _ _),fun x hx=>r.ok x (List.mem_of_mem_take hx)⟩
end E3
namespace E3
open PySem PySem.Spec PyProof.Rows L2 EE
theorem zg7 {p:Key×D} {r:List (Key×D)} {k:Key}:valD (p::r) k=if p.1=k then some p.2 else valD r k:=by
  by_cases e:p.1=k
  · simp [valD,List.find?_cons,e]
  · simp [valD,List.find?_cons,e]
theorem zm9 {kvs:List (Key×D)} {k:Key} {v:D} (h:k∉kvs.map (·.1)):putD kvs k v=kvs++[(k,v)]:=by
  unfold putD
  rw [if_neg]
  intro z
  obtain ⟨p,hp,e⟩:=List.any_eq_true.mp z
  exact h (List.mem_map.mpr ⟨p,hp,of_decide_eq_true e⟩)
end E3
namespace EE
open PySem PySem.Spec PyProof.Rows L2
structure CompScG (osc:Scope) (O M:List Str) (scope:Scope):Prop where
  kind:scope.kind=.function
  nocell:∀y∈scope.names,y.2≠.cell
  names:∀y∈scope.names,y.2=.local→scope.names.lookup y.1=some .local
  own:∀y∈O,scope.names.lookup y=some .local
  free:∀y∈scope.names,y.2=.free→osc.names.lookup y.1=some .cell
  nd:(O++M).Nodup
  mine:∀y∈M,scope.names.lookup y=some .free
section
variable {X:Cx} {pins:List (Addr×Obj)} {σ:L2.St} {H:Hp} {s:Shared} {scope:Scope} {O M:List Str} {js:List Nat} {C:Addr} {fp:List Addr}
theorem CompScG.cells (S:CompScG X.env.scope O M scope) (I:Inv X pins σ H s):∀y∈scope.names,y.2=.free→∃c,X.env.cells.lookup y.1=some c:=fun y hy hk=>I.ok.has y.1 (.inl (S.free y hy hk))
theorem CompScG.sub (S:CompScG X.env.scope O M scope) (I:Inv X pins σ H s) {y:Str} {c:Addr} (e:(clOf scope X.env).lookup y=some c):X.env.cells.lookup y=some c :=
  zmx scope.names [] (S.cells I) (fun _ _ h=>by simp at h) y c e
theorem zmc {s1:Shared} {m:Str→Option Value} (S:CompScG X.env.scope O M scope) (hc:X.calm=true) (I:Inv X pins σ H s) (hjs:∀(k:Nat) (y:Str),M[k]?=some y→∃j:Nat,js[k]?=some j∧X.N[j]?=some y) (hlen:js.length=M.length)
    (hf:∀b∈fp,FpOk X pins H b) (hfl:∀b∈fp,b<s.heap.objs.size) (hC:s.heap.objs.size≤C) (hn:s1.heap.Ns C m) (hk:∀b o,s.heap.get? b=some o→s1.heap.get? b=some o) (hos:s1.os=s.os) (hg:AllBare s1.gens) :
    Inv (cxComp X scope C (O++M) fp pins s H) [] (List.replicate O.length none++pick σ js) H s1:=by
  have nst:∀b∈fp,b∉frs X.stack:=fun b hb z=>by
    obtain ⟨f0,f1,f2,_⟩:=hf b hb
    rcases List.mem_cons.mp (I.stkSub b z) with e|e
    · exact f1 e
    · exact f2 e
  have cellK:∀(c:Addr) (v:Option Value),s.heap.IsCell c v→s1.heap.IsCell c v:=fun c v z_1=>by obtain ⟨o,e,d⟩:=z_1;exact ⟨o,hk c o e,d⟩
  refine ⟨⟨I.ok.mod,S.kind,I.ok.glob,I.ok.blt,hC,fun y z c h1 h2=>I.ok.inj y z c (S.sub I h1) (S.sub I h2),fun y hy=>?_,fun y c h _=>(by cases (show false=true from h)),fun _=>I.ok.hd hc,I.ok.frames,.inl rfl,fun b hb=>?_,I.bs,
    Nat.le_trans I.ok.bsz I.sz,fun b o e hb=>?_,nst,I.stack,I.stkFree⟩,hos,hg,Un.kept hk,⟨m,hn,fun i y v h1 h2 h3=>?_⟩,fun y c e=>?_,I.hok.fresh hC,fun y c e=>I.freeC y c (S.sub I e),fun p hp=>?_,I.hok.kept hk,?_⟩
  · have hy':(relabel scope X.env).names.lookup y=some .cell∨(relabel scope X.env).names.lookup y=some .free:=hy
    have fr:(y,NameKind.free)∈scope.names:=by
      rcases hy' with h|h
      · obtain ⟨k',mm,e|e⟩:=zc3 h
        · exact absurd e.symm (S.nocell _ mm)
        · rw [e.1] at mm;exact mm
      · obtain ⟨k',mm,e|e⟩:=zc3 h
        · rw [←e] at mm;exact mm
        · exact absurd e.2 (by intro z;cases z)
    exact zhw scope.names [] y (.inl fr)
  · obtain ⟨f0,f1,f2,f3,f4,f5⟩:=hf b hb
    exact ⟨Nat.ne_of_lt (Nat.lt_of_lt_of_le (hfl b hb) hC),fun y c e=>f4 y c (S.sub I e)⟩
  · obtain ⟨f0,f1,f2,f3,f4,f5⟩:=hf b hb
    rcases f3 with f3|f3
    · exact I.ok.noex b o e f3
    · exact absurd (Heap.lt_size e) (Nat.not_lt.mpr (Nat.le_trans I.ok.bsz f3))
  · have h1c:(O++M)[i]?=some y:=h1
    by_cases hi:i<O.length
    · rw [List.getElem?_append_left (by simpa using hi),List.getElem?_replicate,if_pos hi] at h2
      have h2':(none:Option V)=some v:=Option.some.inj h2
      cases h2'
    · have hge:O.length≤i:=Nat.le_of_not_lt hi
      rw [List.getElem?_append_right hge] at h1c
      rw [List.getElem?_append_right (by simpa using hge),List.length_replicate] at h2
      obtain ⟨j,ej,eN⟩:=hjs _ y h1c
      have eσ:σ[j]?=some (some v):=by
        unfold pick at h2
        rw [List.getElem?_map,ej] at h2
        have z:(σ[j]?).getD none=some v:=by simpa using h2
        cases q:σ[j]? with
        | none=>rw [q] at z;cases z
        | some o=>rw [q] at z;rw [show o=some v from z]
      have hfree:=S.mine y (List.mem_of_getElem? h1c)
      have hcell:X.env.kindOf y=some .cell:=S.free (y,.free) (PySem.mem_of_lookup hfree) rfl
      obtain ⟨m0,_,hl0⟩:=I.loc
      obtain ⟨u,r,l⟩:=hl0 j y v eN eσ (.inr (.inl hcell))
      refine ⟨u,r,.inr ⟨.inl (zeo I.ok.kind hcell hfree),?_⟩⟩
      obtain ⟨c',e'⟩:=zhw (env:=X.env) scope.names [] y (.inl (PySem.mem_of_lookup hfree))
      have e2:=S.sub I (show (clOf scope X.env).lookup y=some c' from e')
      rcases l with ⟨z,_⟩|⟨_,c,hcc,hic⟩
      · rw [hcell] at z;cases z
      · rw [hcc] at e2
        have:c=c':=Option.some.inj e2
        subst this
        exact ⟨c,e',cellK c _ hic⟩
  · obtain ⟨v,h⟩:=I.cell y c (S.sub I e)
    exact ⟨v,cellK c v h⟩
  · have hp':p∈X.pn++pins:=by simpa [cxComp] using hp
    obtain ⟨e,n,ne,nf,d⟩:=I.pin p hp'
    refine ⟨hk _ _ e,n,Nat.ne_of_lt (Nat.lt_of_lt_of_le (Heap.lt_size e) hC),fun z=>?_,d⟩
    rcases List.mem_cons.mp (I.stkSub p.1 z) with q|q
    · exact ne q
    · exact nf q
  · show (List.replicate O.length none++pick σ js).length=(O++M).length
    simp [pick,hlen]
end
def PTs (X:Cx) (ifs:List Expr) (t:TT):Prop :=
  ∀(pins:List (Addr×Obj)) (s:Shared) (σ:L2.St) (H:Hp) (Q:Bool→Hp→Prop),Inv X pins σ H s→t σ H Q →
    wpAny (model X.prog X.w) X.A (forIn ifs true fun c r=>if r=true then do let ok ←isTrue c X.env (eval c X.env);pure (ForInStep.yield ok) else pure (ForInStep.yield r)) (TP X pins σ Q) X.xe s
theorem zo3 {X:Cx} {c:Expr} {t:TT} (h:PT X c t):PTs X [c] t:=fun pins s σ H Q I q=>wpAny_tests_one (h pins s σ H Q I q)
def tCompG (wi:TI) (g:TG) (tt:TT) (te:TE) (n:Nat) (js:List Nat):TE:=fun σ H Q=>wi σ H fun J H1=>∀D,H1 D=none→∃W:Nat→Nat→L2.St→Hp→Prop,(∃m,W 0 m (List.replicate n none++pick σ js) (upd H1 D (.lst []))) ∧
  ∀i m τ H2,W i m τ H2→(J.stop i H2∧Q (.ref D) H2)∨(J.go i H2∧∃N:L2.St→Hp→Prop,(∀τ' H',N τ' H'→∃m',m'<m∧W (i+1) m' τ' H')∧∀v H',J.yld i H2 v H' →
    g v τ H' fun τ' H3=>tt τ' H3 fun b H4=>if b=true then te τ' H4 fun y H5=>∃ys,H5 D=some (.lst ys)∧ys.length<sizeLine∧N τ' (upd H5 D (.lst (ys++[y]))) else N τ' H4)
section
variable {X:Cx} {elt iter tg:Expr} {ifs:List Expr} {pos:Pos} {scope:Scope} {O M:List Str} {js:List Nat} {wi:TI} {g:TG} {tt:TT} {te:TE}
theorem ziu {prog:Program} {w:World} {A:Around} {R:Result→Shared→Prop} {s:Shared} {it acc:Value} {env:Env} (I:Nat→Shared→Prop)
    (turn:∀n s,I n s→wpAny (model prog w) A (pyNext it) (fun r s₁=>match r with
      | none=>R (.ok .next) s₁
      | some v=>wpAny (model prog w) A (letOwnedTupleGo tg it v) (fun _ s₂=>wpAny (model prog w) A (assign tg env v) (fun _ s₃ =>
          wpAny (model prog w) A (forIn ifs true fun c r=>if r=true then do let ok ←isTrue c env (eval c env);pure (ForInStep.yield ok) else pure (ForInStep.yield r)) (fun ok s₄ =>
            if ok=true then wpAny (model prog w) A (eval elt env) (fun y s₅=>wpAny (model prog w) A (call (.builtin "list.append") [acc,y]) (fun _ s₆=>∃m,m<n∧I m s₆) (fun _ _=>False) s₅) (fun _ _=>False) s₄
            else ∃m,m<n∧I m s₄) (fun _ _=>False) s₃) (fun _ _=>False) s₂) (fun _ _=>False) s₁) (fun _ _=>False) s)
    (n:Nat) (h:I n s):codeAny (model prog w) A (.compLoop (.ListComp elt [⟨tg,iter,ifs,0⟩] scope pos) 0 it acc env) R s:=by
  refine codeAny_loop rfl I (fun n s hI=>?_) n h
  show wpAny _ _ ((compTurn (.ListComp elt [⟨tg,iter,ifs,0⟩] scope pos) 0 it acc env).onRaise (fun x=>do noteFrame x env;theTreesLotGoes x)) _ _ s
  refine wpAny_noted ?_
  rw [compTurn_list]
  refine wpAny_bind (wpAny_standAt (wpAny_bind (wpAny_mono (turn n s hI) (fun r s₁ h₁=>?_) fun _ _ z=>z.elim)))
  cases r with
  | none=>exact wpAny_pure h₁
  | some v =>
    refine wpAny_bind (wpAny_mono h₁ (fun _ s₂ h₂=>wpAny_bind (wpAny_mono h₂ (fun _ s₃ h₃=>wpAny_bind (wpAny_mono h₃ (fun ok s₄ h₄=>?_) fun _ _ z=>z.elim)) fun _ _ z=>z.elim)) fun _ _ z=>z.elim)
    cases ok with
    | false=>exact wpAny_pure ⟨rfl,h₄⟩
    | true=>exact wpAny_bind (wpAny_bind (wpAny_mono h₄ (fun y s₅ h₅=>wpAny_bind (wpAny_mono h₅ (fun _ s₆ h₆=>wpAny_pure (wpAny_pure ⟨rfl,h₆⟩)) fun _ _ z=>z.elim)) fun _ _ z=>z.elim))
theorem zit {pins:List (Addr×Obj)} {σ:L2.St} {H2:Hp} {s2:Shared} {it D:Addr} {fp:List Addr} {tn:Nat→Heap→Prop} {J:It} {W:Nat→Nat→L2.St→Hp→Prop} {Qe:Hp→Prop} {R:Addr→Result→Shared→Prop} {E:Value→Shared→Prop} {m0:Nat}
    (S:CompScG X.env.scope O M scope) (hc:X.calm=true) (hjs:∀(k:Nat) (y:Str),M[k]?=some y→∃j:Nat,js[k]?=some j∧X.N[j]?=some y) (hlen:js.length=M.length)
    (hg:∀(C:Addr) (fp:List Addr) (pins:List (Addr×Obj)) (s:Shared) (H:Hp),PG (cxComp X scope C (O++M) fp pins s H) tg g)
    (ht:∀(C:Addr) (fp:List Addr) (pins:List (Addr×Obj)) (s:Shared) (H:Hp),PTs (cxComp X scope C (O++M) fp pins s H) ifs tt)
    (he:∀(C:Addr) (fp:List Addr) (pins:List (Addr×Obj)) (s:Shared) (H:Hp),PE (cxComp X scope C (O++M) fp pins s H) elt te)
    (I:Inv X pins σ H2 s2) (T:Turn X.prog X.w X.K tg J fp it tn) (st:tn 0 s2.heap) (hf:∀b∈fp,FpOk X pins H2 b) (w0:W 0 m0 (List.replicate O.length none++pick σ js) H2)
    (turn:∀i m τ H3,W i m τ H3→(J.stop i H3∧Qe H3)∨(J.go i H3∧∃N:L2.St→Hp→Prop,(∀τ' H',N τ' H'→∃m',m'<m∧W (i+1) m' τ' H')∧∀v H',J.yld i H3 v H' →
      g v τ H' fun τ' H4=>tt τ' H4 fun b H5=>if b=true then te τ' H5 fun y H6=>∃ys,H6 D=some (.lst ys)∧ys.length<sizeLine∧N τ' (upd H6 D (.lst (ys++[y]))) else N τ' H5))
    (fin:∀(C:Addr) (s':Shared) (H':Hp) (pins':List (Addr×Obj)) (σ':L2.St),s2.heap.objs.size≤C→Inv (cxComp X scope C (O++M) fp pins s2 H2) pins' σ' H' s'→Qe H'→R C (.ok .next) s') :
    wpAny (model X.prog X.w) X.A (newFunctionEnv scope X.env.globals (clOf scope X.env) [] X.env.qual none .none (some X.env)) (fun cenv s4 =>
      codeAny (model X.prog X.w) X.A (.compStart (.ListComp elt [⟨tg,iter,ifs,0⟩] scope pos) 0 (.ref it) (.ref D) {cenv with scope:=relabel scope X.env}) (R cenv.locals) s4) E s2:=by
  refine wpAny_newFunctionEnv S.nocell (by intro y hy;simp at hy) (fun h1 hns hsb=>?_) S.kind
  have hfl:∀b∈fp,b<s2.heap.objs.size:=fun b hb=>by
    obtain ⟨o,e,_⟩:=T.obj 0 _ st b hb
    exact Heap.lt_size e
  have old:∀b o,s2.heap.get? b=some o→h1.get? b=some o:=fun b o e=>(hsb.2 b (Nat.ne_of_lt (Heap.lt_size e))).trans (Heap.get?_push_of_some _ e)
  have I4:Inv (cxComp X scope s2.heap.objs.size (O++M) fp pins s2 H2) [] (List.replicate O.length none++pick σ js) H2 {s2 with heap:=h1,toks:=s2.toks+([]:List (Str×Value)).length} :=
    zmc S hc I hjs hlen hf hfl (Nat.le_refl _) hns old rfl I.bare
  have st4:tn 0 h1:=T.keep _ _ _ st fun b hb o e=>old b o e
  have stat:∀{H':Hp},(∀b∈fp,H' b=none)→∀b∈fp,FpOk (cxComp X scope s2.heap.objs.size (O++M) fp pins s2 H2) [] H' b:=fun {H'} hn b hb=>by
    obtain ⟨f0,f1,f2,f3,f4,f5⟩:=hf b hb
    refine ⟨hn b hb,Nat.ne_of_lt (hfl b hb),I4.ok.exfs b hb,.inl hb,fun y c e=>f4 y c (S.sub I e),fun p hp=>f5 p ?_⟩
    simpa [cxComp] using hp
  have loop:∀s3:Shared,s3={s2 with heap:=h1,toks:=s2.toks+([]:List (Str×Value)).length} →
      codeAny (model X.prog X.w) X.A (.compLoop (.ListComp elt [⟨tg,iter,ifs,0⟩] scope pos) 0 (.ref it) (.ref D) (compEnvC scope (clOf scope X.env) s2.heap.objs.size X.env)) (R s2.heap.objs.size) s3:=by
    rintro s3 rfl
    refine ziu (fun n s'=>∃(i:Nat) (τ:L2.St) (H':Hp),Inv (cxComp X scope s2.heap.objs.size (O++M) fp pins s2 H2) [] τ H' s'∧tn i s'.heap∧(∀b∈fp,H' b=none)∧W i n τ H') ?_ m0
      ⟨0,_,H2,I4,st4,fun b hb=>(hf b hb).1,w0⟩
    rintro n s5 ⟨i,τ,H5,I5,st5,fr5,w5⟩
    rcases turn i n τ H5 w5 with ⟨stop,qe⟩|⟨go,N,hN,step⟩
    · refine thn (T.done (cxComp X scope s2.heap.objs.size (O++M) fp pins s2 H2) rfl rfl rfl rfl i [] s5 _ H5 (fun _ _=>False) I5 (stat fr5) st5 stop) fun r s6 ⟨hr,I6⟩=>?_
      subst hr
      exact fin _ s6 H5 [] _ (Nat.le_refl _) I6 qe
    · refine thn (T.item (cxComp X scope s2.heap.objs.size (O++M) fp pins s2 H2) rfl rfl rfl rfl i [] s5 _ H5 (fun _ _=>False) I5 (stat fr5) st5 go) fun r s6 ⟨u,hr,h6⟩=>?_
      subst hr
      refine thn h6 fun _ s7 ⟨v,H7,I7,r7,y7,st7,fr7⟩=>?_
      have I7':=I7.pinned (stat fr7) (T.obj _ _ st7)
      have back:∀{σ9:L2.St} {H9:Hp} {s9:Shared},Inv (cxComp X scope s2.heap.objs.size (O++M) fp pins s2 H2) ([]++pinsAt fp s7.heap) σ9 H9 s9→N σ9 H9 →
          ∃m,m<n∧∃(i:Nat) (τ:L2.St) (H':Hp),Inv (cxComp X scope s2.heap.objs.size (O++M) fp pins s2 H2) [] τ H' s9∧tn i s9.heap∧(∀b∈fp,H' b=none)∧W i m τ H':=by
        intro σ9 H9 s9 I9 n9
        obtain ⟨m',hm,w10⟩:=hN σ9 H9 n9
        refine ⟨m',hm,i+1,σ9,H9,I9.unpinned,T.keep _ _ _ st7 fun b hb o e=>(I9.pin (b,o) (List.mem_append_right _ (List.mem_append_right _ (zce hb e)))).1,fun b hb=>?_,w10⟩
        obtain ⟨o,e,d⟩:=T.obj _ _ st7 b hb
        exact (I9.pin (b,o) (List.mem_append_right _ (List.mem_append_right _ (zce hb e)))).2.1
      refine thn (hg s2.heap.objs.size fp pins s2 H2 _ s7 _ H7 v u _ I7' r7 (step v H7 y7)) fun _ s8 ⟨σ8,H8,I8,q8⟩=>?_
      refine thn (ht s2.heap.objs.size fp pins s2 H2 _ s8 _ H8 _ I8 q8) fun ok s9 ⟨H9,I9,q9⟩=>?_
      cases ok with
      | false=>exact back I9 q9
      | true =>
        refine thn (he s2.heap.objs.size fp pins s2 H2 _ s9 _ H9 _ I9 q9) fun yv s10 ⟨y,H10,I10,r10,ys,hD,hz,n10⟩=>?_
        refine thn (zam (X:=cxComp X scope s2.heap.objs.size (O++M) fp pins s2 H2) _ s10 _ H10 (.ref D) [y] (.ref D) [yv] (fun _ H'=>N σ8 H') I10 rfl (.cons r10 .nil) ⟨D,ys,y,rfl,rfl,hD,hz,n10⟩) fun _ s11 ⟨_,H11,I11,_,n11⟩=>?_
        exact back I11 n11
  exact codeAny_compStart_list (loop _ rfl) (wpAny_mono (T.self X.A 0 _ _ _ st4 (loop _ rfl)) (fun _ _ z=>z) fun _ _ z=>z)
theorem zno (S:CompScG X.env.scope O M scope) (hc:X.calm=true) (hjs:∀(k:Nat) (y:Str),M[k]?=some y→∃j:Nat,js[k]?=some j∧X.N[j]?=some y) (hlen:js.length=M.length) (hi:PI X tg iter wi)
    (hg:∀(C:Addr) (fp:List Addr) (pins:List (Addr×Obj)) (s:Shared) (H:Hp),PG (cxComp X scope C (O++M) fp pins s H) tg g)
    (ht:∀(C:Addr) (fp:List Addr) (pins:List (Addr×Obj)) (s:Shared) (H:Hp),PTs (cxComp X scope C (O++M) fp pins s H) ifs tt)
    (he:∀(C:Addr) (fp:List Addr) (pins:List (Addr×Obj)) (s:Shared) (H:Hp),PE (cxComp X scope C (O++M) fp pins s H) elt te) (hs:∀v,foldedSetIterable iter X.env v=pure v:=by intro _;rfl) :
    PE X (.ListComp elt [⟨tg,iter,ifs,0⟩] scope pos) (tCompG wi g tt te O.length js):=by
  intro pins s σ H Q I h
  rw [eval_ListComp]
  refine wpAny_comprehension_free (use:=none) rfl hs (ziv (S.cells I)) S.kind S.names (thn (hi pins s σ H _ I h) fun xv s1 h1=>thn h1 fun itv s2 h2=>?_)
  obtain ⟨it,fp,tn,J,H1,rfl,I2,T,st2,f2,q⟩:=h2
  refine wpAny_newObj_type ?_ (by show 0≤sizeLine;decide)
  have hD:H1 s2.heap.objs.size=none:=I2.hok.fresh (Nat.le_refl _)
  obtain ⟨W,⟨m0,w0⟩,turn⟩:=q _ hD
  have I3:Inv X pins σ (upd H1 s2.heap.objs.size (.lst [])) {s2 with heap:=s2.heap.push {cls:=.type "list",data:=.seq ([]:List Value).toArray}}:=I2.lnew (t':=s2.toks) .nil (Nat.zero_le _)
  have fr3:∀b∈fp,FpOk X pins (upd H1 s2.heap.objs.size (.lst [])) b:=fun b hb=>by
    obtain ⟨f0,f⟩:=f2 b hb
    obtain ⟨o,e,_⟩:=T.obj 0 _ st2 b hb
    exact ⟨by rw [zal (Nat.ne_of_lt (Heap.lt_size e))];exact f0,f⟩
  refine zit (Qe:=fun H'=>Q (.ref s2.heap.objs.size) H') (R:=fun C=>compPost (model X.prog X.w) X.A X.xe none (EP X pins σ Q) (.ref s2.heap.objs.size) C) S hc hjs hlen hg ht he I3 T (T.keep _ _ _ st2 fun b hb o e=>Heap.get?_push_of_some _ e) fr3 w0 turn ?_
  intro C s' H' pins' σ' hC Jv qe
  obtain ⟨m,hn,_⟩:=Jv.loc
  exact ⟨m,hn,fun h' hs'=>⟨.ref _,H',zg3 I3 fr3 Jv hC hs',rfl,qe⟩⟩
end
end EE
namespace EE
open PySem PySem.Spec PyProof.Rows L2
end EE
namespace E3
open PySem PySem.Spec PyProof.Rows L2 EE
def exG (K:PySem.W.Frag) (g:TG3):TG:=fun v τ H Q=>∃Z:Zt,lG K Z g v τ H Q
def exT (K:PySem.W.Frag) (t:TT3):TT:=fun τ H Q=>∃Z:Zt,lT K Z t τ H Q
theorem PG3.ex {X:Cx} {e:Expr} {g:TG3} (h:PG3 X NoX e g):PG X e (exG X.K g):=fun pins s σ H v u Q I r z_1=>by obtain ⟨Z,q⟩:=z_1;exact h (ZX.no X Z) pins s σ H v u Q I r q
theorem PT3.ex {X:Cx} {e:Expr} {t:TT3} (h:PT3 X NoX e t):PT X e (exT X.K t):=fun pins s σ H Q I z_2=>by obtain ⟨Z,q⟩:=z_2;exact h (ZX.no X Z) pins s σ H Q I q
def PTs3 (X:Cx) (ifs:List Expr) (t:TT3):Prop:=PTs X ifs (exT X.K t)
theorem PTs3.ex {X:Cx} {ifs:List Expr} {t:TT3} (h:PTs3 X ifs t):PTs X ifs (exT X.K t):=h
theorem ts_one {X:Cx} {c:Expr} {t:TT3} (h:PT3 X NoX c t):PTs3 X [c] t:=zo3 h.ex
def ShG (n:Nat) (g:TG3) (Sh:D→St3→Prop):Prop:=∀d ρ,Sh d ρ→ρ.length=n∧∀σ1 S Q,Q (ρ++σ1) S→g d (List.replicate n none++σ1) S Q
def Sh1:D→St3→Prop:=fun d ρ=>ρ=[some d]
theorem sh1:ShG 1 (name3 0) Sh1:=fun d ρ h=>by
  cases h
  exact ⟨rfl,fun σ1 S Q q=>q⟩
def compS3 (wi:TI3) (Sh:D→St3→Prop) (tt:TT3) (te:TE3) (js:List Nat):TE3:=fun σ S Q=>wi σ S fun ds Al S1=>∃W:Nat→List D→Hp3→Prop,W 0 [] S1∧(∀i ys S,W i ys S→Al S∧ys.length<sizeLine) ∧
  (∀i d ys S,ds[i]?=some d→W i ys S→∃ρ,Sh d ρ∧tt (ρ++pick3 σ js) S fun b S2=>if b=true then te (ρ++pick3 σ js) S2 fun y S3=>W (i+1) (ys++[y]) S3 else W (i+1) ys S2)∧∀ys S,W ds.length ys S→newL S ys Q
theorem SR.blank {K:PySem.W.Frag} {H:Hp} {r:St3}:∀{ρ:St3} {τ:L2.St},SR K H (ρ++r) τ→SR K H (List.replicate ρ.length none++r) τ
  | [],_,h=>h
  | _::ρ,_,.cons _ t=>.cons (fun d e=>by cases e) (SR.blank (ρ:=ρ) t)
theorem zku {K:PySem.W.Frag} {Z:Zt} {wi:TI3} {Sh:D→St3→Prop} {g:TG3} {tt:TT3} {te:TE3} {n:Nat} {js:List Nat} {τ:L2.St} {H:Hp} {Q:VK} (hsh:ShG n g Sh) (h:lE K Z (compS3 wi Sh tt te js) τ H Q) :
    tCompG (lI K Z wi) (exG K g) (exT K tt) (exZ K te) n js τ H Q:=by
  obtain ⟨σ,S,Q3,hs,hr,ht,hc⟩:=h
  refine ⟨σ,S,_,hs,hr,ht,fun ds Al S1 J H1 k1 l1 q1 wk=>?_⟩
  intro p hp
  obtain ⟨W,w0,al,turn,done⟩:=q1
  obtain ⟨hsp,hzp⟩:=l1.fresh hp
  have kp:Kp Z H1 (upd H1 p (.lst [])):=Kp.new hp hzp
  have sr0:SR K (upd H1 p (.lst [])) (List.replicate n none++pick3 σ js) (List.replicate n none++pick τ js):=zbc (SR.nones n) ((hs.mono (k1.trans kp)).picks js)
  refine ⟨fun i m τ' H'=>m=ds.length-i∧i≤ds.length∧SR K H' (List.replicate n none++pick3 σ js) τ'∧∃ys vs S',Kp Z H1 H'∧H' p=some (.lst vs)∧Rps K H' ys vs∧S' p=none∧Rl K Z S' H'∧W i ys S',
    ⟨ds.length,by simp,Nat.zero_le _,sr0,[],[],S1,kp,zat,.nil,hsp,l1.lay hp,w0⟩,?_⟩
  rintro i m τ' H2 ⟨rfl,hi,sr2,ys,vs,S2,k2,hp2,ry,hs2,l2,w2⟩
  obtain ⟨al2,hz⟩:=al _ _ _ w2
  by_cases hlt:i<ds.length
  · have hd:ds[i]?=some ds[i]:=List.getElem?_eq_getElem hlt
    obtain ⟨go,yl⟩:=wk.go i _ S2 H2 k2 l2 al2 hd
    refine .inr ⟨go,fun τ' H'=>i<ds.length∧SR K H' (List.replicate n none++pick3 σ js) τ'∧∃ys vs S',Kp Z H1 H'∧H' p=some (.lst vs)∧Rps K H' ys vs∧S' p=none∧Rl K Z S' H'∧W (i+1) ys S',
      fun τ' H' z=>⟨ds.length-(i+1),by omega,rfl,z.1,z.2⟩,fun v H3 y=>?_⟩
    obtain ⟨k3,rv,l3,o3⟩:=yl v H3 y
    have hp3:H3 p=some (.lst vs):=(o3 p (by rw [hp2];simp)).trans hp2
    obtain ⟨ρ,hρ,step⟩:=turn i _ ys S2 hd w2
    obtain ⟨hn,hg⟩:=hsh _ ρ hρ
    refine ⟨Z.hide H3 p,ds[i],_,S2,fun σ' S'=>σ'=ρ++pick3 σ js∧S'=S2,rv,sr2.mono k3,(l3 _ l2).hide hs2 (by rw [hp3];simp),hg _ _ _ ⟨rfl,rfl⟩,?_⟩
    rintro σ4 S4 τ4 H4 k4 sr4 l4 ⟨rfl,rfl⟩
    refine ⟨Z.hide H3 p,_,_,_,sr4,l4,step,?_⟩
    intro b S5 H5 k5 l5 q5
    have at5:∀{S6:Hp3} {H6:Hp},Kp (Z.hide H3 p) H4 H6→Rl K (Z.hide H3 p) S6 H6→H6 p=some (.lst vs)∧Kp Z H3 H6∧Rl K Z S6 H6∧S6 p=none:=fun {S6 H6} k6 l6=>by
      have kk:=(k4.trans k6).unhide (Z:=Z) fun a z=>.inl z
      exact ⟨((k4.trans k6).hid p (.inr rfl)).trans hp3,kk,l6.unhide (Z:=Z) (fun a z=>.inl z) ((l3 _ l2).old.trans kk),(l6.hid p (.inr rfl)).1⟩
    have bl:∀{H6:Hp},SR K H6 (ρ++pick3 σ js) τ4→SR K H6 (List.replicate n none++pick3 σ js) τ4:=fun {H6} z=>by
      have:=SR.blank z
      rw [hn] at this
      exact this
    cases b with
    | false =>
      rw [if_neg Bool.false_ne_true]
      obtain ⟨hp5,kk,l5',sp5⟩:=at5 k5 l5
      exact ⟨hlt,bl (sr4.mono k5),ys,vs,S5,k2.trans (k3.trans kk),hp5,ry.mono (k3.trans kk),sp5,l5',q5⟩
    | true =>
      rw [if_pos rfl]
      refine ⟨Z.hide H3 p,_,S5,_,sr4.mono k5,l5,q5,?_⟩
      intro d S6 w H6 k6 r6 l6 q6
      obtain ⟨hp6,k6',l6',sp6⟩:=at5 (k5.trans k6) l6
      have kk:Kp Z H6 (upd H6 p (.lst (vs++[w]))):=by
        refine ⟨fun b xs e=>?_,fun b q u e=>?_,fun b z=>?_⟩
        · rw [zal];exact e
          rintro rfl;rw [hp6] at e;cases e
        · rw [zal];exact e
          rintro rfl;rw [hp6] at e;cases e
        · rw [zal];rintro rfl;exact hzp z
      have hlen:ys.length=vs.length:=ry.len
      refine ⟨vs,hp6,by omega,hlt,bl ((sr4.mono (k5.trans k6)).mono kk),ys++[d],vs++[w],S6,k2.trans (k3.trans (k6'.trans kk)),zat,(ry.mono (k3.trans (k6'.trans kk))).append (.cons (r6.mono kk) .nil),sp6,
        ⟨fun b u e=>(l6'.obj b u e).keep kk (zal (ne3 e sp6)),fun b z=>?_,l6'.old.trans kk⟩,q6⟩
      have hb:b≠p:=fun e=>hzp (e▸z)
      rw [zal hb]
      exact l6'.hid b z
  · have e:i=ds.length:=by omega
    subst e
    refine .inl ⟨wk.stop S2 H2 k2 l2 al2,?_⟩
    refine hc (.ref p) (up S2 p (.lst ys)) (.ref p) H2 (k1.trans k2) (.ref p) ⟨fun b u e=>?_,fun b z=>?_,l2.old⟩ (done ys S2 w2 p hs2)
    · by_cases hb:b=p
      · subst hb
        rw [zab] at e
        cases e
        exact ⟨vs,hp2,ry⟩
      · rw [zbm hb] at e
        exact l2.obj b u e
    · have hb:b≠p:=fun e=>hzp (e▸z)
      rw [zbm hb]
      exact l2.hid b z
section
variable {X:Cx} {W3:W3T} {elt iter tg:Expr} {ifs:List Expr} {x x':Str} {px px' pos tp:Pos} {kt:Nat} {scope osc:Scope} {O M N:List Str} {js:List Nat} {wi:TI3} {g:TG3} {Sh:D→St3→Prop} {tt:TT3} {te:TE3}
theorem zpx (S:CompScG osc O M scope) (hjs:M.map some=js.map fun j=>N[j]?) (hc:X.calm=true) (hsh:ShG O.length g Sh) (hi:PI3 X W3 tg iter wi)
    (hg:∀(C:Addr) (fp:List Addr) (pins:List (Addr×Obj)) (s:Shared) (H:Hp),PG3 (cxComp X scope C (O++M) fp pins s H) NoX tg g)
    (ht:∀(C:Addr) (fp:List Addr) (pins:List (Addr×Obj)) (s:Shared) (H:Hp),PTs3 (cxComp X scope C (O++M) fp pins s H) ifs tt)
    (he:∀(C:Addr) (fp:List Addr) (pins:List (Addr×Obj)) (s:Shared) (H:Hp),PE3 (cxComp X scope C (O++M) fp pins s H) NoX elt te)
    (hosc:X.env.scope=osc) (hN:X.N=N) (hs:∀v,foldedSetIterable iter X.env v=pure v) :
    PE3 X W3 (.ListComp elt [⟨tg,iter,ifs,0⟩] scope pos) (compS3 wi Sh tt te js):=fun Z=>by
  subst hosc hN
  exact PE.imp (zno S hc (zkn hjs).1 (zkn hjs).2 (hi Z) (fun C fp pins s H=>(hg C fp pins s H).ex) (fun C fp pins s H=>(ht C fp pins s H).ex) (fun C fp pins s H=>(he C fp pins s H).ex) hs) fun _ _ _ h=>zku hsh h
theorem own1 (S:CompScG osc [x] M scope) (C:Addr) (fp:List Addr) (pins:List (Addr×Obj)) (s:Shared) (H:Hp):PG3 (cxComp X scope C ([x]++M) fp pins s H) NoX (.Name x px) (name3 0) :=
  zdf (i:=0) S.nd rfl (.inl (lookup_relabel_local (S.own x List.mem_cons_self))) (.inr (lookup_relabel_local (S.own x List.mem_cons_self)))
theorem zpy (S:CompScG osc [x] M scope) (hjs:M.map some=js.map fun j=>N[j]?) (hc:X.calm=true) (hi:PI3 X W3 (.Name x px) iter wi)
    (ht:∀(C:Addr) (fp:List Addr) (pins:List (Addr×Obj)) (s:Shared) (H:Hp),PTs3 (cxComp X scope C ([x]++M) fp pins s H) ifs tt)
    (he:∀(C:Addr) (fp:List Addr) (pins:List (Addr×Obj)) (s:Shared) (H:Hp),PE3 (cxComp X scope C ([x]++M) fp pins s H) NoX elt te)
    (hosc:X.env.scope=osc:=by rfl) (hN:X.N=N:=by rfl) (hs:∀v,foldedSetIterable iter X.env v=pure v:=by intro _;rfl) :
    PE3 X W3 (.ListComp elt [⟨.Name x px,iter,ifs,0⟩] scope pos) (compS3 wi Sh1 tt te js):=zpx S hjs hc sh1 hi (own1 S) ht he hosc hN hs
end
section
variable {σ:St3} {S:Hp3} {Q:K3} {wi:TI3} {js:List Nat} {tt:TT3} {te:TE3} {Sh:D→St3→Prop}
theorem j_compS (h:wi σ S fun ds Al S1=>∃W:Nat→List D→Hp3→Prop,W 0 [] S1∧(∀i ys S,W i ys S→Al S∧ys.length<sizeLine) ∧
  (∀i d ys S,ds[i]?=some d→W i ys S→∃ρ,Sh d ρ∧tt (ρ++pick3 σ js) S fun b S2=>if b=true then te (ρ++pick3 σ js) S2 fun y S3=>W (i+1) (ys++[y]) S3 else W (i+1) ys S2)∧∀ys S,W ds.length ys S→newL S ys Q):compS3 wi Sh tt te js σ S Q:=h
end
end E3
namespace E3
open PySem PySem.Spec PyProof.Rows L2 EE
end E3
namespace E3
open PySem PySem.Spec PyProof.Rows L2 EE
theorem zmv {σ:St3} {Q:K3} {te:TE3} {js:List Nat} {ds:List D} {Al:Hp3→Prop} {S1:Hp3} (f:Nat→D) (hz:ds.length≤10000) (hA:∀S,Sub S1 S→Al S)
    (h:∀i d S,ds[i]?=some d→Sub S1 S→∀P:K3,(∀S',Sub S S'→P (f i) S')→te (some d::pick3 σ js) S P) (q:∀S,Sub S1 S→newL S ((List.range ds.length).map f) Q) :
    ∃W:Nat→List D→Hp3→Prop,W 0 [] S1∧(∀i ys S,W i ys S→Al S∧ys.length<sizeLine) ∧
  (∀i d ys S,ds[i]?=some d→W i ys S→te (some d::pick3 σ js) S fun y S'=>W (i+1) (ys++[y]) S')∧∀ys S,W ds.length ys S→newL S ys Q:=by
  refine ⟨fun i ys S=>i≤ds.length∧ys=(List.range i).map f∧Sub S1 S,⟨Nat.zero_le _,rfl,Sub.refl _⟩,?_,?_,?_⟩
  · rintro i ys S ⟨hi,rfl,hs⟩
    refine ⟨hA S hs,?_⟩
    rw [List.length_map,List.length_range]
    exact Nat.lt_of_le_of_lt (Nat.le_trans hi hz) (by decide)
  · rintro i d ys S hd ⟨hi,rfl,hs⟩
    refine h i d S hd hs _ fun S' hs'=>⟨(List.getElem?_eq_some_iff.mp hd).1,?_,hs.trans hs'⟩
    rw [List.range_succ,List.map_append]
    rfl
  · rintro ys S ⟨_,rfl,hs⟩
    exact q S hs
end E3
namespace EE
open PySem PySem.Spec PyProof.Rows L2
theorem zdv:∀{ns:List Int} {us:List Value},Vals (ns.map V.int) us→∃ps:List (Int×Tok),us=ps.map (fun p=>.int p.1 p.2)∧ps.map (·.1)=ns
  | [],_,.nil=>⟨[],rfl,rfl⟩
  | n::ns,_,.cons r t=>by
    obtain ⟨tk,rfl⟩:=r
    obtain ⟨ps,rfl,e⟩:=zdv t
    exact ⟨(n,tk)::ps,rfl,by rw [List.map_cons,e]⟩
end EE
namespace E3
open PySem PySem.Spec PyProof.Rows L2 EE
def ifm3 (c:TT3) (t u:TS3):TS3:=ifs3 c t u
theorem zdx {X:Cx} {W3:W3T} {c:Expr} {a b:List Stmt} {tc:TT3} {t u:TS3} {pos:Pos} (hc:PT3 X W3 c tc) (ha:PSs3 X W3 a t) (hb:PSs3 X W3 b u):PS3 X W3 (.If c a b pos) (ifm3 tc t u):=s_if hc ha hb
theorem j_ifm {tc:TT3} {t u:TS3} {n:St3→Hp3→Prop} {rt:K3} {bk ct:St3→Hp3→Prop} {σ:St3} {S:Hp3} (Mid:St3→Hp3→Prop) (h1:∀n':St3→Hp3→Prop,(∀σ S,Mid σ S→n' σ S)→ifs3 tc t u ⟨n',rt,bk,ct⟩ σ S)
    (h2:∀σ S,Mid σ S→n σ S):ifm3 tc t u ⟨n,rt,bk,ct⟩ σ S:=h1 n h2
end E3
namespace E3
open PySem PySem.Spec PyProof.Rows L2 EE
noncomputable abbrev Mat:=List (List Int)
structure Mt (m n:Nat) (A:Mat):Prop where
  len:A.length=m
  row:∀r∈A,r.length=n
  num:∀r∈A,∀x∈r,0≤x∧x≤2
end E3
namespace E3
open PySem PySem.Spec PyProof.Rows L2 EE
section
variable {P:Program} {w:World} {K:PySem.W.Frag} {mg:Str→Option Value} {base:Heap} {x:Str} {st:Stmt} {N ps:List Str} {k:Nat}
def rdLX (A:List D→Hp3→(List D→Prop)→(Addr→Prop)→Prop):Sp3:=fun ds S Q W=>A ds S (fun ys=>newL S ys Q) fun C=>∀a,W C a S
theorem _root_.EE.Has.rdLX {A:List D→Hp3→(List D→Prop)→(Addr→Prop)→Prop} (h:Has K mg x st ps) (S:FnScope N ps (defScope st)) (len:∀ds S q qx,A ds S q qx→ds.length=ps.length)
    (hbody:∀(f:Addr) (cdv:Value) (Ar:Around) (outer:List Env) (s:Shared) (H:Hp) (E:XK) (ds:List D) (S:Hp3) (q:List D→Prop) (qx:Addr→Prop),Room k (Ar.deeper (envOfC x (defScope st) s.heap.objs.size f cdv))→A ds S q qx →
      ∃t,PSs3 (cxOf (CX1 P w) P w K mg base N x (defScope st) f cdv Ar outer s H E) (fun _ C _ S'=>Sub S S'∧qx C) (defBody st) t ∧
        t {nx:=fun _ _=>False,rt:=fun d S'=>∃p ys,d=.ref p∧S p=none∧Sub S S'∧S' p=some (.lst ys)∧q ys} (start3 N ds) S):Cal3 P w K mg base (k+1) x ps (rdLX A):=by
  have C:Cal3 P w K mg base (k+1) x ps (fun ds S Q E=>∃q qx,A ds S q qx∧(∀d S',(∃p ys,d=.ref p∧S p=none∧Sub S S'∧S' p=some (.lst ys)∧q ys)→Q d S')∧∀C a S',Sub S S'∧qx C→E C a S'):=by
    refine h.cal3x S (fun vs H Q E z_1=>by obtain ⟨q,qx,z,_⟩:=z_1;exact len _ _ _ _ z) fun f cdv Ar outer s H E ds S3 Q E3 hr ⟨q,qx,z,hq,hx⟩=>?_
    obtain ⟨t,h1,h2⟩:=hbody f cdv Ar outer s H E ds S3 _ _ hr z
    refine ⟨t,fun d S'=>∃p ys,d=.ref p∧S3 p=none∧Sub S3 S'∧S' p=some (.lst ys)∧q ys,fun C _ S'=>Sub S3 S'∧qx C,h1,?_,hq,hx⟩
    have e:(fun (_:St3) (_:Hp3)=>False)=fun (_:St3) (S':Hp3)=>∃p ys,D.non=.ref p∧S3 p=none∧Sub S3 S'∧S' p=some (.lst ys)∧q ys:=by
      funext _ S'
      refine propext ⟨False.elim,fun z=>?_⟩
      obtain ⟨p,ys,z,_⟩:=z
      cases z
    rw [←e]
    exact h2
  refine C.dropX.imp fun ds S Q E z=>⟨_,_,z,fun d S1 ⟨p,ys,e,hp,hs,hp1,hq⟩=>⟨up S p (.lst ys),?_,?_⟩,fun C a S1 hx=>⟨S,hx.1,hx.2 a⟩⟩
  · intro a o ha
    by_cases c:a=p
    · subst c
      rw [zab] at ha
      cases ha
      exact hp1
    · rw [zbm c] at ha
      exact hs a o ha
  · subst e
    exact hq p hp
end
end E3
namespace E3
open PySem PySem.Spec PyProof.Rows L2 EE
open Classical in
theorem zgx {α:Type} [DecidableEq α]:∀{ks ns:List α},ks.Nodup→(∀x∈ks,x∈ns)→ks.length≤ns.length
  | [],_,_,_=>Nat.zero_le _
  | k::ks,ns,h,hs=>by
    have hk:=hs k List.mem_cons_self
    have h1:=List.length_erase_of_mem hk
    have h2:0<ns.length:=List.length_pos_of_mem hk
    have h3:=zgx (ks:=ks) (ns:=ns.erase k) (List.nodup_cons.mp h).2 fun x hx=>by
      have hne:x≠k:=fun e=>(List.nodup_cons.mp h).1 (e▸hx)
      exact (List.mem_erase_of_ne hne).mpr (hs x (List.mem_cons_of_mem _ hx))
    simp only [List.length_cons]
    omega
end E3
namespace EE
open PySem PySem.Spec PyProof.Rows L2
end EE
namespace E3
open PySem PySem.Spec PyProof.Rows L2 EE
end E3
namespace EE
open PySem PySem.Spec PyProof.Rows L2
noncomputable def stS (σ:List Str) (v:Str):List Str:=if v∈σ then σ else σ++[v]
noncomputable def met (vs:List Str):List Str:=vs.foldl stS []
end EE
namespace EE
open PySem PySem.Spec PyProof.Rows L2
end EE
namespace E3
open PySem PySem.Spec PyProof.Rows L2 EE
end E3
namespace EE
open PySem PySem.Spec PyProof.Rows L2
noncomputable def ItvL (K:PySem.W.Frag) (a:Addr) (n:Nat):It :=
  ⟨fun i H=>i<n∧∃xs,SqL K H a xs∧xs.length=n,fun i H x H'=>H'=H∧∀xs,SqL K H a xs→xs[n-1-i]?=some x,fun i _=>n≤i⟩
theorem zk0 {P:Program} {w:World} {K:PySem.W.Frag} {tg:Expr} (a it:Addr) (n:Nat):Turn P w K tg (ItvL K a n) [it] it (fun i h=>i≤n∧h.IsRevIter it a ((n:Int)-1-(i:Int))) where
  mem:=by simp
  obj:=fun i h st b hb=>by
    have e:b=it:=by simpa using hb
    subst e
    obtain ⟨_,o,e,c,d⟩:=st
    exact ⟨o,e,fun v z=>by rw [d] at z;cases z⟩
  keep:=fun i h h' st k=>let ⟨hi,o,ho,r⟩:=st;⟨hi,o,k it (by simp) o ho,r⟩
  item:=by
    intro X hP hw hK hc i pins s σ H E I hf st hg
    subst hP hw hK
    obtain ⟨hi,xs,hq,hn⟩:=hg
    obtain ⟨its,rv,p,hz⟩:=I.list hq
    have hl:=rv.length
    have hx:xs[n-1-i]?=some xs[n-1-i]:=List.getElem?_eq_getElem (by omega)
    obtain ⟨u,hu,ru⟩:=rv.get hx
    obtain ⟨f0,f1,f2,f3,f4,f5⟩:=hf it (by simp)
    have e1:(n:Int)-1-(i:Int)=((n-1-i:Nat):Int):=by omega
    have st2:=st.2
    rw [e1] at st2
    refine wpAny_pyNext_rev_item st2 p.isList (x:=u) (by simpa using hu) fun h' st' sb=>?_
    have I1:Inv X pins σ H {s with heap:=h'}:=I.turned (t':=s.toks) (fun b o hb e=>(sb.2 b hb).trans e) f0 f1 f3 f4 f5
    obtain ⟨o,e,c,d⟩:=id st'
    have e2:((n-1-i:Nat):Int)-1=(n:Int)-1-((i+1:Nat):Int):=by omega
    refine ⟨u,rfl,zmg (s:={s with heap:=h'}) e c d (by decide) ⟨xs[n-1-i],H,I1,ru,⟨rfl,fun ys hy=>by rw [I.list_inj hy hq];exact hx⟩,⟨hi,?_⟩,fun b hb=>(hf b hb).1⟩⟩
    rw [←e2]
    exact st'
  done:=by
    intro X hP hw hK hc i pins s σ H E I hf st hg
    subst hP hw hK
    obtain ⟨f0,f1,f2,f3,f4,f5⟩:=hf it (by simp)
    have hg':n≤i:=hg
    have e1:(n:Int)-1-(i:Int)=-1:=by have:=st.1;omega
    have st2:=st.2
    rw [e1] at st2
    exact wpAny_pyNext_rev_end (I.ok.hd hc) st2 fun h' eb=>⟨rfl,I.turned (t':=s.toks) (fun b o hb e=>eb b o hb e) f0 f1 f3 f4 f5⟩
  self:=fun _ _ _ _ _ st h=>wpAny_pyIter_revIter st.2 h
def iRevL (K:PySem.W.Frag) (te:TA):TI:=fun σ H R=>te σ H fun vs H1=>∃a xs,vs=[.ref a]∧SqL K H1 a xs∧R (ItvL K a xs.length) H1
theorem zpc {X:Cx} {tg a:Expr} {ta:TA} {p pos:Pos} (hg:Gl X "reversed") (hm:X.mg "reversed"=none) (ha:PA X [a] ta) (hs:starEach [a] X.env=[(false,eval a X.env)]:=by rfl):PI X tg (.Call (.Name "reversed" p) [a] [] pos) (iRevL X.K ta):=by
  intro pins s σ H R I h
  refine Call_ (zhn I hg hm zjn (PyProof.Rows.callWith_type1 (thn (ha pos pins s σ H _ I h) fun us s1 ⟨vs,H1,I1,r1,q1⟩=>?_) hs rfl))
  obtain ⟨b,xs,e,hq,q⟩:=q1
  subst e
  cases r1 with
  | cons r rr =>
    cases rr
    cases r
    obtain ⟨its,rv,pt,hz⟩:=I1.list hq
    have hl:=rv.length
    refine call_reversed_list pt.isList ?_
    have I2:Inv X pins σ H1 {s1 with heap:=s1.heap.push (revObj b ((its.toArray.size:Int)-1))}:=I1.kept (t':=s1.toks) fun c o e=>Heap.get?_push_of_some _ e
    have st:(s1.heap.push (revObj b ((its.toArray.size:Int)-1))).IsRevIter s1.heap.objs.size b ((its.toArray.size:Int)-1):=⟨_,Heap.get?_push_size _ rfl,rfl,rfl⟩
    refine wpAny_pyIter_revIter st ?_
    have e1:(its.toArray.size:Int)-1=(xs.length:Int)-1-((0:Nat):Int):=by simp only [List.size_toArray];omega
    refine ⟨s1.heap.objs.size,[s1.heap.objs.size],_,_,H1,rfl,I2,zk0 b _ xs.length,⟨Nat.zero_le _,by rw [←e1];exact st⟩,fun c hc=>?_,q⟩
    have e:c=s1.heap.objs.size:=by simpa using hc
    subst e
    exact I1.fpOk (Nat.le_refl _) (I1.hok.fresh (Nat.le_refl _))
end EE
namespace E3
open PySem PySem.Spec PyProof.Rows L2 EE
section
variable {X:Cx} {W3:W3T} {tg:Expr} {pos:Pos}
def iRevL3 (ta:TA3):TI3:=fun σ S R=>ta σ S fun xs S1=>∃a ds,xs=[.ref a]∧S1 a=some (.lst ds)∧R ds.reverse (fun S=>S a=some (.lst ds)) S1
theorem i_revL {a:Expr} {ta:TA3} {p:Pos} (hg:Gl X "reversed") (hm:X.mg "reversed"=none) (ha:PA3 X W3 [a] ta) (hs:starEach [a] X.env=[(false,eval a X.env)]:=by rfl):PI3 X W3 tg (.Call (.Name "reversed" p) [a] [] pos) (iRevL3 ta) :=
  fun Z=>PI.imp (zpc hg hm (ha Z) hs) fun τ H R z_1=>by
  obtain ⟨σ,S,R3,hs,hr,ht,hc⟩:=z_1
  refine ⟨σ,S,_,hs,hr,ht,fun xs S1 vs0 H1 k1 r1 l1 q1=>?_⟩
  obtain ⟨b,ds,rfl,e,q⟩:=q1
  cases r1 with
  | cons r1 rr =>
    cases rr
    cases r1
    obtain ⟨vs,h1,h2⟩:=l1.obj b _ e
    have hl:=h2.len
    refine ⟨b,vs,rfl,SqL.of h1,hc _ _ S1 _ H1 k1 l1 q ⟨fun i d S2 H2 k2 l2 al hd=>?_,fun S2 H2 k2 l2 al=>?_⟩⟩
    · have hi:i<ds.length:=by
        have:=(List.getElem?_eq_some_iff.mp hd).1
        simpa using this
      rw [List.getElem?_reverse hi] at hd
      obtain ⟨ws,h3,h4⟩:=l2.obj b _ al
      have hl4:=h4.len
      obtain ⟨v,hv,rv⟩:=h4.at hd
      rw [hl] at hv
      refine ⟨⟨by omega,ws,SqL.of h3,by omega⟩,fun v' H' y=>?_⟩
      obtain ⟨rfl,y⟩:=y
      have:=y ws (SqL.of h3)
      rw [hv] at this
      cases this
      exact ⟨Kp.refl _ _,rv,fun _ z=>z,fun _ _=>rfl⟩
    · show vs.length≤ds.reverse.length
      rw [List.length_reverse,hl]
      exact Nat.le_refl _
end
end E3
namespace EE
open PySem PySem.Spec PyProof.Rows L2
end EE
namespace E3
open PySem PySem.Spec PyProof.Rows L2 EE
end E3
namespace EE
open PySem PySem.Spec PyProof.Rows L2
section
variable {X:Cx}
def rCatE (K:PySem.W.Frag):R2:=fun x y H Q=>∃a b xs ys,x=.ref a∧y=.ref b∧SqT K H a xs∧SqT K H b ys∧xs.length+ys.length≤sizeLine ∧
  (xs=[]→Q (.ref b) H)∧(xs≠[]→(ys=[]→Q (.ref a) H)∧(ys≠[]→∀p,H p=none→Q (.ref p) (upd H p (.tup (xs++ys)))))
theorem zpl:OpR X (binaryOp .Add) (rCatE X.K):=by
  intro pins s σ H x y v u Q I rx ry h
  obtain ⟨a,b,xs,ys,rfl,rfl,ha,hb,hz,q0,q1⟩:=h
  by_cases hx:xs=[]
  · cases rx
    cases ry
    obtain ⟨its,r1,p1,_⟩:=I.tuple ha
    obtain ⟨its2,r2,p2,_⟩:=I.tuple hb
    have hi:its=[]:=r1.nil_iff.mpr hx
    obtain ⟨⟨cls,dd,data,sl⟩,ho,hc,n,hd⟩:=id p1
    obtain ⟨⟨cls2,dd2,data2,sl2⟩,ho2,hc2,n2,hd2⟩:=id p2
    simp only at hc hd hc2 hd2
    subst hc hd hc2 hd2
    exact concat_meets ⟨_,ho,rfl⟩ ⟨_,ho2,rfl⟩ noFill_tuple_add seq_tuple_add PySem.F.slot_tuple_add PySem.F.entry_tuple_add (PySem.F.args_tuple_add_2 _ _)
      (tuple_addW0 a b its.toArray its2.toArray n n2 dd dd2 sl sl2 (by simp [hi])) ⟨ho,ho2,⟨.ref b,H,I,rfl,q0 hx⟩⟩
  · exact zid pins s σ H (.ref a) (.ref b) v u Q I rx ry ⟨a,b,xs,ys,rfl,rfl,ha,hb,hx,hz,(q1 hx).1,(q1 hx).2⟩
end
end EE
namespace E3
open PySem PySem.Spec PyProof.Rows L2 EE
section
variable {K:PySem.W.Frag} {S:Hp3} {Q:K3}
def catE3:R3:=fun x y S Q=>∃ds es,x=.tup ds∧y=.tup es∧ds.length+es.length≤sizeLine∧Q (.tup (ds++es)) S
theorem zp1:Dn2 K catE3 (rCatE K):=by
  intro Z x y S Q3 v w H Q rx ry l h c
  obtain ⟨ds,es,rfl,rfl,hz,q⟩:=h
  cases rx with
  | @tup a vs _ h1 h2 =>
    cases ry with
    | @tup b ws _ h3 h4 =>
      refine ⟨a,b,vs,ws,rfl,rfl,h1,h3,by rw [←h2.len,←h4.len];exact hz,fun e=>?_,fun _=>⟨fun e=>?_,fun _=>tup.down q (h2.append h4) l c⟩⟩
      · subst e
        cases h2
        rw [List.nil_append] at q
        exact c _ S _ H (Kp.refl _ _) (.tup h3 h4) l q
      · subst e
        cases h4
        rw [List.append_nil] at q
        exact c _ S _ H (Kp.refl _ _) (.tup h1 h2) l q
theorem j_catE {ds es:List D} (hz:ds.length+es.length≤sizeLine) (q:Q (.tup (ds++es)) S):catE3 (.tup ds) (.tup es) S Q:=⟨ds,es,rfl,rfl,hz,q⟩
theorem j_inL {a:Addr} {xs:List Str} {z:Str} (hS:S a=some (.lst (xs.map D.str))) (q:Q (.bl (decide (z∈xs))) S):in3 false (.str z) (.ref a) S Q :=
  ⟨_,.inl (.inl ⟨a,rfl,hS⟩),rfl,zhr xs,by rw [zhl,if_neg Bool.false_ne_true];exact q⟩
end
section
variable {σ:St3} {S:Hp3} {R:RI} {al:TA3}
def revLA (R:RI) (xs:List D) (S:Hp3):Prop:=∃a ds,xs=[.ref a]∧S a=some (.lst ds)∧R ds.reverse (fun S=>S a=some (.lst ds)) S
theorem j_iRevL (h:al σ S fun xs S1=>revLA R xs S1):iRevL3 al σ S R:=h
theorem j_revL {a:Addr} {ds:List D} (hS:S a=some (.lst ds)) (q:R ds.reverse (fun S=>S a=some (.lst ds)) S):revLA R [.ref a] S:=⟨a,ds,rfl,hS,q⟩
end
end E3
namespace E3
open PySem PySem.Spec PyProof.Rows L2 EE
end E3
namespace E3
open PySem PySem.Spec PyProof.Rows L2 EE
end E3
namespace E3
open PySem PySem.Spec PyProof.Rows L2 EE
end E3
namespace CL
section
variable {α:Type} [DecidableEq α]
variable {fit:α→α→Bool} {cmp:α→α→α}
theorem zgx {β:Type} [DecidableEq β]:∀{l c:List β},l.Nodup→(∀x∈l,x∈c)→l.length≤c.length
  | [],_,_,_=>Nat.zero_le _
  | x::l,c,h,hs=>by
    have hx:=hs x List.mem_cons_self
    have h1:=zgx (l:=l) (c:=c.erase x) (List.nodup_cons.mp h).2 fun y hy=>by
      refine (List.mem_erase_of_ne ?_).mpr (hs y (List.mem_cons_of_mem _ hy))
      rintro rfl
      exact (List.nodup_cons.mp h).1 hy
    rw [List.length_erase_of_mem hx] at h1
    have:0<c.length:=List.length_pos_of_mem hx
    rw [List.length_cons]
    omega
section
variable {β:Type} [DecidableEq β] {φ:α→β} {Gd:α→Prop} {C:List β} (inj:∀a b,Gd a→Gd b→φ a=φ b→a=b)
include inj
end
end
end CL
namespace EE
open PySem PySem.Spec PyProof.Rows L2
end EE
namespace EE
open PySem PySem.Spec PyProof.Rows L2
namespace FE
end FE
end EE
namespace E3
open PySem PySem.Spec PyProof.Rows L2 EE
end E3
namespace EE
open PySem PySem.Spec PyProof.Rows L2
end EE
namespace E3
open PySem PySem.Spec PyProof.Rows L2 EE
noncomputable abbrev Gr:=Str×Str×Mat
structure Gd (ar:Str→Option Nat) (g:Gr):Prop where
  ex:∃m n,ar g.1=some m∧ar g.2.1=some n∧1≤m∧1≤n∧m≤4∧n≤4∧Mt m n g.2.2
end E3
namespace E3
open PySem PySem.Spec PyProof.Rows L2 EE
end E3
namespace E3
open PySem PySem.Spec PyProof.Rows L2 EE
end E3
namespace E3
noncomputable abbrev cD (counts:List Nat):List D:=counts.map fun c:Nat=>D.int (c:Int)
end E3
namespace E3
open PySem PySem.Spec PyProof.Rows L2 EE
end E3
namespace E3
open PySem PySem.Spec PyProof.Rows L2 EE
noncomputable def tb (xs ys:List Str) (x:Str):Str:=ys.getD (xs.idxOf x) ""
end E3
namespace CL
end CL
namespace E3
open PySem PySem.Spec PyProof.Rows L2 EE
noncomputable def putI (f:Str) (d:D):List (Str×D)→List (Str×D)
  | []=>[(f,d)]
  | (k,x)::r=>if k=f then (k,d)::r else (k,x)::putI f d r
abbrev FP (K:PySem.W.Frag) (H:Hp) (fs:List (Str×D)) (ws:List (Str×V)):Prop:=Paired (fun (p:Str×D) (q:Str×V)=>p.1=q.1∧Rp K H p.2 q.2) fs ws
section
variable {K:PySem.W.Frag} {H:Hp}
theorem FP.look {f:Str} {d:D}:∀{fs:List (Str×D)} {ws:List (Str×V)},FP K H fs ws→fs.lookup f=some d→∃v,ws.lookup f=some v∧Rp K H d v
  | _,_,.nil,e=>by simp at e
  | (k,x)::fs,(k',y)::ws,.cons ⟨h1,h2⟩ t,e=>by
    have h1:k=k':=h1
    subst h1
    by_cases hb:(f==k)=true
    · simp only [List.lookup,hb] at e ⊢
      cases e
      exact ⟨_,rfl,h2⟩
    · have hb:(f==k)=false:=by simpa using hb
      simp only [List.lookup,hb] at e ⊢
      exact FP.look t e
theorem FP.none {f:Str}:∀{fs:List (Str×D)} {ws:List (Str×V)},FP K H fs ws→fs.lookup f=none→ws.lookup f=none
  | _,_,.nil,_=>rfl
  | (k,x)::fs,(k',y)::ws,.cons ⟨h1,h2⟩ t,e=>by
    have h1:k=k':=h1
    subst h1
    by_cases hb:(f==k)=true
    · simp only [List.lookup,hb] at e
      cases e
    · have hb:(f==k)=false:=by simpa using hb
      simp only [List.lookup,hb] at e ⊢
      exact FP.none t e
theorem FP.put {f:Str} {d:D} {v:V} (r:Rp K H d v):∀{fs:List (Str×D)} {ws:List (Str×V)},FP K H fs ws→FP K H (putI f d fs) (putF f v ws)
  | _,_,.nil=>.cons ⟨rfl,r⟩ .nil
  | (k,x)::fs,(k',y)::ws,.cons ⟨h1,h2⟩ t=>by
    have h1:k=k':=h1
    subst h1
    rw [show putF f v ((k,y)::ws)=(if k=f then (k,v)::ws else (k,y)::putF f v ws) from rfl,putI]
    by_cases hk:k=f
    · rw [if_pos hk,if_pos hk];exact .cons ⟨rfl,r⟩ t
    · rw [if_neg hk,if_neg hk];exact .cons ⟨rfl,h2⟩ (FP.put r t)
theorem FP.len:∀{fs:List (Str×D)} {ws:List (Str×V)},FP K H fs ws→fs.length=ws.length
  | _,_,.nil=>rfl
  | _,_,.cons _ t=>by simp [FP.len t]
theorem FP.mono {Z:Zt} {H':Hp} {fs:List (Str×D)} {ws:List (Str×V)} (k:Kp Z H H') (h:FP K H fs ws):FP K H' fs ws:=Paired.mapP h fun _ _ z=>⟨z.1,z.2.mono k⟩
end
def fldR (C:Addr) (f:Str):D→Hp3→K3→Prop:=fun x S Q=>∃a fs d,x=.ref a∧S a=some (.ins C fs)∧fs.lookup f=some d∧Q d S
def fld3 (C:Addr) (t:TE3) (f:Str):TE3:=fun σ S Q=>t σ S fun x S1=>fldR C f x S1 Q
def putR (C:Addr) (f:Str):D→D→Hp3→(Hp3→Prop)→Prop:=fun x y S q=>∃a fs,x=.ref a∧S a=some (.ins C fs)∧fs.length<1000∧q (up S a (.ins C (putI f y fs)))
def sfld3 (C:Addr) (ta tv:TE3) (f:Str):TS3:=fun D3 σ S=>tv σ S fun y S1=>ta σ S1 fun x S2=>putR C f x y S2 (D3.nx σ)
def methR (C:Addr) (m:Str) (k:Addr→Prop) (x:D) (S:Hp3):Prop:=∃a fs,x=.ref a∧S a=some (.ins C fs)∧fs.lookup m=none∧k a
def meth3 (C:Addr) (m:Str) (sp:Sp3) (W3:W3T) (ta:TE3) (t:TA3):TE3:=fun σ S Q=>ta σ S fun x S1=>methR C m (fun a=>t σ S1 fun ds S2=>sp (.ref a::ds) S2 Q (W3 σ)) x S1
def meth03 (C:Addr) (m:Str) (sp:Sp3) (W3:W3T) (ta:TE3):TE3:=fun σ S Q=>ta σ S fun x S1=>methR C m (fun a=>sp [.ref a] S1 Q (W3 σ)) x S1
def make3 (C:Addr) (sp:Sp3) (W3:W3T) (t:TA3):TE3:=fun σ S Q=>t σ S fun ds S1=>∀a,S1 a=none→sp (.ref a::ds) (up S1 a (.ins C [])) (fun d S2=>d=.non∧Q (.ref a) S2) (W3 σ)
section
variable {X:Cx} {W3:W3T} {o e value:Expr} {f:Str} {pos pos':Pos} {ta tv t:TE3} {C:Addr}
theorem zbs (c:Cls X.K C) (n:NoAttr X.K C f) (he:PE3 X W3 e t) (hb:attributeBase e f X.env (eval e X.env)=eval e X.env):PE3 X W3 (.Attribute e f pos) (fld3 C t f):=by
  refine fun Z=>PE.imp (pe_fld (he Z) hb) fun τ H Q ⟨σ,S,Q3,hs,hr,ht,hc⟩=>?_
  refine ⟨σ,S,_,hs,hr,ht,fun d S1 v H1 k1 r1 l1 ⟨a,fs,d',e1,e2,e3,q⟩=>?_⟩
  subst e1
  cases r1
  obtain ⟨dx,ws,h1,h2⟩:=l1.obj a _ e2
  obtain ⟨v',h3,h4⟩:=FP.look h2 e3
  exact ⟨a,C,dx,ws,v',rfl,h1,c,n,h3,hc d' S1 v' H1 k1 h4 l1 q⟩
theorem zfe (c:Cls X.K C) (n:NoAttr X.K C f) (ha:PE3 X W3 o ta) (hv:PE3 X W3 value tv) (hs:swapsWith value (some (.Attribute o f pos')) pos.line X.env=pure false):PS3 X W3 (.Assign [.Attribute o f pos'] value pos) (sfld3 C ta tv f):=by
  refine fun Z=>PS.imp (ps_fld (ha Z) (hv Z) hs) fun D τ H ⟨D3,σ,S,hs,hr,ht,hc⟩=>?_
  refine ⟨σ,S,_,hs,hr,ht,fun y S1 vy H1 k1 ry l1 q1=>⟨σ,S1,_,hs.mono k1,l1,q1,fun x S2 vx H2 k2 rx l2 ⟨a,fs,e1,e2,hl,q⟩=>?_⟩⟩
  subst e1
  cases rx
  obtain ⟨dx,ws,h1,h2⟩:=l2.obj a _ e2
  have k3:Kp Z.z H2 (upd H2 a (.ins C dx (putF f vy ws))):=Kp.at l2 e2
  refine ⟨a,C,dx,ws,rfl,h1,c,n,by rw [←FP.len h2];exact hl,hc.nx σ _ τ _ ((k1.trans k2).trans k3) (hs.mono ((k1.trans k2).trans k3)) (l2.put (o:=.ins C (putI f y fs)) k3 (l2.notZ e2) ⟨dx,_,zat,?_⟩) q⟩
  exact FP.put ((ry.mono k2).mono k3) (FP.mono k3 h2)
end
structure HasM (K:PySem.W.Frag) (C:Addr) (m q:Str) (st:Stmt) (ps:List Str):Prop where
  ex:∃f fd,Fun K m q st f fd∧Binds K fd ps []∧Meth K C m f
structure Met3 (P:Program) (w:World) (K:PySem.W.Frag) (mg:Str→Option Value) (base:Heap) (k:Nat) (C:Addr) (m:Str) (ps:List Str) (sp:Sp3):Prop where
  ex:∃f fd,FnOk P w K mg base (CX1 P w) k f fd ps (lSp K sp)∧Binds K fd ps []∧Meth K C m f
section
variable {P:Program} {w:World} {K:PySem.W.Frag} {mg:Str→Option Value} {base:Heap} {m q:Str} {C:Addr} {st:Stmt} {N ps:List Str} {k:Nat}
theorem Met3.mono {j k:Nat} {sp:Sp3} (M:Met3 P w K mg base j C m ps sp) (h:j≤k):Met3 P w K mg base k C m ps sp:=by
  obtain ⟨f,fd,F,r⟩:=M.ex
  exact ⟨f,fd,F.mono h,r⟩
theorem zc5 {f:Addr} {oc:Value} {od an:Option Addr} {osl:Array (Option Value)} {kV doc pm cdv ct:Value}
    (a:PySem.W.findIn K (.ref C) m=some (some (.ref f))) (i:PySem.W.isFn K (.ref f)=true) (l:K.lookup f=some ⟨oc,od,.func (PySem.W.fnOf m q (defArgs st) (defBody st) (defScope st) .none kV doc pm an cdv ct),osl⟩)
    (c:PySem.W.codeIn K cdv q=true) (k:PySem.W.keepIn K (.ref f)=true)
    (hb:∀(kV doc pm:Value) (an:Option Addr) (cdv ct:Value) (us:List Value),us.length=ps.length→bindArgs (PySem.W.fnOf m q (defArgs st) (defBody st) (defScope st) .none kV doc pm an cdv ct) ⟨us,[]⟩=pure (ps.zip us)):HasM K C m q st ps:=by
  have F:=zmh (st:=st) l c k
  exact ⟨f,_,F,F.binds hb,a,i,k⟩
theorem HasM.met3 {sp:Sp3} (h:HasM K C m q st ps) (S:FnScope N ps (defScope st)) (len:∀vs H Q E,sp vs H Q E→vs.length=ps.length)
    (hbody:∀(f:Addr) (cdv:Value) (A:Around) (outer:List Env) (s:Shared) (H:Hp) (E:XK) (ds:List D) (S:Hp3) (Q:K3) (E3:X3),Room k (A.deeper (envOfC q (defScope st) s.heap.objs.size f cdv))→sp ds S Q E3 →
      ∃t,PSs3 (cxOf (CX1 P w) P w K mg base N q (defScope st) f cdv A outer s H E).nox NoX (defBody st) t∧t {nx:=fun _ S'=>Q .non S',rt:=Q} (start3 N ds) S):Met3 P w K mg base (k+1) C m ps sp:=by
  obtain ⟨f,fd,F,b,mt⟩:=h.ex
  obtain ⟨oc,od,kV,doc,pm,an,cdv,ct,osl,rfl,lk,hcd⟩:=F.ex
  refine ⟨f,_,zn2 lk hcd S (fun vs H Q E z_1=>by obtain ⟨Z,ds,S,Q3,E3,h1,_,h3,_,_⟩:=z_1;rw [←h1.len];exact len _ _ _ _ h3) fun A outer s H vs Q E hr ⟨Z,ds,S3,Q3,E3,h1,h2,h3,h4,_⟩=>?_,b,mt⟩
  obtain ⟨t,ht,q⟩:=hbody f cdv A outer s H E ds S3 Q3 E3 hr h3
  refine ⟨_,(ht (zx0 Z H)).nox,_,start3 N ds,S3,?_,h2.into,q,⟨?_,?_,?_,?_⟩⟩
  · unfold start3 L2.start
    rw [h1.len]
    exact zbc (SR.ofRps h1) (SR.nones _)
  · intro σ S' τ H' kk _ l q'
    exact h4 .non S' .non H' (kk.unhide fun _ z=>z) .non (l.out h2 kk) q'
  · exact fun _ _ _ _ _ _ _ z=>z
  · exact fun _ _ _ _ _ _ _ z=>z
  · exact fun d S' v H' kk r l q'=>h4 d S' v H' (kk.unhide fun _ z=>z) r (l.out h2 kk) q'
end
section
variable {X:Cx} {CX:CXT} {k:Nat} {f C:Addr} {fd:FuncData} {ps:List Str} {sp:Sp} {E:L2.St→XK} {x m:Str} {p pos apos:Pos} {e o:Expr} {es:List Expr} {ta:TE} {t:TA}
theorem zll {pins:List (Addr×Obj)} {σ:L2.St} {H:Hp} {s:Shared} {Q:VK} {us:List Value} {vs:List V} (F:FnOk X.prog X.w X.K X.mg X.base CX k f fd ps sp) (hr:Room k X.A) (hb:Binds X.K fd ps []) (hx:∀τ,PassesAt CX X (E τ) τ)
    (I:Inv X pins σ H s) (r:Vals vs us) (h:sp vs H Q (E σ)):wpAny (model X.prog X.w) X.A (call (.ref f) us) (EP X pins σ Q) X.xe s:=by
  have hl:us.length=ps.length:=by rw [←r.length];exact F.len _ _ _ _ h
  have hb':=hb s us I.kIn (by rw [List.append_nil];exact hl)
  rw [List.append_nil] at hb'
  refine wpAny_call (codeAny_mono (F.run X.A X.stack s H ⟨us,[]⟩ us vs Q (E σ) hr I.env0 hb' r h) fun r s' hq=>?_)
  cases r with
  | error e=>exact hx σ pins H s e s' I hq
  | ok fl =>
    cases fl with
    | ret u=>exact I.after hq
    | next=>exact False.elim hq
    | brk=>exact False.elim hq
    | cont=>exact False.elim hq
theorem zni {pl:Sem Bool} (he:PE X o ta) (c:Cls X.K C) (hm:Meth X.K C m f) (F:FnOk X.prog X.w X.K X.mg X.base CX k f fd ps sp) (hr:Room k X.A) (hb:Binds X.K fd ps []) (hx:∀τ,PassesAt CX X (E τ) τ) (ha:PA X (e::es) t)
    (hst:starEach (e::es) X.env=(false,eval e X.env)::starEach es X.env) (hpl:(backTo pos (starEach es X.env)).any (·.1)=false)
    (ht:eval (.Call (.Attribute o m apos) (e::es) [] pos) X.env=(do
      let ov ←eval o X.env
      standAt apos.atName
      let (f,first) ←holding [ov] (getMethod ov m pl)
      callWith pos f first (backTo pos (starEach (e::es) X.env)) (backToKw pos (keywordEach [] X.env)))) :
    PE X (.Call (.Attribute o m apos) (e::es) [] pos) (fun τ H Q=>ta τ H fun x H1=>∃a dx fs,x=.ref a∧H1 a=some (.ins C dx fs)∧fs.lookup m=none∧t τ H1 fun vs H2=>sp (.ref a::vs) H2 Q (E τ)):=by
  intro pins s σ H Q I h
  refine PySem.W.methodCall_KW (pl:=pl) (thn (he pins s σ H _ I h) fun u s1 ⟨x,H1,I1,rx,a,dx,fs,ex,ea,l,q⟩=>?_) ht
  subst ex
  obtain rfl:u=Value.ref a:=rx
  refine zgl I1 ea c hm l ?_
  refine PySem.W.callWith_K (first:=[.ref a]) (h₀:=X.base) I.ok.mod.kin hm.kp (thn (ha pos pins s1 σ H1 _ I1 q) fun us s2 ⟨vs,H2,I2,r,q2⟩=>⟨I2.kIn,?_⟩) hst hpl
  exact zll (us:=.ref a::us) (vs:=.ref a::vs) F hr hb hx I2 (.cons rfl r) q2
theorem zlq {pl:Sem Bool} (he:PE X o ta) (c:Cls X.K C) (hm:Meth X.K C m f) (F:FnOk X.prog X.w X.K X.mg X.base CX k f fd ps sp) (hr:Room k X.A) (hb:Binds X.K fd ps []) (hx:∀τ,PassesAt CX X (E τ) τ)
    (ht:eval (.Call (.Attribute o m apos) [] [] pos) X.env=(do
      let ov ←eval o X.env
      standAt apos.atName
      let (f,first) ←holding [ov] (getMethod ov m pl)
      callWith pos f first (backTo pos (starEach [] X.env)) (backToKw pos (keywordEach [] X.env)))) :
    PE X (.Call (.Attribute o m apos) [] [] pos) (fun τ H Q=>ta τ H fun x H1=>∃a dx fs,x=.ref a∧H1 a=some (.ins C dx fs)∧fs.lookup m=none∧sp [.ref a] H1 Q (E τ)):=by
  intro pins s σ H Q I h
  refine PySem.W.methodCall_KW (pl:=pl) (thn (he pins s σ H _ I h) fun u s1 ⟨x,H1,I1,rx,a,dx,fs,ex,ea,l,q⟩=>?_) ht
  subst ex
  obtain rfl:u=Value.ref a:=rx
  refine zgl I1 ea c hm l ?_
  exact PySem.W.callWith_K0 (first:=[.ref a]) I1.kIn hm.kp (zll (us:=[.ref a]) (vs:=[.ref a]) F hr hb hx I1 (.cons rfl .nil) q)
theorem znj (M:Mk X.K C f) (F:FnOk X.prog X.w X.K X.mg X.base CX k f fd ps sp) (hr:Room (k+1) X.A) (hg:Gl X x) (hm:X.mg x=some (.ref C)) (hb:Binds X.K fd ps []) (hx:∀τ,PassesAt CX X (E τ) τ)
    (ha:PA X (e::es) t) (hdb:(x==("__debug__":Str))=false) (he:starEach (e::es) X.env=(false,eval e X.env)::starEach es X.env) (hpl:(backTo pos (starEach es X.env)).any (·.1)=false) :
    PE X (.Call (.Name x p) (e::es) [] pos) (fun τ H Q=>t τ H fun vs H1=>∀x dx,H1 x=none→H1 dx=none→dx≠x →
      sp (.ref x::vs) (upd (upd H1 dx (.own x)) x (.ins C dx [])) (fun v H2=>v=.non∧Q (.ref x) H2) (E τ)):=by
  intro pins s σ H Q I h
  refine wpAny_Call_Name_kw (zfl I hg hm ?_ hdb)
  refine PySem.W.callWith_K (h₀:=X.base) I.ok.mod.kin M.kp (thn (ha pos pins s σ H _ I h) fun us s1 ⟨vs,H1,I1,r,q⟩=>⟨I1.kIn,?_⟩) he hpl
  have hq:=q (s1.heap.objs.size+1) s1.heap.objs.size (I1.hok.fresh (Nat.le_succ _)) (I1.hok.fresh (Nat.le_refl _)) (Nat.ne_of_lt (Nat.lt_succ_self _))
  have I2:=Inv.made (C:=C) I1
  have r2:Vals (V.ref (s1.heap.objs.size+1)::vs) (Value.ref (s1.heap.objs.size+1)::us):=.cons rfl r
  have hl:(Value.ref (s1.heap.objs.size+1)::us).length=ps.length:=by
    have e:=r2.length
    rw [F.len _ _ _ _ hq] at e
    exact e.symm
  have hb':=hb _ (Value.ref (s1.heap.objs.size+1)::us) I2.kIn (by rw [List.append_nil];exact hl)
  rw [List.append_nil] at hb'
  refine wpAny_call (znw (f:=f) I1.kIn M.makes M.init (beq_iff_eq.mp M.fn) (codeAny_mono (F.run _ X.stack _ _ ⟨Value.ref (s1.heap.objs.size+1)::us,[]⟩ (Value.ref (s1.heap.objs.size+1)::us) _ _ (E σ) (hr.make C us [])
    (I2.env0.make C us []) hb' r2 hq) fun r s' hq'=>?_))
  cases r with
  | error e=>exact hx σ pins _ _ e s' I2 hq'
  | ok fl =>
    cases fl with
    | ret u =>
      obtain ⟨v,H',I3,rv,ev,q3⟩:=I2.after hq'
      subst ev
      exact ⟨rv,⟨V.ref (s1.heap.objs.size+1),H',I3,rfl,q3⟩⟩
    | next=>exact False.elim hq'
    | brk=>exact False.elim hq'
    | cont=>exact False.elim hq'
end
section
variable {X:Cx} {W3:W3T} {k:Nat} {C:Addr} {m y:Str} {ps:List Str} {sp:Sp3} {pos apos p:Pos} {o e:Expr} {es:List Expr} {ta:TE3} {t:TA3}
theorem zer {pl:Sem Bool} (M:Met3 X.prog X.w X.K X.mg X.base k C m ps sp) (c:Cls X.K C) (hr:Room k X.A) (he:PE3 X W3 o ta) (ha:PA3 X W3 (e::es) t)
    (hst:starEach (e::es) X.env=(false,eval e X.env)::starEach es X.env:=by rfl) (hpl:(backTo pos (starEach es X.env)).any (·.1)=false:=by rfl)
    (ht:eval (.Call (.Attribute o m apos) (e::es) [] pos) X.env=(do
      let ov ←eval o X.env
      standAt apos.atName
      let (f,first) ←holding [ov] (getMethod ov m pl)
      callWith pos f first (backTo pos (starEach (e::es) X.env)) (backToKw pos (keywordEach [] X.env))):=by rfl) :
    PE3 X W3 (.Call (.Attribute o m apos) (e::es) [] pos) (meth3 C m sp W3 ta t):=by
  obtain ⟨f,fd,F,b,mt⟩:=M.ex
  refine fun Z=>PE.imp (zni (he Z) c mt F hr b Z.pass (ha Z) hst hpl ht) fun τ H Q ⟨σ,S,Q3,hs,hl,ht,hc⟩=>?_
  refine ⟨σ,S,_,hs,hl,ht,fun d S1 v H1 k1 r1 l1 ⟨a,fs,e1,e2,e3,q⟩=>?_⟩
  subst e1
  cases r1
  obtain ⟨dx,ws,h1,h2⟩:=l1.obj a _ e2
  refine ⟨a,dx,ws,rfl,h1,FP.none h2 e3,σ,S1,_,hs.mono k1,l1,q,fun ds S2 vs H2 k2 r2 l2 q2=>?_⟩
  exact ⟨Z.z,.ref a::ds,S2,Q3,W3 σ,.cons (.ref a) r2,l2,q2,hc.mono (k1.trans k2),fun C' a' S3 H3 k3 l3 ha z=>Z.ce σ τ C' a' S3 H3 (hs.mono ((k1.trans k2).trans k3)) l3 ha z⟩
theorem zmj {pl:Sem Bool} (M:Met3 X.prog X.w X.K X.mg X.base k C m ps sp) (c:Cls X.K C) (hr:Room k X.A) (he:PE3 X W3 o ta)
    (ht:eval (.Call (.Attribute o m apos) [] [] pos) X.env=(do
      let ov ←eval o X.env
      standAt apos.atName
      let (f,first) ←holding [ov] (getMethod ov m pl)
      callWith pos f first (backTo pos (starEach [] X.env)) (backToKw pos (keywordEach [] X.env))):=by rfl) :
    PE3 X W3 (.Call (.Attribute o m apos) [] [] pos) (meth03 C m sp W3 ta):=by
  obtain ⟨f,fd,F,b,mt⟩:=M.ex
  refine fun Z=>PE.imp (zlq (he Z) c mt F hr b Z.pass ht) fun τ H Q ⟨σ,S,Q3,hs,hl,ht,hc⟩=>?_
  refine ⟨σ,S,_,hs,hl,ht,fun d S1 v H1 k1 r1 l1 ⟨a,fs,e1,e2,e3,q⟩=>?_⟩
  subst e1
  cases r1
  obtain ⟨dx,ws,h1,h2⟩:=l1.obj a _ e2
  exact ⟨a,dx,ws,rfl,h1,FP.none h2 e3,Z.z,[.ref a],S1,Q3,W3 σ,.cons (.ref a) .nil,l1,q,hc.mono k1,fun C' a' S3 H3 k3 l3 ha z=>Z.ce σ τ C' a' S3 H3 (hs.mono (k1.trans k3)) l3 ha z⟩
theorem e_make (M:Met3 X.prog X.w X.K X.mg X.base k C "__init__" ps sp) (mk:PySem.W.makesIn X.K C=true) (kp:PySem.W.keepIn X.K (.ref C)=true) (hr:Room (k+1) X.A) (hg:Gl X y) (hm:X.mg y=some (.ref C)) (ha:PA3 X W3 (e::es) t)
    (hdb:(y==("__debug__":Str))=false:=by decide) (he:starEach (e::es) X.env=(false,eval e X.env)::starEach es X.env:=by rfl) (hpl:(backTo pos (starEach es X.env)).any (·.1)=false:=by rfl) :
    PE3 X W3 (.Call (.Name y p) (e::es) [] pos) (make3 C sp W3 t):=by
  obtain ⟨f,fd,F,b,mt⟩:=M.ex
  refine fun Z=>PE.imp (znj ⟨mk,mt.at_,mt.fn,kp⟩ F hr hg hm b Z.pass (ha Z) hdb he hpl) fun τ H Q ⟨σ,S,Q3,hs,hl,ht,hc⟩=>?_
  refine ⟨σ,S,_,hs,hl,ht,fun ds S1 vs H1 k1 r1 l1 q1 x dx hx hd hne=>?_⟩
  have l2:Rl X.K Z.z S1 (upd H1 dx (.own x)):=l1.lay hd
  have k2:Kp Z.z H1 (upd H1 dx (.own x)):=Kp.new hd (l1.fresh hd).2
  have hx2:upd H1 dx (.own x) x=none:=by rw [zal (Ne.symm hne)];exact hx
  have k3:Kp Z.z (upd H1 dx (.own x)) (upd (upd H1 dx (.own x)) x (.ins C dx [])):=Kp.new hx2 (l2.fresh hx2).2
  refine ⟨Z.z,.ref x::ds,up S1 x (.ins C []),_,W3 σ,.cons (.ref x) ((r1.mono k2).mono k3),l2.put (o:=.ins C []) k3 (l2.fresh hx2).2 ⟨dx,[],zat,.nil⟩,q1 x (l1.fresh hx).1,?_,fun C' a' S3 H3 k4 l3 ha z=>Z.ce σ τ C' a' S3 H3 (hs.mono (((k1.trans k2).trans k3).trans k4)) l3 ha z⟩
  rintro d S2 v H2 k4 r2 l4 ⟨ed,q2⟩
  subst ed
  cases r2
  exact ⟨rfl,hc (.ref x) S2 _ H2 (((k1.trans k2).trans k3).trans k4) (.ref x) l4 q2⟩
end
section
variable {K:PySem.W.Frag} {S:Hp3} {Q:K3} {σ:St3} {f m:Str} {a C:Addr} {fs:List (Str×D)} {d y:D} {t ta tv:TE3} {W3:W3T} {sp:Sp3}
theorem j_fld (q:t σ S fun x S1=>fldR C f x S1 Q):fld3 C t f σ S Q:=q
theorem j_fldR (hS:S a=some (.ins C fs)) (hl:fs.lookup f=some d) (q:Q d S):fldR C f (.ref a) S Q:=⟨a,fs,d,rfl,hS,hl,q⟩
theorem j_meth {t:TA3} (q:ta σ S fun x S1=>methR C m (fun a=>t σ S1 fun ds S2=>sp (.ref a::ds) S2 Q (W3 σ)) x S1):meth3 C m sp W3 ta t σ S Q:=q
theorem j_meth0 (q:ta σ S fun x S1=>methR C m (fun a=>sp [.ref a] S1 Q (W3 σ)) x S1):meth03 C m sp W3 ta σ S Q:=q
theorem j_make {t:TA3} (q:t σ S fun ds S1=>∀a,S1 a=none→sp (.ref a::ds) (up S1 a (.ins C [])) (fun d S2=>d=.non∧Q (.ref a) S2) (W3 σ)):make3 C sp W3 t σ S Q:=q
theorem j_sfld {n b c:St3→Hp3→Prop} {rt:K3} (q:tv σ S fun y S1=>ta σ S1 fun x S2=>putR C f x y S2 (n σ)):sfld3 C ta tv f ⟨n,rt,b,c⟩ σ S:=q
theorem j_putR {q:Hp3→Prop} (hS:S a=some (.ins C fs)) (hl:fs.length<1000) (h:q (up S a (.ins C (putI f y fs)))):putR C f (.ref a) y S q:=⟨a,fs,rfl,hS,hl,h⟩
end
end E3
namespace EE
open PySem PySem.Spec PyProof.Rows L2
theorem zfw {M:Model} {A:Around} {E:Value→Shared→Prop} {s:Shared} {β:Type} {b:Nat} (f:Nat→β→Sem (ForInStep β)) (I:Nat→β→Shared→Prop) (Q:β→Shared→Prop)
    (turn:∀i c s,i<b→I i c s→wpAny M A (f i c) (fun r s'=>match r with | .yield c'=>I (i+1) c' s' | .done c'=>Q c' s') E s)
    (fin:∀c s,I b c s→Q c s) (c:β) (h:I 0 c s):wpAny M A (forIn [0:b] c f) Q E s:=by
  rw [Std.Legacy.Range.forIn_eq_forIn_range']
  have hsz:([0:b]:Std.Legacy.Range).size=b:=by simp [Std.Legacy.Range.size]
  show wpAny M A (forIn (List.range' 0 ([0:b]:Std.Legacy.Range).size 1) c f) Q E s
  rw [hsz]
  refine wpAny_forIn_list f (fun l c s=>∃i,i≤b∧l=List.range' i (b-i) 1∧I i c s) Q ?_ ?_ _ c ⟨0,Nat.zero_le _,rfl,h⟩
  · rintro x rest c s ⟨i,hib,hl,hI⟩
    have hlt:i<b:=by
      rcases Nat.lt_or_ge i b with h'|h'
      · exact h'
      · rw [show b-i=0 by omega] at hl;simp at hl
    obtain ⟨n,hn⟩:∃n,b-i=n+1:=⟨b-i-1,by omega⟩
    rw [hn,List.range'_succ] at hl
    obtain ⟨rfl,rfl⟩:=List.cons.inj hl
    refine wpAny_mono (turn x c s hlt hI) (fun r s' h'=>?_) fun _ _ e=>e
    cases r with
    | done c'=>exact h'
    | yield c'=>exact ⟨x+1,by omega,by congr 1;omega,h'⟩
  · rintro c s ⟨i,hib,hl,hI⟩
    have:i=b:=by
      rcases Nat.lt_or_ge i b with h'|h'
      · obtain ⟨n,hn⟩:∃n,b-i=n+1:=⟨b-i-1,by omega⟩
        rw [hn,List.range'_succ] at hl
        cases hl
      · omega
    subst this
    exact fin c s hI
theorem zfx (l:Addr) (items:Array Value) (n:Nat) (dd:Option Addr) (sl:Array (Option Value)) (x:Value) (e:Value→Bool) (he:∀y,y∈items→MeetsSeq.EqGives y x (e y)) (j:Nat) (hj:j<items.size)
    (hit:e items[j]=true) (hno:∀m (hm:m<items.size),m<j→e items[m]=false) :
    Meets (Builtin.«tuple.index» ⟨[.ref l,x],[]⟩)
      (fun _ R s=>s.heap.get? l=some {cls:=.type "tuple",dict:=dd,data:=.seq items n,slots:=sl}∧R (.ok (.ret (.int j s.toks))) {s with toks:=s.toks+1}) :=
  .of_wp fun prog w A R s h=>by
    obtain ⟨hp,g,d,tk,os⟩:=s
    obtain ⟨hl,h⟩:=h
    have f1:=PySem.AutoSeq1.sub_tuple_tuple
    wp_walk using PySem.AutoSeq1.wpAny_loadPart' hl,zfw _ (fun i b s'=>b.1=none∧i≤j∧s'=⟨hp,g,d,tk,os⟩) _
    case turn =>
      rintro i b s' hi ⟨hb,hij,rfl⟩
      have hi:i<items.size:=by omega
      rw [Array.getElem?_eq_getElem hi]
      refine wpAny_bind (he _ (Array.getElem_mem hi) prog w _ _ _ _ ?_)
      by_cases hq:i=j
      · subst hq
        rw [hit]
        wp_walk
        exact ⟨_,rfl,h⟩
      · rw [hno i hi (by omega)]
        wp_walk
        exact ⟨rfl,by omega,rfl⟩
    case fin =>
      rintro ⟨b1,b2⟩ s' ⟨hb,hij,rfl⟩
      omega
    case h =>
      exact ⟨rfl,Nat.zero_le _,rfl⟩
theorem ze3:∀{ys:List Str} {us:List Value},Vals (ys.map V.str) us→∀(i:Nat) (y:Str),ys[i]?=some y→∃t,us[i]?=some (.str y t)
  | [],_,_,_,_,e=>by simp at e
  | z::ys,_,.cons r t,0,y,e=>by
    obtain ⟨tk,rfl⟩:=r
    simp at e
    subst e
    exact ⟨tk,rfl⟩
  | z::ys,_,.cons r t,i+1,y,e=>ze3 t i y (by simpa using e)
noncomputable def isK (k:Str):Value→Bool
  | .str z _=>z==k
  | _=>false
section
variable {X:Cx}
def rIndexT (K:PySem.W.Frag):V→List V→Hp→VK→Prop:=fun x vs H Q=>∃(a:Addr) (ys:List Str) (k:Str) (j:Nat),x=.ref a∧vs=[.str k]∧SqT K H a (ys.map V.str)∧ys[j]?=some k∧k∉ys.take j∧Q (.int j) H
theorem zl1:MtR X "tuple.index" (rIndexT X.K):=by
  intro pins s σ H x vs v us Q I rx rv h
  obtain ⟨a,ys,k,j,rfl,rfl,hq,hj,hno,q⟩:=h
  cases rx
  obtain ⟨u,rfl,t,rfl⟩:=vals1 rv
  obtain ⟨its,r,⟨o,e2,hc,m,hd⟩,hz⟩:=I.tuple hq
  obtain ⟨oc,od,odt,osl⟩:=o
  obtain rfl:oc=.type "tuple":=hc
  obtain rfl:odt=.seq its.toArray m:=hd
  have hlen:its.length=ys.length:=by rw [←r.length,List.length_map]
  have hjl:j<ys.length:=(List.getElem?_eq_some_iff.mp hj).1
  have at_:∀(i:Nat) (hi:i<its.toArray.size),∃z t,ys[i]?=some z∧its.toArray[i]=.str z t:=fun i hi=>by
    have hi':i<its.length:=by simpa using hi
    have hiy:i<ys.length:=by omega
    obtain ⟨t,e⟩:=ze3 r i _ (List.getElem?_eq_getElem hiy)
    refine ⟨_,t,List.getElem?_eq_getElem hiy,?_⟩
    rw [List.getElem?_eq_getElem hi'] at e
    simpa using e
  have hjs:j<its.toArray.size:=by rw [List.size_toArray];omega
  refine call_meets F.slot_tuple_index ⟨_,e2,rfl⟩ F.entry_tuple_index (F.args_tuple_index_2 _ _) (zfx a its.toArray m od osl (.str k t) (isK k) (fun y hy=>?_) j hjs ?_ fun i hi hij=>?_) ⟨e2,⟨.int j,H,I.tok _,⟨_,rfl⟩,q⟩⟩
  · obtain ⟨i,hi,rfl⟩:=Array.getElem_of_mem hy
    obtain ⟨z,t',_,e⟩:=at_ i hi
    rw [e]
    exact eqGives_str z k t' t
  · obtain ⟨z,t',e1,e⟩:=at_ j hjs
    rw [hj] at e1
    cases e1
    rw [e]
    exact beq_self_eq_true k
  · obtain ⟨z,t',e1,e⟩:=at_ i hi
    rw [e]
    refine beq_eq_false_iff_ne.mpr fun hzk=>hno ?_
    subst hzk
    exact List.mem_iff_getElem?.mpr ⟨i,by rw [List.getElem?_take_of_lt hij];exact e1⟩
theorem tupD {pins:List (Addr×Obj)} {σ:L2.St} {H:Hp} {s:Shared} {a:Addr} {xs:List V} (I:Inv X pins σ H s) (h:SqT X.K H a xs):∃o,s.heap.get? a=some o∧o.cls=.type "tuple"∧o.dict=none:=by
  rcases h with h|⟨o,its,n,hk,hc,hd,hs,hz,r⟩
  · obtain ⟨z,its,r,⟨o,e,c,_⟩,nd⟩:=h.ok I.hok
    exact ⟨o,e,c,nd o e⟩
  · exact ⟨o,I.kIn a o hk,hc,hd⟩
theorem pe_bmT {o e:Expr} {es:List Expr} {to:TE} {t:TA} {name:Str} {apos cpos:Pos} {id:String} {r:V→List V→Hp→VK→Prop} (slot:Slot "tuple" name id) (hty:typeOf (.builtin id)=pure (.type "method_descriptor")) (hm:MtR X id r) (ho:PE X o to) (ha:PA X (e::es) t)
    (hbase:attributeBase o name X.env (eval o X.env)=eval o X.env)
    (hfew:((backTo cpos (starEach (e::es) X.env)).all (fun x=>!x.1)&&(backToKw cpos (keywordEach [] X.env)).all (fun x=>x.1.isSome)
      && decide ((e::es).length+([]:List Keyword).length+(if ([]:List Keyword).isEmpty then 0 else 1)<30))=true)
    (hline:(apos.endLine==cpos.line)=true) (hs:starEach (e::es) X.env=(false,eval e X.env)::starEach es X.env) (hplain:(backTo cpos (starEach es X.env)).any (·.1)=false) :
    PE X (.Call (.Attribute o name apos) (e::es) [] cpos) (fun σ H Q=>to σ H fun x H1=>∃p zs,x=.ref p∧SqT X.K H1 p zs∧t σ H1 fun xs H2=>r x xs H2 Q):=by
  intro pins s σ H Q I h
  refine wpAny_Call_method_late hbase hfew hline rfl (thn (ho pins s σ H _ I h) fun v s1 ⟨x,H1,I1,r1,p,zs,ex,hq,q1⟩=>?_)
  subst ex
  cases (show v=Value.ref p from r1)
  obtain ⟨ob,e1,e2,e3⟩:=tupD I1 hq
  refine ⟨"tuple",id,PySem.F.plainAttrs_tuple,slot,hty,⟨ob,e1,e2⟩,fun a z=>by cases z;exact ⟨ob,e1,e3⟩,?_⟩
  have hA:=ha cpos pins s1 σ H1 _ I1 q1
  rw [hs] at hA ⊢
  refine Calls.callWith_builtin (by show (false||(backTo cpos (starEach es X.env)).any (·.1))=false;rw [hplain]<;>rfl) (Calls.evalArgs_plain ?_)
  exact thn hA fun us s2 z_1=>by obtain ⟨vs,H2,I2,r2,q2⟩:=z_1;exact hm pins s2 σ H2 _ vs _ us Q I2 r1 r2 q2
end
end EE
namespace E3
open PySem PySem.Spec PyProof.Rows L2 EE
section
variable {K:PySem.W.Frag} {S:Hp3} {Q:K3}
def indexT3:D→List D→Hp3→K3→Prop:=fun x ys S Q=>∃(zs:List Str) (k:Str) (j:Nat),ys=[.str k]∧x=.tup (zs.map D.str)∧zs[j]?=some k∧k∉zs.take j∧Q (.int j) S
theorem zmn:DnM K indexT3 (rIndexT K):=by
  intro Z x ys S Q3 v vs H Q rx r l h c
  obtain ⟨zs,k,j,rfl,rfl,h1,h2,q⟩:=h
  cases rx with
  | tup h3 h4 =>
    cases r with
    | cons r rr =>
      cases rr
      cases r
      rw [Rps.strs h4] at h3
      exact ⟨_,zs,k,j,rfl,rfl,h3,h1,h2,c _ S _ H (Kp.refl _ _) (.int _) l q⟩
def bmT3 (r:D→List D→Hp3→K3→Prop) (to:TE3) (t:TA3):TE3:=fun σ S Q=>to σ S fun x S1=>∃ds,x=.tup ds∧t σ S1 fun xs S2=>r x xs S2 Q
theorem e_bmT {X:Cx} {W3:W3T} {o e:Expr} {es:List Expr} {to:TE3} {t:TA3} {name:Str} {apos cpos:Pos} {id:String} {m3:D→List D→Hp3→K3→Prop} {m:V→List V→Hp→VK→Prop} (slot:Slot "tuple" name id) (hty:typeOf (.builtin id)=pure (.type "method_descriptor")) (hm:MtR X id m) (hd:DnM X.K m3 m) (ho:PE3 X W3 o to) (ha:PA3 X W3 (e::es) t)
    (hbase:attributeBase o name X.env (eval o X.env)=eval o X.env:=by rfl)
    (hfew:((backTo cpos (starEach (e::es) X.env)).all (fun x=>!x.1)&&(backToKw cpos (keywordEach [] X.env)).all (fun x=>x.1.isSome)
      && decide ((e::es).length+([]:List Keyword).length+(if ([]:List Keyword).isEmpty then 0 else 1)<30))=true:=by rfl)
    (hline:(apos.endLine==cpos.line)=true:=by rfl) (hs:starEach (e::es) X.env=(false,eval e X.env)::starEach es X.env:=by rfl) (hplain:(backTo cpos (starEach es X.env)).any (·.1)=false:=by rfl) :
    PE3 X W3 (.Call (.Attribute o name apos) (e::es) [] cpos) (bmT3 m3 to t) :=
  fun Z=>PE.imp (pe_bmT slot hty hm (ho Z) (ha Z) hbase hfew hline hs hplain) fun τ H Q z_2=>by
    obtain ⟨σ,S,Q3,hs,hr,ht,hc⟩:=z_2
    refine ⟨σ,S,_,hs,hr,ht,fun x S1 v H1 k1 r1 l1 ⟨ds,ex,q⟩=>?_⟩
    subst ex
    cases r1 with
    | tup h1 h2=>exact ⟨_,_,rfl,h1,σ,S1,_,hs.mono k1,l1,q,fun ds S2 vs H2 k2 r2 l2 q2=>hd Z.z _ ds S2 Q3 _ vs H2 Q (.tup (k2.sqT h1) (h2.mono k2)) r2 l2 q2 (hc.mono (k1.trans k2))⟩
theorem j_bmT {r:D→List D→Hp3→K3→Prop} {to:TE3} {t:TA3} {σ:St3} (h:to σ S fun x S1=>∃ds,x=.tup ds∧t σ S1 fun xs S2=>r x xs S2 Q):bmT3 r to t σ S Q:=h
theorem j_indexT {zs:List Str} {k:Str} {j:Nat} (h1:zs[j]?=some k) (h2:k∉zs.take j) (q:Q (.int j) S):indexT3 (.tup (zs.map D.str)) [.str k] S Q:=⟨zs,k,j,rfl,rfl,h1,h2,q⟩
end
end E3
namespace E3
open PySem PySem.Spec PyProof.Rows L2 EE
section
variable {σ:St3} {S:Hp3} {Q:K3} {QT:Bool→Hp3→Prop} {QA:List D→Hp3→Prop} {ta tb te:TE3} {tA:TT3} {t u u':TS3} {al:TA3} {r:R3} {n b c:St3→Hp3→Prop} {rt:K3} {i i' i'':Nat} {d e d2 d3:D} {D3:Ends3} {sp:Sp3} {W3:W3T} {f:List D→Hp3→K3→Prop} {ds:List D} {k:Int} {a:Addr}
theorem j_qset (h:te σ S fun x S1=>u D3 (σ.set i (some x)) S1):seq3 (set3 i te) u D3 σ S:=h
theorem j_qdrop (h:te σ S fun _ S1=>u D3 σ S1):seq3 (drop3 te) u D3 σ S:=h
theorem j_qifs (h:tA σ S fun b' S1=>if b'=true then t ⟨u' ⟨n,rt,b,c⟩,rt,b,c⟩ σ S1 else u ⟨u' ⟨n,rt,b,c⟩,rt,b,c⟩ σ S1):seq3 (ifs3 tA t u) u' ⟨n,rt,b,c⟩ σ S:=h
theorem j_ixTv (h:σ[i]?=some (some (.tup ds))) (hd:atI ds k=some d) (q:Q d S):o3 ixT3 (v3 i) (c3 (.int k)) σ S Q:=⟨_,h,ds,k,d,rfl,rfl,hd,q⟩
theorem j_tixS {x z:Str} (h:σ[i]?=some (some (.tup ds))) (hx:atI ds k=some (.str x)) (q:QT (decide (x=z)) S):test3 (o3 eqS3 (o3 ixT3 (v3 i) (c3 (.int k))) (c3 (.str z))) σ S QT:=⟨_,h,ds,k,_,rfl,rfl,hx,x,z,rfl,rfl,_,rfl,q⟩
theorem j_tovc (h:σ[i]?=some (some d)) (q:r d e S fun z S'=>∃k,z=.bl k∧QT k S'):test3 (o3 r (v3 i) (c3 e)) σ S QT:=⟨d,h,q⟩
theorem j_tovv (h:σ[i]?=some (some d)) (h':σ[i']?=some (some e)) (q:r d e S fun z S'=>∃k,z=.bl k∧QT k S'):test3 (o3 r (v3 i) (v3 i')) σ S QT:=⟨d,h,e,h',q⟩
theorem j_txc (q:ta σ S fun x S1=>r x e S1 fun z S'=>∃k,z=.bl k∧QT k S'):test3 (o3 r ta (c3 e)) σ S QT:=q
theorem j_txo (q:ta σ S fun x S1=>tb σ S1 fun y S2=>r x y S2 fun z S'=>∃k,z=.bl k∧QT k S'):test3 (o3 r ta tb) σ S QT:=q
theorem j_ovc (h:σ[i]?=some (some d)) (q:r d e S Q):o3 r (v3 i) (c3 e) σ S Q:=⟨d,h,q⟩
theorem j_ovv (h:σ[i]?=some (some d)) (h':σ[i']?=some (some e)) (q:r d e S Q):o3 r (v3 i) (v3 i') σ S Q:=⟨d,h,e,h',q⟩
theorem j_ov (h:σ[i]?=some (some d)) (q:tb σ S fun y S2=>r d y S2 Q):o3 r (v3 i) tb σ S Q:=⟨d,h,q⟩
theorem j_oc (q:tb σ S fun y S2=>r d y S2 Q):o3 r (c3 d) tb σ S Q:=q
theorem j_xc (q:ta σ S fun x S1=>r x e S1 Q):o3 r ta (c3 e) σ S Q:=q
theorem j_kv1 (h:σ[i]?=some (some d)) (q:f [d] S Q):cb3 f (cons3 (v3 i) nil3) σ S Q:=⟨d,h,q⟩
theorem j_ke1 (q:te σ S fun x S1=>f [x] S1 Q):cb3 f (cons3 te nil3) σ S Q:=q
theorem j_fv1 (h:σ[i]?=some (some d)) (q:sp [d] S Q (W3 σ)):call3 sp W3 (cons3 (v3 i) nil3) σ S Q:=⟨d,h,q⟩
theorem j_fe1 (q:te σ S fun x S1=>sp [x] S1 Q (W3 σ)):call3 sp W3 (cons3 te nil3) σ S Q:=q
theorem j_fv2 (h:σ[i]?=some (some d)) (h2:σ[i']?=some (some d2)) (q:sp [d,d2] S Q (W3 σ)):call3 sp W3 (cons3 (v3 i) (cons3 (v3 i') nil3)) σ S Q:=⟨d,h,d2,h2,q⟩
theorem j_cvn (h:σ[i]?=some (some d)) (q:QA [d] S):cons3 (v3 i) nil3 σ S QA:=⟨d,h,q⟩
theorem j_cv (h:σ[i]?=some (some d)) (q:al σ S fun xs S2=>QA (d::xs) S2):cons3 (v3 i) al σ S QA:=⟨d,h,q⟩
theorem j_ccn (q:QA [d] S):cons3 (c3 d) nil3 σ S QA:=q
theorem j_cc (q:al σ S fun xs S2=>QA (d::xs) S2):cons3 (c3 d) al σ S QA:=q
theorem j_cen (q:te σ S fun x S1=>QA [x] S1):cons3 te nil3 σ S QA:=q
end
end E3
namespace EE
open PySem PySem.Spec PyProof.Rows L2
end EE
namespace E3
open PySem PySem.Spec PyProof.Rows L2 EE
end E3
namespace EE
open PySem PySem.Spec PyProof.Rows L2
end EE
namespace E3
open PySem PySem.Spec PyProof.Rows L2 EE
end E3
set_option maxHeartbeats 4000000
namespace LW
open PySem PySem.Spec PyProof.Rows L2 EE E3
section
variable {CR:Addr}
noncomputable abbrev runFs (pa bo:Addr) (mo:Int) (be pe wa:Addr) (en:D):List (Str×D) :=
  [("params",.ref pa),("bodies",.ref bo),("most",.int mo),("begun",.ref be),("pending",.ref pe),("waiting",.ref wa),("ending",en)]
structure Ra where
  pa:Addr
  bo:Addr
  be:Addr
  pe:Addr
  wa:Addr
structure Rn where
  pa:List (Key×D)
  bo:List (Key×D)
  mo:Int
  be:List D
  pe:List D
  wa:List D
  en:D
structure RS (CR:Addr) (S0 S:Hp3) (a:Addr) (A:Ra) (r:Rn):Prop where
  self:S a=some (.ins CR (runFs A.pa A.bo r.mo A.be A.pe A.wa r.en))
  pa:S A.pa=some (.dic r.pa)
  bo:S A.bo=some (.dic r.bo)
  be:S A.be=some (.lst r.be)
  pe:S A.pe=some (.lst r.pe)
  wa:S A.wa=some (.lst r.wa)
  n1:A.be≠A.pe
  n2:A.be≠A.wa
  n3:A.pe≠A.wa
  sub:Sub S0 S
  fa:S0 a=none
  f1:S0 A.be=none
  f2:S0 A.pe=none
  f3:S0 A.wa=none
theorem neO {S:Hp3} {a b:Addr} {o u:O} (h:S a=some o) (h':S b=some u) (n:o≠u):a≠b:=fun e=>n (by rw [e,h'] at h;cases h;rfl)
theorem za7 {S:Hp3} {a b:Addr} {o u:O} (h:S b=some u) (n:b≠a):up S a o b=some u:=(zbm n).trans h
section
variable {S0 S:Hp3} {a:Addr} {A:Ra} {r:Rn}
theorem RS.putPe (h:RS CR S0 S a A r) (xs:List D):RS CR S0 (up S A.pe (.lst xs)) a A {r with pe:=xs} :=
  ⟨za7 h.self (neO h.self h.pe (fun z=>nomatch z)),za7 h.pa (neO h.pa h.pe (fun z=>nomatch z)),za7 h.bo (neO h.bo h.pe (fun z=>nomatch z)),za7 h.be h.n1,zab,za7 h.wa (Ne.symm h.n3),h.n1,h.n2,h.n3,h.sub.at h.f2,h.fa,h.f1,h.f2,h.f3⟩
theorem RS.putBe (h:RS CR S0 S a A r) (xs:List D):RS CR S0 (up S A.be (.lst xs)) a A {r with be:=xs} :=
  ⟨za7 h.self (neO h.self h.be (fun z=>nomatch z)),za7 h.pa (neO h.pa h.be (fun z=>nomatch z)),za7 h.bo (neO h.bo h.be (fun z=>nomatch z)),zab,za7 h.pe (Ne.symm h.n1),za7 h.wa (Ne.symm h.n2),h.n1,h.n2,h.n3,h.sub.at h.f1,h.fa,h.f1,h.f2,h.f3⟩
theorem RS.putWa (h:RS CR S0 S a A r) (xs:List D):RS CR S0 (up S A.wa (.lst xs)) a A {r with wa:=xs} :=
  ⟨za7 h.self (neO h.self h.wa (fun z=>nomatch z)),za7 h.pa (neO h.pa h.wa (fun z=>nomatch z)),za7 h.bo (neO h.bo h.wa (fun z=>nomatch z)),za7 h.be h.n2,za7 h.pe h.n3,zab,h.n1,h.n2,h.n3,h.sub.at h.f3,h.fa,h.f1,h.f2,h.f3⟩
theorem RS.lay (h:RS CR S0 S a A r) {p:Addr} {o:O} (hp:S p=none):RS CR S0 (up S p o) a A r :=
  ⟨zag h.self hp,zag h.pa hp,zag h.bo hp,zag h.be hp,zag h.pe hp,zag h.wa hp,h.n1,h.n2,h.n3,h.sub.up hp,h.fa,h.f1,h.f2,h.f3⟩
theorem put_en {pa bo be pe wa:Addr} {mo:Int} {en d:D}:putI "ending" d (runFs pa bo mo be pe wa en)=runFs pa bo mo be pe wa d:=by
  simp only [putI,runFs]
  rfl
theorem put_wa {pa bo be pe wa wa':Addr} {mo:Int} {en:D}:putI "waiting" (.ref wa') (runFs pa bo mo be pe wa en)=runFs pa bo mo be pe wa' en:=by
  simp only [putI,runFs]
  rfl
theorem RS.putEn (h:RS CR S0 S a A r) (d:D):RS CR S0 (up S a (.ins CR (putI "ending" d (runFs A.pa A.bo r.mo A.be A.pe A.wa r.en)))) a A {r with en:=d}:=by
  rw [put_en]
  exact ⟨zab,za7 h.pa (neO h.pa h.self (fun z=>nomatch z)),za7 h.bo (neO h.bo h.self (fun z=>nomatch z)),za7 h.be (neO h.be h.self (fun z=>nomatch z)),za7 h.pe (neO h.pe h.self (fun z=>nomatch z)),za7 h.wa (neO h.wa h.self (fun z=>nomatch z)),h.n1,h.n2,h.n3,h.sub.at h.fa,h.fa,h.f1,h.f2,h.f3⟩
theorem RS.newWa (h:RS CR S0 S a A r) {p:Addr} {xs:List D} (hp:S p=some (.lst xs)) (h1:A.be≠p) (h2:A.pe≠p) (h3:S0 p=none):RS CR S0 (up S a (.ins CR (putI "waiting" (.ref p) (runFs A.pa A.bo r.mo A.be A.pe A.wa r.en)))) a {A with wa:=p} {r with wa:=xs}:=by
  rw [put_wa]
  exact ⟨zab,za7 h.pa (neO h.pa h.self (fun z=>nomatch z)),za7 h.bo (neO h.bo h.self (fun z=>nomatch z)),za7 h.be (neO h.be h.self (fun z=>nomatch z)),za7 h.pe (neO h.pe h.self (fun z=>nomatch z)),za7 hp (neO hp h.self (fun z=>nomatch z)),h.n1,h1,h2,h.sub.at h.fa,h.fa,h.f1,h.f2,h3⟩
variable {Q:K3}
theorem j_Rpa (h:RS CR S0 S a A r) (q:Q (.ref A.pa) S):fldR CR "params" (.ref a) S Q:=j_fldR h.self rfl q
theorem j_Rbo (h:RS CR S0 S a A r) (q:Q (.ref A.bo) S):fldR CR "bodies" (.ref a) S Q:=j_fldR h.self rfl q
theorem j_Rmo (h:RS CR S0 S a A r) (q:Q (.int r.mo) S):fldR CR "most" (.ref a) S Q:=j_fldR h.self rfl q
theorem j_Rbe (h:RS CR S0 S a A r) (q:Q (.ref A.be) S):fldR CR "begun" (.ref a) S Q:=j_fldR h.self rfl q
theorem j_Rpe (h:RS CR S0 S a A r) (q:Q (.ref A.pe) S):fldR CR "pending" (.ref a) S Q:=j_fldR h.self rfl q
theorem j_Rwa (h:RS CR S0 S a A r) (q:Q (.ref A.wa) S):fldR CR "waiting" (.ref a) S Q:=j_fldR h.self rfl q
theorem j_Ren (h:RS CR S0 S a A r) (q:Q (r.en) S):fldR CR "ending" (.ref a) S Q:=j_fldR h.self rfl q
theorem j_RputEn {n:Hp3→Prop} {d:D} (h:RS CR S0 S a A r) (q:n (up S a (.ins CR (putI "ending" d (runFs A.pa A.bo r.mo A.be A.pe A.wa r.en))))):putR CR "ending" (.ref a) d S n:=j_putR h.self (show 7<1000 by decide) q
theorem j_RputWa {n:Hp3→Prop} {d:D} (h:RS CR S0 S a A r) (q:n (up S a (.ins CR (putI "waiting" d (runFs A.pa A.bo r.mo A.be A.pe A.wa r.en))))):putR CR "waiting" (.ref a) d S n:=j_putR h.self (show 7<1000 by decide) q
theorem j_Rm {m:Str} {k:Addr→Prop} (h:RS CR S0 S a A r) (hm:∀pa bo mo be pe wa en,(runFs pa bo mo be pe wa en).lookup m=none) (q:k a):methR CR m k (.ref a) S:=⟨a,_,rfl,h.self,hm _ _ _ _ _ _ _,q⟩
end
end
local macro_rules|`(tactic| nofun)=>do let w:=fun (s:String)=>(s.splitOn " ").toArray.map fun x=>Lean.mkIdent (.mkStr (.mkSimple "E3") x);let at_ ← `(tactic| (first|exact rfl|exact atI_0|exact atI_1|exact atI_2|exact atI_3));let v0 ←(w "j_tovc j_ovc j_kv1 j_fv1 j_cvn").mapM fun n=>`(Lean.Parser.Tactic.tacticSeq| apply $n);let v1 ←(w "j_tovv j_ovv j_fv2").mapM fun n=>`(Lean.Parser.Tactic.tacticSeq| apply $n);let v2 ←(w "j_ov j_cv j_v").mapM fun n=>`(Lean.Parser.Tactic.tacticSeq| apply $n);let a1 ←(w "j_qset j_qdrop j_qifs j_txc j_txo j_oc j_xc j_ke1 j_fe1 j_ccn j_cc j_cen j_seq j_set j_c j_o j_i3 j_cons j_nil j_ifs j_test j_eb j_ei j_ret j_drop j_next j_asg j_name j_eqI j_neI j_eqS j_neS j_isN j_notN j_and j_not j_ifx j_truth j_tup j_lst j_cb j_call j_bm j_bm0 j_lenT j_lenR j_sl j_nopart j_part j_slT j_comp j_compS j_iRevL j_for j_iList j_iTup j_eT j_iRev j_eS j_iR1 j_iT j_iRv j_notin j_notinT j_raise j_fmt j_fcons j_try j_dnew j_dget j_dput j_setL j_fld j_sfld j_meth j_meth0 j_make j_bmT").mapM fun n=>`(Lean.Parser.Tactic.tacticSeq| apply $n);let a2 ←(w "j_truL j_tyL j_lenL j_toListL j_toTupL j_slL j_revL j_inL j_iL j_notinD").mapM fun n=>`(Lean.Parser.Tactic.tacticSeq| refine $n (by assumption) ?_);let a3 ←(w "j_truL j_tyL j_lenL j_toTupL j_slL j_revL j_iL").mapM fun n=>`(Lean.Parser.Tactic.tacticSeq| refine $n zab ?_);let al:=a1++a2++a3;`(tactic| repeat (first|((with_reducible apply j_tixS);(exact rfl);$at_)|((with_reducible apply j_ixTv);(exact rfl);$at_)|((with_reducible first $[| $v0]*);(exact rfl))|((with_reducible first $[| $v1]*);(exact rfl);(exact rfl))|((with_reducible first $[| $v2]*);(exact rfl))|(with_reducible first $[| $al]*)|(with_reducible first|refine iteD rfl ?_|refine iteNS rfl ?_|refine iteT ?_|refine iteF ?_|refine iteD (by assumption) ?_|refine iteDN (by assumption) ?_|refine iteN (by assumption) ?_|refine iteNS (by assumption) ?_|refine j_Rpa (by assumption) ?_|refine j_Rbo (by assumption) ?_|refine j_Rmo (by assumption) ?_|refine j_Rbe (by assumption) ?_|refine j_Rpe (by assumption) ?_|refine j_Rwa (by assumption) ?_|refine j_Ren (by assumption) ?_)|((with_reducible refine j_mod ?_ ?_);(first|decide|omega))|((with_reducible refine j_div ?_ ?_);(first|exact ⟨by decide,by decide⟩|omega))|((with_reducible refine j_pow ?_ ?_);exact ⟨by decide,by decide,by decide⟩)|((with_reducible refine j_mul ?_ ?_);(first|exact .inl ⟨by decide,by decide⟩|exact .inr ⟨by decide,by decide⟩))|((with_reducible refine j_sz ?_ ?_);exact zbg (Nat.le_of_ble_eq_true rfl))|((with_reducible apply j_ixT);$at_)|((with_reducible apply j_ixL (by assumption));$at_)|((with_reducible apply j_ixL zab);$at_)|((with_reducible apply j_ixR);exact rfl)|((with_reducible apply j_aug);exact rfl)|((with_reducible refine j_catE ?_ ?_);exact zbg (Nat.le_of_ble_eq_true rfl))|((with_reducible refine j_inT ?_ ?_ ?_);(exact rfl);(exact rfl))|((with_reducible apply j_esL (by assumption));(first|exact rfl|exact ixN_0|exact ixN_1))|((with_reducible apply j_esL zab);(first|exact rfl|exact ixN_0|exact ixN_1))|((with_reducible refine iteBt ?_ ?_);exact rfl)|((with_reducible refine iteBf ?_ ?_);exact rfl)|((with_reducible refine j_rng ?_ ?_);(first|exact ⟨by decide,by decide⟩|exact ⟨by omega,by omega⟩))|((with_reducible refine j_lenS ?_ ?_);assumption)|(with_reducible first|refine iteBt (by decide +kernel) ?_|refine iteBf (by decide +kernel) ?_|refine iteD (by omega) ?_|refine iteDN (by omega) ?_|refine iteN (by omega) ?_|refine iteNS (by omega) ?_)))
noncomputable def top (i:Nat):Stmt:=PySem.Challenge.pw_errandend_k14_runs_refused.main.body.getD i (.Pass ⟨0,0,0,0⟩)
noncomputable abbrev zcb:Stmt:=top 10
theorem zcf:FnScope ["body","found","pending","saying","part"] ["body"] (defScope zcb):=⟨rfl,rfl,rfl,by decide +kernel,rfl,by decide +kernel,by decide +kernel⟩
noncomputable abbrev zec:Stmt:=top 11
theorem zm7:FnScope ["saying"] ["saying"] (defScope zec):=⟨rfl,rfl,rfl,by decide +kernel,rfl,by decide +kernel,by decide +kernel⟩
noncomputable abbrev za4:Stmt:=top 12
theorem zd9:FnScope ["name","known"] ["name","known"] (defScope za4):=⟨rfl,rfl,rfl,by decide +kernel,rfl,by decide +kernel,by decide +kernel⟩
noncomputable abbrev zar:Stmt:=top 13
theorem zb7:FnScope ["name","row","needed","given"] ["name","row","needed"] (defScope zar):=⟨rfl,rfl,rfl,by decide +kernel,rfl,by decide +kernel,by decide +kernel⟩
noncomputable abbrev zgc:Stmt:=top 16
theorem ze9:FnScope ["tree","pairs","pending","part"] ["tree"] (defScope zgc):=⟨rfl,rfl,rfl,by decide +kernel,rfl,by decide +kernel,by decide +kernel⟩
noncomputable abbrev zj3:Stmt:=top 18
theorem sc_run:FnScope ["program","name","trees","most"] ["program","name","trees","most"] (defScope zj3):=⟨rfl,rfl,rfl,by decide +kernel,rfl,by decide +kernel,by decide +kernel⟩
noncomputable abbrev zcs:Stmt:=top 19
theorem zj0:FnScope ["program","name","trees","most"] ["program","name","trees","most"] (defScope zcs):=⟨rfl,rfl,rfl,by decide +kernel,rfl,by decide +kernel,by decide +kernel⟩
noncomputable abbrev zbo:Stmt:=top 20
theorem zdd:FnScope ["program","name","trees","most","params","ended"] ["program","name","trees","most"] (defScope zbo):=⟨rfl,rfl,rfl,by decide +kernel,rfl,by decide +kernel,by decide +kernel⟩
noncomputable abbrev za2:Stmt:=top 21
theorem zaw:FnScope ["program","bodies","number","errand","order"] ["program"] (defScope za2):=⟨rfl,rfl,rfl,by decide +kernel,rfl,by decide +kernel,by decide +kernel⟩
noncomputable abbrev zbb:Stmt:=top 22
theorem zfy:FnScope ["order"] ["order"] (defScope zbb):=⟨rfl,rfl,rfl,by decide +kernel,rfl,by decide +kernel,by decide +kernel⟩
noncomputable abbrev zbx:Stmt:=top 23
theorem zbw:FnScope ["order","number","done","later","saying","inner"] ["order","number"] (defScope zbx):=⟨rfl,rfl,rfl,by decide +kernel,rfl,by decide +kernel,by decide +kernel⟩
noncomputable abbrev zbf:Stmt:=top 25
theorem zfa:FnScope ["saying"] ["saying"] (defScope zbf):=⟨rfl,rfl,rfl,by decide +kernel,rfl,by decide +kernel,by decide +kernel⟩
noncomputable abbrev zgd:Stmt:=top 26
theorem zow:FnScope ["kind","tree"] ["kind","tree"] (defScope zgd):=⟨rfl,rfl,rfl,by decide +kernel,rfl,by decide +kernel,by decide +kernel⟩
noncomputable abbrev zct:Stmt:=top 28
theorem zj1:FnScope ["script","k"] ["script","k"] (defScope zct):=⟨rfl,rfl,rfl,by decide +kernel,rfl,by decide +kernel,by decide +kernel⟩
noncomputable abbrev zc2:Stmt:=top 29
theorem zbt:FnScope ["cell","many","base","left","k","place","found","turn"] ["cell","many"] (defScope zc2):=⟨rfl,rfl,rfl,by decide +kernel,rfl,by decide +kernel,by decide +kernel⟩
noncomputable abbrev zgf:Stmt:=top 30
theorem zox:FnScope ["script","spot"] ["script","spot"] (defScope zgf):=⟨rfl,rfl,rfl,by decide +kernel,rfl,by decide +kernel,by decide +kernel⟩
noncomputable abbrev zge:Stmt:=top 31
theorem zgt:FnScope ["cell","params","saying","k"] ["cell","params"] (defScope zge):=⟨rfl,rfl,rfl,by decide +kernel,rfl,by decide +kernel,by decide +kernel⟩
noncomputable abbrev zj4:Stmt:=top 32
theorem sc_arg:FnScope ["cell","params"] ["cell","params"] (defScope zj4):=⟨rfl,rfl,rfl,by decide +kernel,rfl,by decide +kernel,by decide +kernel⟩
noncomputable abbrev zfd:Stmt:=top 33
theorem zld:FnScope ["script","spot","names","counts","params","to"] ["script","spot","names","counts","params"] (defScope zfd):=⟨rfl,rfl,rfl,by decide +kernel,rfl,by decide +kernel,by decide +kernel⟩
noncomputable abbrev zgg:Stmt:=top 34
theorem zcg:FnScope ["script","spot","names","counts","params","shape","inner","other","row","last"] ["script","spot","names","counts","params"] (defScope zgg):=⟨rfl,rfl,rfl,by decide +kernel,rfl,by decide +kernel,by decide +kernel⟩
noncomputable abbrev zch:Stmt:=top 35
theorem zbi:FnScope ["script","spot","most","head","many","names","params","counts","program","k","mine"] ["script","spot","most"] (defScope zch):=⟨rfl,rfl,rfl,by decide +kernel,rfl,by decide +kernel,by decide +kernel⟩
noncomputable abbrev zcr:Stmt:=top 36
theorem zbe:FnScope ["cell","room","row","left","k","digit","last","tree","one"] ["cell","room"] (defScope zcr):=⟨rfl,rfl,rfl,by decide +kernel,rfl,by decide +kernel,by decide +kernel⟩
noncomputable abbrev zeb:Stmt:=top 37
theorem zez:FnScope ["script","spot","many","found","k","cell"] ["script","spot","many"] (defScope zeb):=⟨rfl,rfl,rfl,by decide +kernel,rfl,by decide +kernel,by decide +kernel⟩
noncomputable abbrev zed:Stmt:=top 38
theorem zc1:FnScope ["way","program","name","trees","most","told","e"] ["way","program","name","trees","most"] (defScope zed):=⟨rfl,rfl,rfl,by decide +kernel,rfl,by decide +kernel,by decide +kernel⟩
noncomputable abbrev zfz:Stmt:=top 39
theorem zbu:FnScope ["script","spot","program","fault","most","way","errand","good","name","trees","due"] ["script"] (defScope zfz):=⟨rfl,rfl,rfl,by decide +kernel,rfl,by decide +kernel,by decide +kernel⟩
noncomputable abbrev zdi:Stmt:=inClass (top 24) 0
theorem zle:FnScope ["self","params","bodies","most"] ["self","params","bodies","most"] (defScope zdi):=⟨rfl,rfl,rfl,by decide +kernel,rfl,by decide +kernel,by decide +kernel⟩
noncomputable abbrev zcw:Stmt:=inClass (top 24) 1
theorem zj2:FnScope ["self","parent","number","name","trees"] ["self","parent","number","name","trees"] (defScope zcw):=⟨rfl,rfl,rfl,by decide +kernel,rfl,by decide +kernel,by decide +kernel⟩
noncomputable abbrev zcv:Stmt:=inClass (top 24) 2
theorem zgb:FnScope ["self","task"] ["self"] (defScope zcv):=⟨rfl,rfl,rfl,by decide +kernel,rfl,by decide +kernel,by decide +kernel⟩
noncomputable abbrev zby:Stmt:=inClass (top 24) 3
theorem zem:FnScope ["self","saying","place","part"] ["self","saying","place"] (defScope zby):=⟨rfl,rfl,rfl,by decide +kernel,rfl,by decide +kernel,by decide +kernel⟩
noncomputable abbrev zcc:Stmt:=inClass (top 24) 4
theorem zfb:FnScope ["self","saying","place","kind"] ["self","saying","place"] (defScope zcc):=⟨rfl,rfl,rfl,by decide +kernel,rfl,by decide +kernel,by decide +kernel⟩
noncomputable abbrev zcu:Stmt:=inClass (top 24) 5
theorem zea:FnScope ["self","many","first","trees"] ["self","many"] (defScope zcu):=⟨rfl,rfl,rfl,by decide +kernel,rfl,by decide +kernel,by decide +kernel⟩
noncomputable abbrev zcd:Stmt:=inClass (top 24) 6
theorem zfc:FnScope ["self","fork","place","chosen"] ["self","fork","place"] (defScope zcd):=⟨rfl,rfl,rfl,by decide +kernel,rfl,by decide +kernel,by decide +kernel⟩
noncomputable abbrev zbk:Stmt:=inClass (top 24) 7
theorem zdm:FnScope ["self","pair"] ["self"] (defScope zbk):=⟨rfl,rfl,rfl,by decide +kernel,rfl,by decide +kernel,by decide +kernel⟩
noncomputable abbrev zbj:Stmt:=inClass (top 24) 8
theorem zdl:FnScope ["self","name","place","entry"] ["self","name","place"] (defScope zbj):=⟨rfl,rfl,rfl,by decide +kernel,rfl,by decide +kernel,by decide +kernel⟩
inductive Ex2 {α0 α1:Type} (p:α0→α1→Prop):Prop where
  | mk (a0:α0) (a1:α1) (h:p a0 a1)
inductive Ex3 {α0 α1 α2:Type} (p:α0→α1→α2→Prop):Prop where
  | mk (a0:α0) (a1:α1) (a2:α2) (h:p a0 a1 a2)
inductive Ex4 {α0 α1 α2 α3:Type} (p:α0→α1→α2→α3→Prop):Prop where
  | mk (a0:α0) (a1:α1) (a2:α2) (a3:α3) (h:p a0 a1 a2 a3)
inductive Ex7 {α0 α1 α2 α3 α4 α5 α6:Type} (p:α0→α1→α2→α3→α4→α5→α6→Prop):Prop where
  | mk (a0:α0) (a1:α1) (a2:α2) (a3:α3) (a4:α4) (a5:α5) (a6:α6) (h:p a0 a1 a2 a3 a4 a5 a6)
theorem lnS {us:List Value} {n:Nat} (h:us.length=n+1):∃a t,us=a::t∧t.length=n:=by
  cases us with
  | nil=>cases h
  | cons a t=>exact ⟨a,t,rfl,Nat.succ.inj h⟩
theorem ln0 {us:List Value} (h:us.length=0):us=[]:=List.eq_nil_of_length_eq_zero h
theorem ln1 {us:List Value} (h:us.length=1):∃a0,us=[a0]:=by
  obtain ⟨a0,t,rfl,g⟩:=lnS h
  obtain rfl:=ln0 g
  exact ⟨a0,rfl⟩
theorem ln2 {us:List Value} (h:us.length=2):∃a0 a1,us=[a0,a1]:=by
  obtain ⟨a0,t,rfl,g⟩:=lnS h
  obtain ⟨a1,rfl⟩:=ln1 g
  exact ⟨a0,a1,rfl⟩
theorem ln3 {us:List Value} (h:us.length=3):∃a0 a1 a2,us=[a0,a1,a2]:=by
  obtain ⟨a0,t,rfl,g⟩:=lnS h
  obtain ⟨a1,a2,rfl⟩:=ln2 g
  exact ⟨a0,a1,a2,rfl⟩
theorem ln4 {us:List Value} (h:us.length=4):∃a0 a1 a2 a3,us=[a0,a1,a2,a3]:=by
  obtain ⟨a0,t,rfl,g⟩:=lnS h
  obtain ⟨a1,a2,a3,rfl⟩:=ln3 g
  exact ⟨a0,a1,a2,a3,rfl⟩
theorem ln5 {us:List Value} (h:us.length=5):∃a0 a1 a2 a3 a4,us=[a0,a1,a2,a3,a4]:=by
  obtain ⟨a0,t,rfl,g⟩:=lnS h
  obtain ⟨a1,a2,a3,a4,rfl⟩:=ln4 g
  exact ⟨a0,a1,a2,a3,a4,rfl⟩
structure Gs (K:PySem.W.Frag) (mg:Str→Option Value):Prop where
  len:mg "len"=none
  range:mg "range"=none
  isinstance:mg "isinstance"=none
  tuple:mg "tuple"=none
  dict:mg "dict"=none
  list:mg "list"=none
  reversed:mg "reversed"=none
  MOST_PAIRS:∃t,mg "MOST_PAIRS"=some (.int 60 t)
structure RunT (K:PySem.W.Frag) (mg:Str→Option Value) (CR:Addr):Prop where
  cl:Cls K CR
  mks:PySem.W.makesIn K CR=true
  kc:PySem.W.keepIn K (.ref CR)=true
  at_:mg "Run"=some (.ref CR)
  n_params:NoAttr K CR "params"
  n_bodies:NoAttr K CR "bodies"
  n_most:NoAttr K CR "most"
  n_begun:NoAttr K CR "begun"
  n_pending:NoAttr K CR "pending"
  n_waiting:NoAttr K CR "waiting"
  n_ending:NoAttr K CR "ending"
noncomputable abbrev ES:List Rf:=[.err,.text,.twice,.such,.count,.apart,.many,.way]
section
variable {P:Program} {w:World} {K:PySem.W.Frag} {mg:Str→Option Value} {base:Heap} {adr:Rf→Addr} {CR:Addr}
noncomputable def cellAt (ns:List Int) (k:Int):Int:=ns.getD k.toNat 0
inductive zm4  (ds:List D) (q:D→Prop):Prop where
  | mk (ns:List Int) (k:Int) (_:ds=[.rol (ns.map D.int),.int k]) (_:0≤k) (_:q (.int (cellAt ns k)))
def zdh :Sp3:=vS zm4
theorem zkc {k:Nat} (h:Has K mg "_law_cell_at" zct ["script","k"]) (G:Gs K mg):Cal3 P w K mg base (k+1) "_law_cell_at" ["script","k"] zdh:=by
  refine h.val zj1 (by rintro ds q ⟨ns,k,e,_⟩;rw [e];rfl) fun f cdv A outer s H E ds q hr ⟨ns,k,e,h0,hq⟩=>?_
  subst e
  refine ⟨_,(zac (s_if (za1 zpk zc8 (e_v 1) (za3 zak zb8 rfl G.len PySem.boot_len (zaa (e_v 0) zad)) (nomark _)) (zah (zbn (e_ix zb1 zcx (e_v 0) (e_v 1) (fun _ _=>rfl)))) zb9)
 (zah (zbn zae))),?_⟩
  nofun
  have hl:(ns.map D.int).length=ns.length:=List.length_map _
  refine iteD2 (fun c=>?_) (fun c=>?_)
  · rw [hl] at c
    have hk:k.toNat<ns.length:=by omega
    nofun
    refine j_ixR (zor h0 (v:=.int (cellAt ns k)) ?_) hq
    rw [List.getElem?_map,List.getElem?_eq_getElem hk]
    simp [cellAt,List.getD_eq_getElem?_getD,List.getElem?_eq_getElem hk]
  · rw [hl] at c
    have hk:ns.length≤k.toNat:=by omega
    nofun
    have e:cellAt ns k=0:=by simp [cellAt,List.getD_eq_getElem?_getD,List.getElem?_eq_none hk]
    rw [e] at hq
    exact hq
inductive P_next  (ds:List D) (S:Hp3) (q:D→Addr→O→Prop):Prop where
  | mk (ns:List Int) (sp:Addr) (i:Int) (rs:List D) (_:ds=[.rol (ns.map D.int),.ref sp]) (_:S sp=some (.lst (.int i::rs))) (_:0≤i) (_:q (.int (cellAt ns i)) sp (.lst (.int (i+1)::rs)))
def ze6 :Sp3:=wrV P_next
theorem zpq {k:Nat} (h:Has K mg "_law_next" zgf ["script","spot"]) (C_cell_at:Cal3 P w K mg base k "_law_cell_at" ["script","k"] zdh):Cal3 P w K mg base (k+1) "_law_next" ["script","spot"] ze6:=by
  refine h.wrV zox (by rintro ds S q ⟨ns,sp,i,rs,e,_⟩;rw [e];rfl) fun f cdv A outer s H E ds S q hr ⟨ns,sp,i,rs,e,hS,hi,hq⟩=>?_
  subst e
  refine ⟨_,(zac (s_asg (e_op zgh zd5 (e_ix zb1 zcx (e_v 1) zae (fun _ _=>rfl)) zae) (g_sub (e_v 1) zae))
 (zah (zbn (zaj C_cell_at hr rfl (zaa (e_v 0) (zaa (e_op zlt zd5 (e_ix zb1 zcx (e_v 1) zae (fun _ _=>rfl)) zae) zad)))))),?_⟩
  nofun
  refine ⟨ns,i+1-1,rfl,by omega,sp,_,Sub.refl _,?_⟩
  have e:i+1-1=i:=by omega
  rw [e]
  exact hq
inductive zp8  (ds:List D) (q:List D→Prop):Prop where
  | mk (c n:Int) (_:ds=[.int c,.int n]) (_:0≤c) (_:1≤n) (_:n≤12) (_:∀xs:List Str,Row n.toNat xs→q (xs.map D.str))
def zi5 :Sp3:=lSt zp8
theorem znu {k:Nat} (h:Has K mg "_law_names" zc2 ["cell","many"]) (G:Gs K mg):Cal3 P w K mg base (k+1) "_law_names" ["cell","many"] zi5:=by
  refine h.lst zbt (by rintro ds q ⟨c,n,e,_⟩;rw [e];rfl) fun f cdv A outer s H E ds q hr ⟨c,n,e,hc,hn1,hn2,hq⟩=>?_
  subst e
  refine ⟨_,(zac (zai (i:=2) zbt.nd rfl (Or.inr rfl) zas)
 (zac (zai (i:=3) zbt.nd rfl (Or.inl rfl) (e_op zay zaf (e_v 0) zae))
 (zac (zf0 PassesOwn.never rfl (zb3 rfl G.range (zaa (e_op zax zaf (e_v 0) zae) zad)) (zdf (i:=4) zbt.nd rfl (Or.inl rfl)) (zac (zai (i:=2) zbt.nd rfl (Or.inr rfl) (e_op zbz zds (e_v 2) (e_ix zog zol zas (e_op zax zaf (e_v 3) zae) (fun _ _=>rfl))))
 (zah (zai (i:=3) zbt.nd rfl (Or.inl rfl) (e_op zay zaf (e_v 3) zae)))))
 (zac (zai (i:=5) zbt.nd rfl (Or.inr rfl) (e_op zax zaf (e_op zay zaf (e_v 0) zae) (e_op zgh zd5 (za3 zhy zp0 rfl G.len PySem.boot_len (zaa (e_v 2) zad)) zae)))
 (zac (zi8 (i:=6) (osc:=defScope zc2) (N:=["cell","many","base","left","k","place","found","turn"]) (M:=["base","place"]) (js:=[2,5]) ⟨rfl,by decide +kernel,by decide +kernel,rfl,by decide +kernel,by decide +kernel,by decide +kernel⟩ (by decide +kernel) rfl (zb3 rfl G.range (zaa (e_v 1) zad)) (fun _ _ _ _ _=>(e_op zbz zds (e_op zbz zds (za8 zel zes (e_v 1) zbq (zbl (e_v 2))) (e_ix zog zol zas (e_v 0) (fun _ _=>rfl))) (za8 zel zes (e_v 1) (zbl (e_v 2)) zbq))) zbt.nd rfl rfl)
 (zac (zdx (PW3.pt (w_and (za1 zpk zc8 (e_v 1) zae (nomark _)) (ze2 (za1 zbp zb4 (e_op zax zaf (e_op zay zaf (e_v 0) zae) zae) zae (nomark _))))) (zah (zi8 (i:=6) (osc:=defScope zc2) (N:=["cell","many","base","left","k","place","found","turn"]) (M:=["base"]) (js:=[2]) ⟨rfl,by decide +kernel,by decide +kernel,rfl,by decide +kernel,by decide +kernel,by decide +kernel⟩ (by decide +kernel) rfl (zb3 rfl G.range (zaa (e_v 1) zad)) (fun _ _ _ _ _=>(e_op zbz zds (za8 zel zes (e_v 1) zbq (zbl zae)) (za8 zel zes zas zbq (zbl (e_op zgh zd5 (e_v 0) zae))))) zbt.nd rfl rfl)) zb9)
 (zac (zdx (PW3.pt (w_and (za1 zpk zc8 (e_v 1) zae (nomark _)) (ze2 (za1 zbp zb4 (e_op zax zaf (e_op zay zaf (e_v 0) zae) zae) zae (nomark _))))) (zah (zi8 (i:=6) (osc:=defScope zc2) (N:=["cell","many","base","left","k","place","found","turn"]) (M:=["base"]) (js:=[2]) ⟨rfl,by decide +kernel,by decide +kernel,rfl,by decide +kernel,by decide +kernel,by decide +kernel⟩ (by decide +kernel) rfl (zb3 rfl G.range (zaa (e_v 1) zad)) (fun _ _ _ _ _=>(e_op zbz zds (za8 zel zes zas (zbl (e_op zlt zd5 zae (e_v 0))) zbq) (za8 zel zes (e_v 1) zbq (zbl zae)))) zbt.nd rfl rfl)) zb9)
 (zac (zai (i:=7) zbt.nd rfl (Or.inl rfl) (e_op zax zaf (e_op zay zaf (e_v 0) zae) (e_v 1)))
 (zah (zbn (e_op zlw ziq (za8 zc0 zd4 (e_v 6) (zbl (e_v 7)) zbq) (za8 zc0 zd4 (e_v 6) zbq (zbl (e_v 7)))))))))))))),?_⟩
  nofun
  refine ⟨fun i σ S=>Ex3 fun (lf:Int) (cs:List Nat) (x4:Option D)=>σ=[some (.int c),some (.int n),some (.str (textOf cs)),some (.int lf),x4,none,none,none]∧cs.length=i∧Letters cs∧S=emp,
    ⟨_,[],none,rfl,rfl,fun c hc=>by simp at hc,rfl⟩,fun _ _ _ _=>trivial,?turn,?done⟩
  case turn =>
    rintro i d σ S hd ⟨lf,cs,x4,rfl,hl,hL,rfl⟩
    obtain ⟨hi,rfl⟩:=zco hd
    have m26:=Int.emod_lt_of_pos lf (show (0:Int)<26 by decide)
    have n26:=Int.emod_nonneg lf (show (26:Int)≠0 by decide)
    nofun
    refine j_ixS (cp:=97+(lf%26).toNat) ?_ ?_ ?_
    · rw [zlg,zau];decide
    · rw [zlg,zba]
      exact zjo n26 m26
    refine j_addS (y:=textOf [97+(lf%26).toNat]) ?_ ?_
    · rw [zau,zau]
      refine zbg ?_
      simp only [List.length_cons,List.length_nil]
      omega
    rw [zcp]
    nofun
    refine ⟨_,cs++[97+(lf%26).toNat],_,rfl,by simp [hl],fun d hd=>?_,rfl⟩
    rcases List.mem_append.mp hd with hd|hd
    · exact hL d hd
    · simp at hd
      omega
  rintro σ S ⟨lf,cs,x4,rfl,hl,hL,rfl⟩
  rw [za9] at hl
  have hl7:cs.length≤7:=by omega
  have lz:∀ds:List Nat,ds.length≤100→(textOf ds).length≤sizeLine:=fun ds h=>by rw [zau];exact zbg (by omega)
  have hz:=lz cs (by omega)
  nofun
  rw [zau]
  have p0:=Int.emod_nonneg (c/11) (show ((cs.length:Int)+1)≠0 by omega)
  obtain ⟨pl,epl⟩:∃pl,(c/11)%((cs.length:Int)+1)=pl:=⟨_,rfl⟩
  rw [epl] at p0 ⊢
  refine zd6 (fun k=>.str (textOf (nm1 cs pl.toNat k))) (by rw [za9];exact Nat.le_trans (show n.toNat≤12 by omega) (by decide)) trivial ?e1 ?_
  case e1 =>
    intro i d hd P hP
    obtain ⟨hi,rfl⟩:=zco hd
    nofun
    refine j_slS hz ?_
    rw [zba,zg1 p0]
    nofun
    refine j_ixS (cp:=97+i) ?_ ?_ ?_
    · rw [zhe,zau];decide
    · rw [zhe,zba,zjo (by omega) (by omega)]
      simp
    refine j_addS (y:=textOf [97+i]) ?_ ?_
    · rw [zau,zau,List.length_take]
      exact zbg (by simp only [List.length_cons,List.length_nil];omega)
    rw [zcp]
    nofun
    refine j_slS hz ?_
    rw [zba,zht p0]
    refine j_addS ?_ ?_
    · rw [zau,zau,List.length_append,List.length_take,List.length_drop]
      exact zbg (by simp only [List.length_cons,List.length_nil];omega)
    rw [zcp]
    exact hP
  rw [za9]
  intro D1 hD1
  have e26:n.toNat≤12:=by omega
  have m1:∀f:Nat→List Nat,((List.range n.toNat).map fun k=>D.str (textOf (f k)))=((List.range n.toNat).map fun k=>textOf (f k)).map D.str:=fun f=>by rw [List.map_map];rfl
  rw [m1]
  have R1:Row n.toNat ((List.range n.toNat).map fun k=>textOf (nm1 cs pl.toNat k)):=row1 hL hl7 (by omega)
  nofun
  refine j_ifm (fun σ T=>Ex2 fun (r:Addr) (xs:List Str)=>σ=[some (.int c),some (.int n),some (.str (textOf cs)),some (.int lf),x4,some (.int pl),some (.ref r),none]∧T r=some (.lst (xs.map D.str))∧Row n.toNat xs) ?_ ?_
  · intro n' hn'
    by_cases h5:n<5
    case neg =>
      nofun
      exact hn' _ _ ⟨D1,_,rfl,zab,R1⟩
    by_cases e1:c/17%3=1
    case neg =>
      nofun
      exact hn' _ _ ⟨D1,_,rfl,zab,R1⟩
    nofun
    refine zd6 (fun k=>.str (textOf (nm2 cs k))) (by rw [za9];exact Nat.le_trans e26 (by decide)) trivial ?e2 ?_
    case e2 =>
      intro i d hd P hP
      obtain ⟨hi,rfl⟩:=zco hd
      nofun
      refine j_slS hz ?_
      rw [zba,zg1 (by decide)]
      nofun
      refine j_slS (by rw [zi9];exact lz _ (by decide)) ?_
      rw [zi9,zba,zg1 (by omega)]
      have ei:((0:Int)+(i:Int)+1).toNat=i+1:=by omega
      rw [ei]
      refine j_addS ?_ ?_
      · rw [zau,zau,List.length_take,List.length_take]
        exact zbg (by omega)
      rw [zcp]
      exact hP
    rw [za9]
    intro D2 hD2
    rw [m1]
    nofun
    exact hn' _ _ ⟨D2,_,rfl,zab,row2 hL (by omega)⟩
  clear R1
  rintro σ T ⟨r,xs,rfl,hr1,R⟩
  nofun
  refine j_ifm (fun σ T=>Ex2 fun (r:Addr) (xs:List Str)=>σ=[some (.int c),some (.int n),some (.str (textOf cs)),some (.int lf),x4,some (.int pl),some (.ref r),none]∧T r=some (.lst (xs.map D.str))∧Row n.toNat xs) ?_ ?_
  · intro n' hn'
    by_cases h5:n<5
    case neg =>
      nofun
      exact hn' _ _ ⟨r,xs,rfl,hr1,R⟩
    by_cases e2:c/17%3=2
    case neg =>
      nofun
      exact hn' _ _ ⟨r,xs,rfl,hr1,R⟩
    nofun
    refine zd6 (fun k=>.str (textOf (nm3 cs k))) (by rw [za9];exact Nat.le_trans e26 (by decide)) trivial ?e3 ?_
    case e3 =>
      intro i d hd P hP
      obtain ⟨hi,rfl⟩:=zco hd
      nofun
      refine j_slS (by rw [zi9];exact lz _ (by decide)) ?_
      rw [zi9,zba,zht (by omega)]
      have ei:((3:Int)-(0+(i:Int))).toNat=3-i:=by omega
      rw [ei]
      nofun
      refine j_slS hz ?_
      rw [zba,zg1 (by decide)]
      refine j_addS ?_ ?_
      · rw [zau,zau,List.length_take,List.length_drop]
        exact zbg (by simp only [List.length_cons,List.length_nil];omega)
      rw [zcp]
      exact hP
    rw [za9]
    intro D2 hD2
    rw [m1]
    nofun
    exact hn' _ _ ⟨D2,_,rfl,zab,row3 hL (by omega)⟩
  rintro σ T' ⟨r,xs,rfl,hr1,R⟩
  have t0:=Int.emod_nonneg (c/13) (show n≠0 by omega)
  nofun
  rw [zcy t0]
  intro p1 hp1
  have hD4:=zag (o:=.lst ((xs.map D.str).drop (c/13%n).toNat)) hr1 hp1
  nofun
  rw [zg2 t0]
  intro p2 hp2
  have hxl:=R.len
  refine j_catL (zag zab hp2) zab ?_ ?_
  · rw [List.length_drop,List.length_take,List.length_map]
    exact zbg (by omega)
  intro r hr'
  refine ⟨r,_,rfl,zab,?_⟩
  have:=hq _ (R.turn (t:=(c/13%n).toNat))
  rw [List.map_append,List.map_drop,List.map_take] at this
  exact this
structure Plain (ps:List Str) (n:Nat) (s:Sy):Prop where
  wf:∀ar,s.wf ar ps
  deep:s.deep≤n
  sends:s.sends=0
  size:s.pre.length+1≤2^n
theorem za5 (a:Sy) (as:List Sy):(Sy.pres (a::as)).length=a.pre.length+(Sy.pres as).length:=by simp [Sy.pres]
theorem zc4 (s:Sy):s.pre.length=1+(Sy.pres s.parts).length:=by rw [Sy.pre_parts];simp;omega
theorem zj6 {ps:List Str} {x:Str} (h:x∈ps):Plain ps 1 (.name x):=⟨fun _=>h,by simp [Sy.deep],by simp [Sy.sends,Sy.pre],by simp [Sy.pre]⟩
theorem Plain.one {ps:List Str} {n:Nat} {s:Sy} (h:Plain ps n s):(Sy.pres [s]).length+2≤2^(n+1):=by
  have:=h.size
  rw [za5,Nat.pow_succ]
  simp [Sy.pres]
  omega
theorem Plain.left {ps:List Str} {n:Nat} {s:Sy} (h:Plain ps n s):Plain ps (n+1) (.left s):=⟨h.wf,by have:=h.deep;simp only [Sy.deep];omega,by rw [Sy.sends_parts];simp only [Sy.parts,Sy.sendss_cons,h.sends];simp [Sy.sendss,Sy.pres],
  by have:=h.one;rw [zc4];simp only [Sy.parts];omega⟩
theorem Plain.right {ps:List Str} {n:Nat} {s:Sy} (h:Plain ps n s):Plain ps (n+1) (.right s):=⟨h.wf,by have:=h.deep;simp only [Sy.deep];omega,by rw [Sy.sends_parts];simp only [Sy.parts,Sy.sendss_cons,h.sends];simp [Sy.sendss,Sy.pres],
  by have:=h.one;rw [zc4];simp only [Sy.parts];omega⟩
theorem Plain.pair {ps:List Str} {n:Nat} {s t:Sy} (h:Plain ps n s) (h':Plain ps n t):Plain ps (n+1) (.pair s t):=⟨fun ar=>⟨h.wf ar,h'.wf ar⟩,by have:=h.deep;have:=h'.deep;simp only [Sy.deep];omega,by rw [Sy.sends_parts];simp only [Sy.parts,Sy.sendss_cons,h.sends,h'.sends];simp [Sy.sendss,Sy.pres],
  by have:=h.size;have:=h'.size;rw [zc4,Nat.pow_succ];simp only [Sy.parts,za5];simp [Sy.pres];omega⟩
theorem Plain.mono {ps:List Str} {n m:Nat} {s:Sy} (h:Plain ps n s) (hm:n≤m):Plain ps m s:=⟨h.wf,Nat.le_trans h.deep hm,h.sends,Nat.le_trans h.size (Nat.pow_le_pow_right (by decide) hm)⟩
theorem j_two {S:Hp3} {Q:K3} {a:Addr} {x y:D} {c:Int} (hS:S a=some (.lst [x,y])) (q0:Q x S) (q1:Q y S):ixL3 (.ref a) (.int (c%2)) S Q:=by
  have m2:c%2=0∨c%2=1:=by omega
  rcases m2 with m|m
  · exact j_ixL hS (by rw [m];rfl) q0
  · exact j_ixL hS (by rw [m];rfl) q1
inductive P_path  (ds:List D) (q:D→Prop):Prop where
  | mk (cell:Int) (ps:List Str) (_:ds=[.int cell,.tup (ps.map D.str)]) (_:1≤ps.length) (_:ps.length≤4) (_:∀s:Sy,Plain ps 4 s→q s.d)
def zh9 :Sp3:=vS P_path
theorem zpp {k:Nat} (h:Has K mg "_law_path" zge ["cell","params"]) (G:Gs K mg):Cal3 P w K mg base (k+1) "_law_path" ["cell","params"] zh9:=by
  refine h.val zgt (by rintro ds q ⟨_,_,e,_⟩;rw [e];rfl) fun f cdv A outer s0 H E ds q hr hA=>?_
  obtain ⟨cell,ps,rfl,l1,l4,hq⟩:=hA
  obtain ⟨jp,vp,ejp,hvp,hap⟩:=zix (f:=D.str) cell (show 0<ps.length by omega)
  have hpl:(0:Int)<((ps.map D.str).length:Int):=by rw [List.length_map];omega
  have n4:0≤cell/4%4∧cell/4%4<4:=by omega
  refine ⟨_,(zac (zai (i:=2) zgt.nd rfl (Or.inl rfl) (zbr (zaa zas (zaa (e_ix zap zaq (e_v 1) (e_op zax zaf (e_v 0) (za3 zak zb8 rfl G.len PySem.boot_len (zaa (e_v 1) zad))) (fun _ _=>rfl)) zad))))
 (zac (zf0 PassesOwn.never rfl (zb3 rfl G.range (zaa (e_op zax zaf (e_op zay zaf (e_v 0) zae) zae) zad)) (zdf (i:=3) zgt.nd rfl (Or.inl rfl)) (zah (zai (i:=2) zgt.nd rfl (Or.inl rfl) (zbr (zaa (e_ix zb1 zcx (zdq (zaa zas (zaa zas zad))) (e_op zax zaf (e_op zay zaf (e_v 0) (e_ix zb1 zcx (zdq (zaa zae (zaa zae (zaa zae zad)))) (e_v 3) (fun _ _=>rfl))) zae) (fun _ _=>rfl)) (zaa (e_v 2) zad))))))
 (zah (zbn (e_v 2))))),?_⟩
  nofun
  refine j_ixT hap ?_
  nofun
  refine ⟨fun i σ S=>Ex2 fun (s:Sy) (x3:Option D)=>σ=[some (.int cell),some (.tup (ps.map D.str)),some s.d,x3]∧Plain ps (1+i) s,⟨.name vp,none,rfl,zj6 (List.mem_of_getElem? hvp)⟩,fun _ _ _ _=>trivial,?_,?_⟩
  · rintro i d σ S hd ⟨s,x3,rfl,hs⟩
    obtain ⟨hi,rfl⟩:=zco hd
    nofun
    intro p1 hp1
    nofun
    intro p2 hp2
    nofun
    have h3:i=0∨i=1∨i=2:=by omega
    have hl:=zag (o:=.lst [.int 16,.int 32,.int 64]) (zab (S:=S) (a:=p1) (o:=.lst [.str "left",.str "right"])) hp2
    rcases h3 with rfl|rfl|rfl
    all_goals
      nofun
      refine j_two hl ?_ ?_
      · nofun
        exact ⟨.left s,_,rfl,by rw [←Nat.add_assoc];exact hs.left⟩
      · nofun
        exact ⟨.right s,_,rfl,by rw [←Nat.add_assoc];exact hs.right⟩
  · rintro σ S ⟨s,x3,rfl,hs⟩
    rw [za9] at hs
    nofun
    exact hq s (hs.mono (by omega))
inductive P_arg  (ds:List D) (q:D→Prop):Prop where
  | mk (cell:Int) (ps:List Str) (_:ds=[.int cell,.tup (ps.map D.str)]) (_:1≤ps.length) (_:ps.length≤4) (_:∀s:Sy,Plain ps 5 s→q s.d)
def zk8 :Sp3:=vS P_arg
theorem ok_arg {k:Nat} (h:Has K mg "_law_arg" zj4 ["cell","params"]) (C_path:Cal3 P w K mg base k "_law_path" ["cell","params"] zh9):Cal3 P w K mg base (k+1) "_law_arg" ["cell","params"] zk8:=by
  refine h.val sc_arg (by rintro ds q ⟨_,_,e,_⟩;rw [e];rfl) fun f cdv A outer s0 H E ds q hr hA=>?_
  obtain ⟨cell,ps,rfl,l1,l4,hq⟩:=hA
  refine ⟨_,(zac (s_if (za1 zbp zb4 (e_op zax zaf (e_v 0) zae) zae (nomark _)) (zah (zbn (zbr (zaa zas zad)))) zb9)
 (zac (s_if (za1 zbp zb4 (e_op zax zaf (e_v 0) zae) zae (nomark _)) (zah (zbn (zbr (zaa zas (zaa (zaj C_path hr rfl (zaa (e_op zay zaf (e_v 0) zae) (zaa (e_v 1) zad))) (zaa (zaj C_path hr rfl (zaa (e_op zay zaf (e_v 0) zae) (zaa (e_v 1) zad))) zad)))))) zb9)
 (zah (zbn (zaj C_path hr rfl (zaa (e_op zay zaf (e_v 0) zae) (zaa (e_v 1) zad))))))),?_⟩
  by_cases h0:cell%9=0
  · nofun
    exact hq .bud ⟨fun _=>trivial,by simp [Sy.deep],by simp [Sy.sends,Sy.pre],by simp [Sy.pre]⟩
  by_cases h1:cell%9=1
  · nofun
    refine ⟨_,ps,rfl,l1,l4,fun a ha=>?_⟩
    nofun
    refine ⟨_,ps,rfl,l1,l4,fun b hb=>?_⟩
    nofun
    exact hq (.pair a b) (ha.pair hb)
  · nofun
    refine ⟨_,ps,rfl,l1,l4,fun a ha=>?_⟩
    nofun
    exact hq a (ha.mono (by decide))
structure SendOk (ar:Str→Option Nat) (ps:List Str) (x:Str) (as:List Sy):Prop where
  ar:ar x=some as.length
  l1:1≤as.length
  l4:as.length≤4
  plain:∀a∈as,Plain ps 5 a
inductive P_send  (ds:List D) (S:Hp3) (q:D→Addr→O→Prop):Prop where
  | mk (ns:List Int) (sp nm ct:Addr) (i:Int) (rest:List D) (names ps:List Str) (counts:List Nat) (_:ds=[.rol (ns.map D.int),.ref sp,.ref nm,.ref ct,.tup (ps.map D.str)]) (_:S sp=some (.lst (.int i::rest))) (_:S nm=some (.lst (names.map D.str))) (_:S ct=some (.lst (cD counts))) (_:sp≠nm) (_:sp≠ct) (_:0≤i) (_:1≤ps.length) (_:ps.length≤4) (_:1≤names.length) (_:names.Nodup) (_:names.length=counts.length) (_:(∀c∈counts,1≤c∧c≤4)) (_:∀(x:Str) (as:List Sy) (i2:Int),SendOk (arOf names counts) ps x as→0≤i2→q (Sy.send x as).d sp (.lst (.int i2::rest)))
def zh8 :Sp3:=wrV P_send
theorem zpo {k:Nat} (h:Has K mg "_law_send" zfd ["script","spot","names","counts","params"]) (G:Gs K mg) (C_next:Cal3 P w K mg base k "_law_next" ["script","spot"] ze6) (C_arg:Cal3 P w K mg base k "_law_arg" ["cell","params"] zk8) :
    Cal3 P w K mg base (k+1) "_law_send" ["script","spot","names","counts","params"] zh8:=by
  refine h.wrV zld (by rintro ds S q ⟨_,_,_,_,_,_,_,_,_,e,_⟩;rw [e];rfl) fun f cdv A outer s0 H E ds S q hr hA=>?_
  obtain ⟨ns,sp,nm,ct,i,rest,names,ps,counts,rfl,hsp,hnm,hct,n1,n2,hi,l1,l4,m1,nd,hlc,hc4,hq⟩:=hA
  refine ⟨_,(zac (zai (i:=5) zld.nd rfl (Or.inl rfl) (e_op zax zaf (zaj C_next hr rfl (zaa (e_v 0) (zaa (e_v 1) zad))) (za3 zak zb8 rfl G.len PySem.boot_len (zaa (e_v 2) zad))))
 (zah (zbn (zbr (zaa zas (zaa (e_ix zb1 zcx (e_v 2) (e_v 5) (fun _ _=>rfl)) (zaa (zc7 zbv zd3 rfl G.tuple boot_tuple (zaa (zjj (osc:=defScope zfd) (N:=["script","spot","names","counts","params","to"]) (M:=["script","spot","params"]) (js:=[0,1,4]) ⟨rfl,by decide +kernel,by decide +kernel,rfl,by decide +kernel,by decide +kernel,by decide +kernel⟩ (by decide +kernel) rfl (zb3 rfl G.range (zaa (e_ix zb1 zcx (e_v 3) (e_v 5) (fun _ _=>rfl)) zad)) (fun _ _ _ _ _=>(zaj C_arg hr rfl (zaa (zaj C_next hr rfl (zaa (e_v 1) (zaa (e_v 2) zad))) (zaa (e_v 3) zad))))) zad)) zad))))))),?_⟩
  have hnl:(0:Int)<((names.map D.str).length:Int):=by rw [List.length_map];omega
  have nm1:∀o,up S sp o nm=some (.lst (names.map D.str)):=fun o=>by rw [zbm (Ne.symm n1)];exact hnm
  have ct1:∀o,up S sp o ct=some (.lst (cD counts)):=fun o=>by rw [zbm (Ne.symm n2)];exact hct
  nofun
  refine ⟨ns,sp,i,rest,rfl,hsp,hi,?_⟩
  have nm2:=nm1 (.lst (.int (i+1)::rest))
  have ct2:=ct1 (.lst (.int (i+1)::rest))
  obtain ⟨jt,vt,ejt,hvt,hat⟩:=zix (f:=D.str) (cellAt ns i) (show 0<names.length by omega)
  have hct':jt<counts.length:=by rw [←hlc];exact (List.getElem?_eq_some_iff.mp hvt).1
  obtain ⟨cn,hcn⟩:∃cn,counts[jt]?=some cn:=⟨_,List.getElem?_eq_getElem hct'⟩
  have hcn4:=hc4 cn (List.mem_of_getElem? hcn)
  have har:arOf names counts vt=some cn:=ziz nd hvt hcn
  nofun
  refine j_ixL nm2 hat ?_
  nofun
  refine j_ixL ct2 (d:=.int cn) (by rw [ejt];refine zdg ?_;rw [List.getElem?_map,hcn];rfl) ?_
  nofun
  refine ⟨fun j ys S'=>∃as:List Sy,ys=as.map Sy.d∧as.length=j∧j≤cn∧(∀a∈as,Plain ps 5 a)∧S'=up S sp (.lst (.int (i+1+j)::rest)),⟨[],rfl,rfl,Nat.zero_le _,by simp,by simp⟩,?_,?_,?_⟩
  · rintro j ys S' ⟨as,rfl,hl,hj,_,rfl⟩
    exact ⟨trivial,by rw [List.length_map];exact zav (by omega)⟩
  · rintro j d ys S' hd ⟨as,rfl,hl,hj,hpl,rfl⟩
    obtain ⟨hj',rfl⟩:=zco hd
    nofun
    refine ⟨ns,sp,i+1+j,rest,rfl,zab,by omega,?_⟩
    nofun
    refine ⟨_,ps,rfl,l1,l4,fun a ha=>?_⟩
    refine ⟨as++[a],by simp,by simp [hl],by omega,fun b hb=>?_,?_⟩
    · rcases List.mem_append.mp hb with hb|hb
      · exact hpl b hb
      · rw [List.mem_singleton.mp hb];exact ha
    · rw [zgn]
      have:i+1+(j:Int)+1=i+1+((j+1:Nat):Int):=by omega
      rw [this]
  rintro ys S' ⟨as,rfl,hl,hj,hpl,rfl⟩
  rw [za9,Int.toNat_natCast] at hl
  intro p1 hp1
  nofun
  have e:D.tup [.str "send",.str vt,.tup (as.map Sy.d)]=(Sy.send vt as).d:=by simp only [Sy.d,Sy.ds_map]
  rw [e]
  exact ⟨sp,_,((Px.refl sp S).at.new hp1).sub (zag zab hp1),hq vt as _ ⟨by rw [hl];exact har,by omega,by omega,hpl⟩ (by omega)⟩
structure Bd (ar:Str→Option Nat) (ps:List Str) (n m z:Nat) (s:Sy):Prop where
  wf:s.wf ar ps
  deep:s.deep≤n
  sends:s.sends≤m
  size:s.pre.length≤z
theorem Plain.bd {ar:Str→Option Nat} {ps:List Str} {n:Nat} {s:Sy} (h:Plain ps n s):Bd ar ps n 0 (2^n) s:=⟨h.wf ar,h.deep,by rw [h.sends];exact Nat.le_refl _,by have:=h.size;omega⟩
theorem Bd.mono {ar:Str→Option Nat} {ps:List Str} {n m z n' m' z':Nat} {s:Sy} (h:Bd ar ps n m z s) (h1:n≤n') (h2:m≤m') (h3:z≤z'):Bd ar ps n' m' z' s:=⟨h.wf,Nat.le_trans h.deep h1,Nat.le_trans h.sends h2,Nat.le_trans h.size h3⟩
theorem Bd.pair {ar:Str→Option Nat} {ps:List Str} {n m z m' z':Nat} {s t:Sy} (h:Bd ar ps n m z s) (h':Bd ar ps n m' z' t):Bd ar ps (n+1) (m+m') (1+z+z') (.pair s t) :=
  ⟨⟨h.wf,h'.wf⟩,by have:=h.deep;have:=h'.deep;simp only [Sy.deep];omega,by have:=h.sends;have:=h'.sends;rw [Sy.sends_parts];simp only [Sy.parts,Sy.sendss_cons];simp [Sy.sendss,Sy.pres];omega,
    by have:=h.size;have:=h'.size;rw [zc4];simp only [Sy.parts,za5];simp [Sy.pres];omega⟩
theorem Bd.fork {ar:Str→Option Nat} {ps:List Str} {n m z m' z' m2 z2:Nat} {s t u:Sy} (h:Bd ar ps n m z s) (h':Bd ar ps n m' z' t) (h2:Bd ar ps n m2 z2 u):Bd ar ps (n+1) (m+m'+m2) (1+z+z'+z2) (.fork s t u) :=
  ⟨⟨h.wf,h'.wf,h2.wf⟩,by have:=h.deep;have:=h'.deep;have:=h2.deep;simp only [Sy.deep];omega,by have:=h.sends;have:=h'.sends;have:=h2.sends;rw [Sy.sends_parts];simp only [Sy.parts,Sy.sendss_cons];simp [Sy.sendss,Sy.pres];omega,
    by have:=h.size;have:=h'.size;have:=h2.size;rw [zc4];simp only [Sy.parts,za5];simp [Sy.pres];omega⟩
theorem zfh {ps:List Str}:∀{as:List Sy},(∀a∈as,Plain ps 5 a)→Sy.sendss as=0∧(Sy.pres as).length≤31*as.length
  | [],_=>by simp [Sy.sendss,Sy.pres]
  | a::as,h=>by
    have h1:=h a List.mem_cons_self
    have h2:=zfh (as:=as) fun b hb=>h b (List.mem_cons_of_mem _ hb)
    have:=h1.sends
    have:=h1.size
    rw [Sy.sendss_cons,za5,List.length_cons]
    omega
theorem SendOk.bd {ar:Str→Option Nat} {ps:List Str} {x:Str} {as:List Sy} (h:SendOk ar ps x as):Bd ar ps 6 1 125 (.send x as):=by
  obtain ⟨h1,h2⟩:=zfh h.plain
  have:=h.l4
  refine ⟨⟨h.ar,h.l1,h.l4,Sy.wfs_iff.mpr fun a ha=>(h.plain a ha).wf ar⟩,?_,?_,?_⟩
  · have:=Sy.deeps_le (as:=as) (n:=5) fun a ha=>(h.plain a ha).deep
    simp only [Sy.deep]
    omega
  · rw [Sy.sends_parts]
    simp only [Sy.parts]
    omega
  · rw [zc4]
    simp only [Sy.parts]
    omega
theorem SendOk.put {ar:Str→Option Nat} {ps:List Str} {x:Str} {as:List Sy} {n m z:Nat} (h:SendOk ar ps x as) (hn:5≤n) (bs:List Sy) (hb:∀b∈bs,b.wf ar ps∧b.deep≤n) (hs:Sy.sendss bs≤m) (hz:(Sy.pres bs).length≤z) (hl:bs.length≤as.length) (h1:1≤bs.length) :
    Bd ar ps (n+1) (m+1) (1+z+124) (.send x (bs++as.drop bs.length)):=by
  have hp:∀a∈as.drop bs.length,Plain ps 5 a:=fun a ha=>h.plain a (List.mem_of_mem_drop ha)
  obtain ⟨e1,e2⟩:=zfh hp
  have:=h.l4
  have hlen:(bs++as.drop bs.length).length=as.length:=by rw [List.length_append,List.length_drop];omega
  have hall:∀a∈bs++as.drop bs.length,a.wf ar ps∧a.deep≤n:=fun a ha=>by
    rcases List.mem_append.mp ha with ha|ha
    · exact hb a ha
    · exact ⟨(hp a ha).wf ar,Nat.le_trans (hp a ha).deep hn⟩
  rw [List.length_drop] at e2
  refine ⟨⟨by rw [hlen];exact h.ar,by rw [hlen];exact h.l1,by rw [hlen];exact h.l4,Sy.wfs_iff.mpr fun a ha=>(hall a ha).1⟩,?_,?_,?_⟩
  · have:=Sy.deeps_le (as:=bs++as.drop bs.length) (n:=n) fun a ha=>(hall a ha).2
    simp only [Sy.deep]
    omega
  · rw [Sy.sends_parts]
    simp only [Sy.parts,Sy.sendss_append]
    omega
  · rw [zc4]
    simp only [Sy.parts,Sy.pres_append,List.length_append]
    omega
inductive P_body  (ds:List D) (S:Hp3) (q:D→Addr→O→Prop):Prop where
  | mk (ns:List Int) (sp nm ct:Addr) (i:Int) (rest:List D) (names ps:List Str) (counts:List Nat) (_:ds=[.rol (ns.map D.int),.ref sp,.ref nm,.ref ct,.tup (ps.map D.str)]) (_:S sp=some (.lst (.int i::rest))) (_:S nm=some (.lst (names.map D.str))) (_:S ct=some (.lst (cD counts))) (_:sp≠nm) (_:sp≠ct) (_:0≤i) (_:1≤ps.length) (_:ps.length≤4) (_:1≤names.length) (_:names.Nodup) (_:names.length=counts.length) (_:(∀c∈counts,1≤c∧c≤4)) (_:∀(s:Sy) (i2:Int),Bd (arOf names counts) ps 12 6 1500 s→0≤i2→q s.d sp (.lst (.int i2::rest)))
def zk7 :Sp3:=wrV P_body
theorem zpr {k:Nat} (h:Has K mg "_law_body" zgg ["script","spot","names","counts","params"]) (G:Gs K mg) (C_next:Cal3 P w K mg base k "_law_next" ["script","spot"] ze6) (C_arg:Cal3 P w K mg base k "_law_arg" ["cell","params"] zk8)
    (C_path:Cal3 P w K mg base k "_law_path" ["cell","params"] zh9) (C_send:Cal3 P w K mg base k "_law_send" ["script","spot","names","counts","params"] zh8) :
    Cal3 P w K mg base (k+1) "_law_body" ["script","spot","names","counts","params"] zk7:=by
  refine h.wrV zcg (by rintro ds S q ⟨_,_,_,_,_,_,_,_,_,e,_⟩;rw [e];rfl) fun f cdv A outer s0 H E ds S q hr hA=>?_
  obtain ⟨ns,sp,nm,ct,i,rest,names,ps,counts,rfl,hsp,hnm,hct,n1,n2,hi,l1,l4,m1,nd,hlc,hc4,hq⟩:=hA
  refine ⟨_,(zac (zai (i:=5) zcg.nd rfl (Or.inl rfl) (zaj C_next hr rfl (zaa (e_v 0) (zaa (e_v 1) zad))))
 (zac (zai (i:=6) zcg.nd rfl (Or.inl rfl) (zaj C_send hr rfl (zaa (e_v 0) (zaa (e_v 1) (zaa (e_v 2) (zaa (e_v 3) (zaa (e_v 4) zad)))))))
 (zac (zdx (za1 zbp zb4 (e_op zax zaf (e_v 5) zae) zae (nomark _)) (zah (zai (i:=6) zcg.nd rfl (Or.inl rfl) (zbr (zaa zas (zaa (e_v 6) (zaa (zaj C_path hr rfl (zaa (e_op zay zaf (e_v 5) zae) (zaa (e_v 4) zad))) zad)))))) zb9)
 (zac (zdx (za1 zbp zb4 (e_op zax zaf (e_v 5) zae) zae (nomark _)) (zac (zai (i:=7) zcg.nd rfl (Or.inl rfl) (zaj C_send hr rfl (zaa (e_v 0) (zaa (e_v 1) (zaa (e_v 2) (zaa (e_v 3) (zaa (e_v 4) zad)))))))
 (zac (zai (i:=8) zcg.nd rfl (Or.inl rfl) (e_op zid zmo (zbr (zaa (e_v 6) zad)) (za8 zgs zjk (e_ix zap zaq (e_v 7) zae (fun _ _=>rfl)) (zbl zae) zbq)))
 (zac (zdx (PW3.pt (w_and (za1 zbp zb4 (e_op zax zaf (e_op zay zaf (e_v 5) zae) zae) zae (nomark _)) (ze2 (za1 zlv zc8 (za3 zak zb8 rfl G.len PySem.boot_len (zaa (e_v 8) zad)) zae (nomark _))))) (zah (zai (i:=8) zcg.nd rfl (Or.inl rfl) (e_op zid zmo (zbr (zaa (e_v 6) (zaa (zaj C_send hr rfl (zaa (e_v 0) (zaa (e_v 1) (zaa (e_v 2) (zaa (e_v 3) (zaa (e_v 4) zad)))))) zad))) (za8 zgs zjk (e_v 8) (zbl zae) zbq)))) zb9)
 (zah (zai (i:=6) zcg.nd rfl (Or.inl rfl) (zbr (zaa zas (zaa (e_ix zap zaq (e_v 7) zae (fun _ _=>rfl)) (zaa (e_v 8) zad))))))))) zb9)
 (zac (zdx (za1 zbp zb4 (e_op zax zaf (e_v 5) zae) zae (nomark _)) (zah (zai (i:=6) zcg.nd rfl (Or.inl rfl) (zbr (zaa zas (zaa (e_v 6) (zaa (zaj C_send hr rfl (zaa (e_v 0) (zaa (e_v 1) (zaa (e_v 2) (zaa (e_v 3) (zaa (e_v 4) zad)))))) zad)))))) zb9)
 (zac (zai (i:=9) zcg.nd rfl (Or.inl rfl) (zaj C_arg hr rfl (zaa (e_op zay zaf (e_v 5) zae) (zaa (e_v 4) zad))))
 (zac (zdx (za1 zbp zb4 (e_op zax zaf (e_op zay zaf (e_v 5) zae) zae) zae (nomark _)) (zah (zai (i:=9) zcg.nd rfl (Or.inl rfl) (zaj C_send hr rfl (zaa (e_v 0) (zaa (e_v 1) (zaa (e_v 2) (zaa (e_v 3) (zaa (e_v 4) zad)))))))) zb9)
 (zac (zdx (za1 zbp zb4 (e_op zax zaf (e_op zay zaf (e_v 5) zae) zae) zae (nomark _)) (zah (zbn (e_v 6))) zb9)
 (zah (zbn (zbr (zaa zas (zaa (zaj C_path hr rfl (zaa (zaj C_next hr rfl (zaa (e_v 0) (zaa (e_v 1) zad))) (zaa (e_v 4) zad))) (zaa (e_v 6) (zaa (e_v 9) zad))))))))))))))),?_⟩
  have nm1:∀o,up S sp o nm=some (.lst (names.map D.str)):=fun o=>by rw [zbm (Ne.symm n1)];exact hnm
  have ct1:∀o,up S sp o ct=some (.lst (cD counts)):=fun o=>by rw [zbm (Ne.symm n2)];exact hct
  have fin:∀(s:Sy) (i2:Int),Bd (arOf names counts) ps 12 6 1500 s→0≤i2→∃a o,Sub (up S a o) (up S sp (.lst (.int i2::rest)))∧q s.d a o:=fun s i2 h1 h2=>⟨sp,_,Sub.refl _,hq s i2 h1 h2⟩
  have snd:∀(i1:Int) (Q:K3),0≤i1→(∀(x:Str) (as:List Sy) (i2:Int),SendOk (arOf names counts) ps x as→0≤i2→Q (Sy.send x as).d (up S sp (.lst (.int i2::rest)))) →
      zh8 [.rol (ns.map D.int),.ref sp,.ref nm,.ref ct,.tup (ps.map D.str)] (up S sp (.lst (.int i1::rest))) Q (fun _ _ _=>False):=fun i1 Q h1 h2 =>
    ⟨ns,sp,nm,ct,i1,rest,names,ps,counts,rfl,zab,nm1 _,ct1 _,n1,n2,h1,l1,l4,m1,nd,hlc,hc4,fun x as i2 ho hi2=>by
      show Q _ (up (up S sp _) sp _)
      rw [zgn]
      exact h2 x as i2 ho hi2⟩
  nofun
  refine ⟨ns,sp,i,rest,rfl,hsp,hi,?_⟩
  generalize cellAt ns i=shape
  nofun
  refine snd _ _ (by omega) fun x0 as0 i0 ho0 hi0=>?_
  nofun
  refine j_ifm (fun σ T=>∃(s:Sy),σ=[some (.rol (ns.map D.int)),some (.ref sp),some (.ref nm),some (.ref ct),some (.tup (ps.map D.str)),some (.int shape),some s.d,none,none,none]∧T=up S sp (.lst (.int i0::rest))∧Bd (arOf names counts) ps 7 1 200 s) ?_ ?_
  · intro n' hn'
    by_cases c1:shape%4=1
    · nofun
      refine ⟨_,ps,rfl,l1,l4,fun p hp=>?_⟩
      nofun
      exact hn' _ _ ⟨.pair (.send x0 as0) p,rfl,rfl,(ho0.bd.pair (hp.bd.mono (n':=6) (by decide) (Nat.le_refl _) (Nat.le_refl _))).mono (by decide) (by decide) (by decide)⟩
    · nofun
      exact hn' _ _ ⟨.send x0 as0,rfl,rfl,ho0.bd.mono (by decide) (by decide) (by decide)⟩
  rintro σ T ⟨s,rfl,rfl,hs⟩
  nofun
  refine j_ifm (fun σ T=>Ex4 fun (s:Sy) (x7 x8:Option D) (i1:Int)=>σ=[some (.rol (ns.map D.int)),some (.ref sp),some (.ref nm),some (.ref ct),some (.tup (ps.map D.str)),some (.int shape),some s.d,x7,x8,none]∧0≤i1∧T=up S sp (.lst (.int i1::rest))∧Bd (arOf names counts) ps 8 3 600 s) ?_ ?_
  · intro n' hn'
    by_cases c1:shape%4=2
    · nofun
      refine snd _ _ (by omega) fun x1 as1 i1 ho1 hi1=>?_
      simp only [Sy.d,Sy.ds_map]
      have hl1:=ho1.l1
      have hl4:=ho1.l4
      nofun
      rw [zcy (by decide)]
      refine j_catT (by simp) (zbg (by simp;omega)) ?_
      nofun
      have er:[s.d]++(as1.map Sy.d).drop (Int.toNat 1)=([s]++as1.drop [s].length).map Sy.d:=by simp
      rw [er]
      refine j_ifm (fun σ T=>Ex2 fun (bs:List Sy) (i2:Int)=>σ=[some (.rol (ns.map D.int)),some (.ref sp),some (.ref nm),some (.ref ct),some (.tup (ps.map D.str)),some (.int shape),some s.d,some (.tup [.str "send",.str x1,.tup (as1.map Sy.d)]),some (.tup ((bs++as1.drop bs.length).map Sy.d)),none] ∧
        0≤i2∧T=up S sp (.lst (.int i2::rest))∧(∀b∈bs,b.wf (arOf names counts) ps∧b.deep≤7)∧Sy.sendss bs≤2∧(Sy.pres bs).length≤325∧bs.length≤as1.length∧1≤bs.length) ?_ ?_
      · intro n2 hn2
        have one:Sy.sendss [s]≤1∧(Sy.pres [s]).length≤200:=by
          have:=hs.sends
          have:=hs.size
          rw [Sy.sendss_cons,za5]
          simp [Sy.sendss,Sy.pres]
          omega
        have stay:n2 [some (.rol (ns.map D.int)),some (.ref sp),some (.ref nm),some (.ref ct),some (.tup (ps.map D.str)),some (.int shape),some s.d,some (.tup [.str "send",.str x1,.tup (as1.map Sy.d)]),some (.tup (([s]++as1.drop [s].length).map Sy.d)),none] (up S sp (.lst (.int i1::rest))) :=
          hn2 _ _ ⟨[s],i1,rfl,hi1,rfl,fun b hb=>by rw [List.mem_singleton.mp hb];exact ⟨hs.wf,hs.deep⟩,by omega,by omega,by simpa using hl1,by simp⟩
        have elen:((([s]++as1.drop [s].length).map Sy.d).length:Int)=(as1.length:Int):=by
          rw [List.length_map,List.length_append,List.length_drop]
          simp
          omega
        by_cases c2:shape/20%3=1
        · by_cases c3:(1:Int)<(as1.length:Int)
          · nofun
            refine snd _ _ (by omega) fun x2 as2 i2 ho2 hi2=>?_
            nofun
            rw [zcy (by decide)]
            refine j_catT (by simp) (zbg (by simp;omega)) ?_
            have e2:[s.d,(Sy.send x2 as2).d]++(([s]++as1.drop [s].length).map Sy.d).drop (Int.toNat 2)=([s,.send x2 as2]++as1.drop [s,.send x2 as2].length).map Sy.d:=by simp
            rw [e2]
            have b2:=ho2.bd
            refine hn2 _ _ ⟨[s,.send x2 as2],i2,rfl,hi2,rfl,fun b hb=>?_,?_,?_,?_,by simp⟩
            · simp only [List.mem_cons,List.not_mem_nil,or_false] at hb
              rcases hb with rfl|rfl
              · exact ⟨hs.wf,hs.deep⟩
              · exact ⟨b2.wf,Nat.le_trans b2.deep (by decide)⟩
            · have:=hs.sends
              have:=b2.sends
              rw [Sy.sendss_cons,Sy.sendss_cons]
              simp [Sy.sendss,Sy.pres]
              omega
            · have:=hs.size
              have:=b2.size
              rw [za5,za5]
              simp [Sy.pres]
              omega
            · simp
              omega
          · nofun
            exact stay
        · nofun
          exact stay
      rintro σ T ⟨bs,i2,rfl,hi2,rfl,hb1,hb2,hb3,hb4,hb5⟩
      nofun
      refine hn' _ _ ⟨.send x1 (bs++as1.drop bs.length),_,_,i2,by simp only [Sy.d,Sy.ds_map];rfl,hi2,rfl,(ho1.put (by decide) bs hb1 hb2 hb3 hb4 hb5).mono (by decide) (by decide) (by decide)⟩
    · nofun
      exact hn' _ _ ⟨s,none,none,i0,rfl,hi0,rfl,hs.mono (by decide) (by decide) (by decide)⟩
  rintro σ T ⟨s,x7,x8,i1,rfl,hi1,rfl,hs⟩
  nofun
  refine j_ifm (fun σ T=>Ex2 fun (s:Sy) (i2:Int)=>σ=[some (.rol (ns.map D.int)),some (.ref sp),some (.ref nm),some (.ref ct),some (.tup (ps.map D.str)),some (.int shape),some s.d,x7,x8,none]∧0≤i2∧T=up S sp (.lst (.int i2::rest))∧Bd (arOf names counts) ps 9 4 800 s) ?_ ?_
  · intro n' hn'
    by_cases c1:shape%4=3
    · nofun
      refine snd _ _ (by omega) fun x2 as2 i2 ho2 hi2=>?_
      nofun
      exact hn' _ _ ⟨.pair s (.send x2 as2),i2,rfl,hi2,rfl,(hs.pair (ho2.bd.mono (n':=8) (by decide) (Nat.le_refl _) (Nat.le_refl _))).mono (by decide) (by decide) (by decide)⟩
    · nofun
      exact hn' _ _ ⟨s,i1,rfl,hi1,rfl,hs.mono (by decide) (by decide) (by decide)⟩
  rintro σ T ⟨s,i2,rfl,hi2,rfl,hs⟩
  nofun
  refine ⟨_,ps,rfl,l1,l4,fun a ha=>?_⟩
  nofun
  refine j_ifm (fun σ T=>Ex2 fun (t:Sy) (i3:Int)=>σ=[some (.rol (ns.map D.int)),some (.ref sp),some (.ref nm),some (.ref ct),some (.tup (ps.map D.str)),some (.int shape),some s.d,x7,x8,some t.d]∧0≤i3∧T=up S sp (.lst (.int i3::rest))∧Bd (arOf names counts) ps 9 1 125 t) ?_ ?_
  · intro n' hn'
    by_cases c1:shape/4%5=1
    · nofun
      refine snd _ _ (by omega) fun x2 as2 i3 ho2 hi3=>?_
      nofun
      exact hn' _ _ ⟨.send x2 as2,i3,rfl,hi3,rfl,ho2.bd.mono (by decide) (by decide) (by decide)⟩
    · nofun
      exact hn' _ _ ⟨a,i2,rfl,hi2,rfl,ha.bd.mono (by decide) (by decide) (by decide)⟩
  rintro σ T ⟨t,i3,rfl,hi3,rfl,ht⟩
  nofun
  refine j_ifm (fun σ T=>σ=[some (.rol (ns.map D.int)),some (.ref sp),some (.ref nm),some (.ref ct),some (.tup (ps.map D.str)),some (.int shape),some s.d,x7,x8,some t.d]∧T=up S sp (.lst (.int i3::rest))) ?_ ?_
  · intro n' hn'
    by_cases c1:shape/4%5=2
    · nofun
      exact fin s i3 (hs.mono (by decide) (by decide) (by decide)) hi3
    · nofun
      exact hn' _ _ ⟨rfl,rfl⟩
  rintro σ T ⟨rfl,rfl⟩
  nofun
  refine ⟨ns,sp,i3,rest,rfl,zab,hi3,?_⟩
  nofun
  refine ⟨_,ps,rfl,l1,l4,fun p hp=>?_⟩
  nofun
  rw [zgn]
  exact fin (.fork p s t) _ (((hp.bd.mono (n':=9) (by decide) (Nat.le_refl _) (Nat.le_refl _)).fork hs ht).mono (by decide) (by decide) (by decide)) (by omega)
structure Pg (prog:List Er):Prop where
  len1:1≤prog.length
  len:prog.length≤12
  nd:(prog.map Er.name).Nodup
  nm:∀e∈prog,NameOk e.name
  ps:∀e∈prog,1≤e.ps.length∧e.ps.length≤4∧e.ps.Nodup∧∀x∈e.ps,NameOk x
  body:∀e∈prog,Bd (arP prog) e.ps 12 12 5000 e.body
structure ErP (ar:Str→Option Nat) (e:Er):Prop where
  l1:1≤e.ps.length
  l4:e.ps.length≤4
  nd:e.ps.Nodup
  ok:∀x∈e.ps,NameOk x
  bd:Bd ar e.ps 12 6 1500 e.body
inductive zm2  (ds:List D) (S:Hp3) (q:List D→Addr→O→Prop):Prop where
  | mk (ns:List Int) (sp:Addr) (i most:Int) (rest:List D) (_:ds=[.rol (ns.map D.int),.ref sp,.int most]) (_:S sp=some (.lst (.int i::rest))) (_:0≤i) (_:1≤most) (_:most≤12) (_:∀(prog:List Er) (i2:Int),Pg prog→prog.length≤most.toNat→0≤i2→q (prog.map Er.d) sp (.lst (.int i2::rest)))
def zf8 :Sp3:=wrL zm2
theorem zka {k:Nat} (h:Has K mg "_law_program" zch ["script","spot","most"]) (G:Gs K mg) (C_next:Cal3 P w K mg base k "_law_next" ["script","spot"] ze6) (C_names:Cal3 P w K mg base k "_law_names" ["cell","many"] zi5)
    (C_body:Cal3 P w K mg base k "_law_body" ["script","spot","names","counts","params"] zk7):Cal3 P w K mg base (k+1) "_law_program" ["script","spot","most"] zf8:=by
  refine h.wrL zbi (by rintro ds S q ⟨_,_,_,_,_,e,_⟩;rw [e];rfl) fun f cdv A outer s H E ds S q hr hA=>?_
  obtain ⟨ns,sp,i,most,rest,rfl,hsp,hi,m1,m12,hq⟩:=hA
  refine ⟨_,(zac (zai (i:=3) zbi.nd rfl (Or.inr rfl) (zaj C_next hr rfl (zaa (e_v 0) (zaa (e_v 1) zad))))
 (zac (zai (i:=4) zbi.nd rfl (Or.inl rfl) (e_op zgh zd5 zae (e_op zax zaf (e_v 3) (e_v 2))))
 (zac (zai (i:=5) zbi.nd rfl (Or.inl rfl) (zaj C_names hr rfl (zaa (e_op zax zaf (e_op zay zaf (e_v 3) (e_v 2)) (e_op zlu zaf zae zae)) (zaa (e_v 4) zad))))
 (zac (zai (i:=6) zbi.nd rfl (Or.inl rfl) (zaj C_names hr rfl (zaa (e_op zax zaf (zaj C_next hr rfl (zaa (e_v 0) (zaa (e_v 1) zad))) (e_op zlu zaf zae zae)) (zaa zae zad))))
 (zac (zi8 (i:=7) (osc:=defScope zch) (N:=["script","spot","most","head","many","names","params","counts","program","k","mine"]) (M:=["head"]) (js:=[3]) ⟨rfl,by decide +kernel,by decide +kernel,rfl,by decide +kernel,by decide +kernel,by decide +kernel⟩ (by decide +kernel) rfl (zb3 rfl G.range (zaa (e_v 4) zad)) (fun _ _ _ _ _=>(e_ix zb1 zcx (zdq (zaa zae (zaa zae (zaa zae (zaa zae (zaa zae zad)))))) (e_op zax zaf (e_op zay zaf (e_v 1) (e_op op_mul zaf zae (e_op zgh zd5 (e_v 0) zae))) zae) (fun _ _=>rfl))) zbi.nd rfl rfl)
 (zac (zai (i:=8) zbi.nd rfl (Or.inl rfl) (zdq zad))
 (zac (zf0 PassesOwn.never rfl (zb3 rfl G.range (zaa (e_v 4) zad)) (zdf (i:=9) zbi.nd rfl (Or.inl rfl)) (zac (zai (i:=10) zbi.nd rfl (Or.inl rfl) (zc7 zbv zd3 rfl G.tuple boot_tuple (zaa (za8 zc0 zd4 (e_op zlw ziq (za8 zc0 zd4 (e_v 6) (zbl (e_op zax zaf (e_v 9) zae)) zbq) (za8 zc0 zd4 (e_v 6) zbq (zbl (e_op zax zaf (e_v 9) zae)))) zbq (zbl (e_ix zb1 zcx (e_v 7) (e_v 9) (fun _ _=>rfl)))) zad)))
 (zah (zaz (e_bm PySem.F.plainAttrs_list PySem.F.slot_list_append PySem.F.type_list_append zam zao (e_v 8) (zaa (zbr (zaa (e_ix zb1 zcx (e_v 5) (e_v 9) (fun _ _=>rfl)) (zaa (e_v 10) (zaa (zaj C_body hr rfl (zaa (e_v 0) (zaa (e_v 1) (zaa (e_v 5) (zaa (e_v 7) (zaa (e_v 10) zad)))))) zad)))) zad))))))
 (zah (zbn (e_v 8)))))))))),?_⟩
  nofun
  refine ⟨ns,sp,i,rest,rfl,hsp,hi,?_⟩
  generalize cellAt ns i=head
  have hm0:=Int.emod_nonneg head (show most≠0 by omega)
  have hm1:=Int.emod_lt_of_pos head (show 0<most by omega)
  have t14:(0:Int)<10^(Int.toNat 14):=by decide
  nofun
  refine ⟨_,_,rfl,Int.emod_nonneg _ (by decide),by omega,by omega,fun names Rn=>?_⟩
  intro nm hnm
  have n1:sp≠nm:=ne3 zab hnm
  nofun
  refine ⟨ns,sp,i+1,rest,rfl,zag zab hnm,by omega,?_⟩
  generalize cellAt ns (i+1)=c2
  nofun
  refine ⟨_,4,rfl,Int.emod_nonneg _ (by decide),by omega,by omega,fun pp Rp=>?_⟩
  intro pm hpm
  nofun
  generalize hmany:1+head%most=many
  have h1m:1≤many:=by omega
  have h12:many≤most:=by omega
  obtain ⟨cnt,hcnt⟩:∃cnt:Nat→Nat,∀k:Nat,atI [D.int 2,.int 1,.int 2,.int 2,.int 3] (head/(7*(0+(k:Int)+1))%5)=some (.int (cnt k:Int))∧1≤cnt k∧cnt k≤4:=by
    have:∀k:Nat,∃c:Nat,atI [D.int 2,.int 1,.int 2,.int 2,.int 3] (head/(7*(0+(k:Int)+1))%5)=some (.int (c:Int))∧1≤c∧c≤4:=fun k=>by
      generalize head/(7*(0+(k:Int)+1))=x
      have h5:x%5=0∨x%5=1∨x%5=2∨x%5=3∨x%5=4:=by omega
      rcases h5 with e|e|e|e|e
      · exact ⟨2,by rw [e];rfl,by decide,by decide⟩
      · exact ⟨1,by rw [e];rfl,by decide,by decide⟩
      · exact ⟨2,by rw [e];rfl,by decide,by decide⟩
      · exact ⟨2,by rw [e];rfl,by decide,by decide⟩
      · exact ⟨3,by rw [e];rfl,by decide,by decide⟩
    exact ⟨fun k=>(this k).choose,fun k=>(this k).choose_spec⟩
  have g_sp:=zag (o:=.lst (pp.map D.str)) (zab (S:=up (up S sp (.lst (.int (i+1)::rest))) nm (.lst (names.map D.str))) (a:=sp) (o:=.lst (.int (i+1+1)::rest))) hpm
  have g_nm:up (up (up (up S sp (.lst (.int (i+1)::rest))) nm (.lst (names.map D.str))) sp (.lst (.int (i+1+1)::rest))) pm (.lst (pp.map D.str)) nm=some (.lst (names.map D.str)) :=
    zag (by rw [zbm (Ne.symm n1)];exact zab) hpm
  have g_pm:up (up (up (up S sp (.lst (.int (i+1)::rest))) nm (.lst (names.map D.str))) sp (.lst (.int (i+1+1)::rest))) pm (.lst (pp.map D.str)) pm=some (.lst (pp.map D.str)):=zab
  have g_px:Px sp S (up (up (up (up S sp (.lst (.int (i+1)::rest))) nm (.lst (names.map D.str))) sp (.lst (.int (i+1+1)::rest))) pm (.lst (pp.map D.str))):=((Px.refl sp S).at.new hnm).at.new hpm
  have q_pm:sp≠pm:=ne3 zab hpm
  generalize up (up (up (up S sp (.lst (.int (i+1)::rest))) nm (.lst (names.map D.str))) sp (.lst (.int (i+1+1)::rest))) pm (.lst (pp.map D.str))=S4 at g_sp g_nm g_pm g_px ⊢
  refine zmv (fun k=>.int (cnt k)) (by rw [za9];omega) (fun _ _=>trivial) ?_ ?_
  · intro j d S' hd hs' P hP
    obtain ⟨hj,rfl⟩:=zco hd
    nofun
    intro p1 hp1
    nofun
    refine j_ixL zab (hcnt j).1 ?_
    exact hP _ ((Sub.refl S').up hp1)
  intro S5 s45
  replace g_sp:=s45 _ _ g_sp
  replace g_nm:=s45 _ _ g_nm
  replace g_pm:=s45 _ _ g_pm
  replace g_px:=g_px.ext s45
  rw [za9]
  obtain ⟨counts,hcounts⟩:∃counts,counts=(List.range many.toNat).map cnt:=⟨_,rfl⟩
  have ecd:((List.range many.toNat).map fun k=>D.int (cnt k:Int))=cD counts:=by rw [hcounts,cD,List.map_map];rfl
  rw [ecd]
  have hc4:∀c∈counts,1≤c∧c≤4:=fun c hc=>by
    rw [hcounts] at hc
    obtain ⟨k,_,rfl⟩:=List.mem_map.mp hc
    exact (hcnt k).2
  have hlc:counts.length=many.toNat:=by rw [hcounts];simp
  intro ct hct
  nofun
  intro pr hpr
  have hnl:=Rn.len
  rw [hmany] at Rn hnl
  have q_nm:sp≠nm:=n1
  have q_ct:sp≠ct:=ne3 g_sp hct
  have q_pr:sp≠pr:=ne3 (zag g_sp hct) hpr
  have r_nm:nm≠pr:=ne3 (zag g_nm hct) hpr
  have r_pm:pm≠pr:=ne3 (zag g_pm hct) hpr
  have r_ct:ct≠pr:=ne3 zab hpr
  have f_pr:S pr=none:=(g_px.new hct).free hpr (Ne.symm q_pr)
  replace g_sp:=zag (o:=.lst []) (zag (o:=.lst (cD counts)) g_sp hct) hpr
  replace g_nm:=zag (o:=.lst []) (zag (o:=.lst (cD counts)) g_nm hct) hpr
  replace g_pm:=zag (o:=.lst []) (zag (o:=.lst (cD counts)) g_pm hct) hpr
  replace g_px:=(g_px.new (o:=.lst (cD counts)) hct).new (o:=.lst []) hpr
  have g_ct:up (up S5 ct (.lst (cD counts))) pr (.lst []) ct=some (.lst (cD counts)):=zag zab hpr
  have g_pr:up (up S5 ct (.lst (cD counts))) pr (.lst []) pr=some (.lst []):=zab
  generalize up (up S5 ct (.lst (cD counts))) pr (.lst [])=S6 at g_sp g_nm g_pm g_px g_ct g_pr ⊢
  nofun
  refine ⟨fun j σ S'=>Ex4 fun (ers:List Er) (i1:Int) (x10 x11:Option D)=>σ=[some (.rol (ns.map D.int)),some (.ref sp),some (.int most),some (.int head),some (.int many),some (.ref nm),some (.ref pm),some (.ref ct),some (.ref pr),x10,x11] ∧
    S' sp=some (.lst (.int i1::rest))∧S' nm=some (.lst (names.map D.str))∧S' pm=some (.lst (pp.map D.str))∧S' ct=some (.lst (cD counts))∧S' pr=some (.lst (ers.map Er.d))∧Px sp S S' ∧
    ers.length=j∧0≤i1∧ers.map Er.name=names.take j∧(ers.map fun e=>e.ps.length)=counts.take j∧(∀e∈ers,ErP (arOf names counts) e),
    ⟨[],i+1+1,none,none,rfl,g_sp,g_nm,g_pm,g_ct,g_pr,g_px,rfl,by omega,rfl,rfl,by simp⟩,fun _ _ _ _=>trivial,?turn,?done⟩
  case turn =>
    clear g_sp g_nm g_pm g_ct g_pr g_px
    rintro j d σ S' hd ⟨ers,i1,x10,x11,rfl,g_sp,g_nm,g_pm,g_ct,g_pr,g_px,hl,hi1,en,ec,hk⟩
    obtain ⟨hj,rfl⟩:=zco hd
    have c0:=Int.emod_nonneg (0+(j:Int)) (show (4:Int)≠0 by decide)
    have ap:∀{α:Type} {f:α→D} {xs:List α} {v:α},xs[j]?=some v→atI (xs.map f) (0+(j:Int))=some (f v):=fun {α f xs v} hv=>by
      have e:(0:Int)+(j:Int)=((j:Nat):Int):=by omega
      rw [e]
      refine zdg ?_
      rw [List.getElem?_map,hv]
      rfl
    obtain ⟨cn,hcn⟩:∃cn,counts[j]?=some cn:=⟨_,List.getElem?_eq_getElem (by omega)⟩
    obtain ⟨nj,hnj⟩:∃nj,names[j]?=some nj:=⟨_,List.getElem?_eq_getElem (by omega)⟩
    have hcn4:=hc4 cn (List.mem_of_getElem? hcn)
    nofun
    rw [zcy c0]
    intro p1 hp1
    have g1:=zag (o:=.lst ((pp.map D.str).drop ((0+(j:Int))%4).toNat)) g_pm hp1
    nofun
    rw [zg2 c0]
    intro p2 hp2
    have hpl:=Rp.len
    refine j_catL (zag zab hp2) zab ?_ ?_
    · rw [List.length_drop,List.length_take,List.length_map]
      exact zbg (by omega)
    intro p3 hp3
    nofun
    refine j_ixL (zag (zag (zag g_ct hp1) hp2) hp3) (ap hcn) ?_
    nofun
    rw [zg2 (by omega),Int.toNat_natCast]
    intro p4 hp4
    nofun
    obtain ⟨mine,hmine⟩:∃mine,mine=(pp.drop ((0+(j:Int))%4).toNat++pp.take ((0+(j:Int))%4).toNat).take cn:=⟨_,rfl⟩
    have em:((pp.map D.str).drop ((0+(j:Int))%4).toNat++(pp.map D.str).take ((0+(j:Int))%4).toNat).take cn=mine.map D.str:=by
      rw [hmine,←List.map_drop,←List.map_take,←List.map_append,←List.map_take]
    rw [em]
    have hmo:mine.length=cn∧mine.Nodup∧∀x∈mine,NameOk x:=by
      rw [hmine]
      exact ps_ok Rp.turn (by show cn≤4;omega)
    have hsub:=((((Sub.refl S').up (o:=.lst ((pp.map D.str).drop ((0+(j:Int))%4).toNat)) hp1).up (o:=.lst ((pp.map D.str).take ((0+(j:Int))%4).toNat)) hp2).up
      (o:=.lst ((pp.map D.str).drop ((0+(j:Int))%4).toNat++(pp.map D.str).take ((0+(j:Int))%4).toNat)) hp3).up (o:=.lst (mine.map D.str)) hp4
    generalize up (up (up (up S' p1 _) p2 _) p3 _) p4 _=S5 at hsub ⊢
    replace g_sp:=hsub _ _ g_sp
    replace g_nm:=hsub _ _ g_nm
    replace g_pm:=hsub _ _ g_pm
    replace g_ct:=hsub _ _ g_ct
    replace g_pr:=hsub _ _ g_pr
    replace g_px:=g_px.ext hsub
    nofun
    refine j_ixL g_nm (ap hnj) ?_
    nofun
    refine ⟨ns,sp,nm,ct,i1,rest,names,mine,counts,rfl,g_sp,g_nm,g_ct,q_nm,q_ct,hi1,by omega,by omega,by omega,Rn.nd,by omega,hc4,fun s i2 hbd hi2=>?_⟩
    nofun
    have h_pr:up S5 sp (.lst (.int i2::rest)) pr=some (.lst (ers.map Er.d)):=by rw [zbm (Ne.symm q_pr)];exact g_pr
    refine j_append h_pr (by rw [List.length_map];exact zav (by omega)) ?_
    have ee:ers.map Er.d++[D.tup [D.str nj,D.tup (mine.map D.str),s.d]]=(ers++[(⟨nj,mine,s⟩:Er)]).map Er.d:=by simp [Er.d]
    rw [ee]
    refine ⟨ers++[(⟨nj,mine,s⟩:Er)],i2,_,_,rfl,?_,?_,?_,?_,zab,(g_px.at).fresh f_pr,by simp [hl],hi2,?_,?_,?_⟩
    · rw [zbm q_pr];exact zab
    · rw [zbm r_nm,zbm (Ne.symm q_nm)];exact g_nm
    · rw [zbm r_pm,zbm (Ne.symm q_pm)];exact g_pm
    · rw [zbm r_ct,zbm (Ne.symm q_ct)];exact g_ct
    · rw [List.take_succ,hnj,List.map_append,en];rfl
    · rw [List.take_succ,hcn,List.map_append,ec]
      show counts.take j++[mine.length]=_
      rw [hmo.1]
      rfl
    · intro e he
      rcases List.mem_append.mp he with he|he
      · exact hk e he
      · rw [List.mem_singleton.mp he]
        exact ⟨by show 1≤mine.length;omega,by show mine.length≤4;omega,hmo.2.1,hmo.2.2,hbd⟩
  rintro σ S' ⟨ers,i1,x10,x11,rfl,g_sp,g_nm,g_pm,g_ct,g_pr,g_px,hl,hi1,en,ec,hk⟩
  rw [za9] at hl en ec
  rw [List.take_of_length_le (by omega)] at en ec
  nofun
  refine ⟨pr,_,sp,_,rfl,f_pr,by rw [hsp];simp,g_px.sub g_sp,g_pr,hq ers i1 ⟨by omega,by omega,?_,fun e he=>?_,fun e he=>?_,fun e he=>?_⟩ (by omega) hi1⟩
  · rw [en];exact Rn.nd
  · exact Rn.ok _ (by rw [←en];exact List.mem_map_of_mem he)
  · exact ⟨(hk e he).l1,(hk e he).l4,(hk e he).nd,(hk e he).ok⟩
  · rw [arP_eq en ec];exact (hk e he).bd.mono (by decide) (by decide) (by decide)
inductive zm1  (ds:List D) (q:D→Prop):Prop where
  | mk (c n:Int) (_:ds=[.int c,.int n]) (_:0≤n) (_:n≤100) (_:∀t:Tre,(t.size:Int)≤n→q t.d)
def zf7 :Sp3:=vS zm1
theorem zju (ts:List Tre) (i:Nat) {t:Tre} (h:ts[i]?=some t):sizes (ts.take (i+1))=sizes (ts.take i)+t.size:=by
  rw [List.take_add_one,h,zan]
  simp [sizes]
theorem zmu (x:D) (xs:List D):E3.cutD (x::xs) (some 1) none=xs:=by
  unfold E3.cutD
  have e1:HT.sIx (x::xs).length 0 (some (1:Int))=1:=by
    have:=HT.zff (x::xs).length 0 1
    rw [Nat.min_eq_left (by simp)] at this
    exact this
  rw [e1,HT.zdy]
  exact List.take_of_length_le (by rw [List.length_drop];omega)
theorem zj9 {k:Nat} (h:Has K mg "_law_tree_by" zcr ["cell","room"]) (G:Gs K mg):Cal3 P w K mg base (k+1) "_law_tree_by" ["cell","room"] zf7:=by
  refine h.val zbe (by rintro ds q ⟨c,n,e,_⟩;rw [e];rfl) fun f cdv A outer s0 H E ds q hr hA=>?_
  obtain ⟨c,n,rfl,h0,h1,hq⟩:=hA
  refine ⟨_,(zac (zai (i:=2) zbe.nd rfl (Or.inl rfl) (zdq (zaa zdp zad)))
 (zac (zai (i:=3) zbe.nd rfl (Or.inl rfl) (e_op zax zaf (e_v 0) (e_op zlu zaf zae zae)))
 (zac (zf0 PassesOwn.never rfl (zb3 rfl G.range (zaa (e_v 1) zad)) (zdf (i:=4) zbe.nd rfl (Or.inl rfl)) (zac (zai (i:=5) zbe.nd rfl (Or.inl rfl) (e_op zax zaf (e_v 3) zae))
 (zac (zai (i:=3) zbe.nd rfl (Or.inl rfl) (e_op zay zaf (e_v 3) zae))
 (zah (s_if (za1 zbp zb4 (e_v 5) zae (nomark _)) (zah (zaz (e_bm PySem.F.plainAttrs_list PySem.F.slot_list_append PySem.F.type_list_append zam zao (e_v 2) (zaa zdp zad)))) (zah (s_if (PW3.pt (w_and (za1 zbp zb4 (e_v 5) zae (nomark _)) (ze2 (za1 zlv zc8 (za3 zak zb8 rfl G.len PySem.boot_len (zaa (e_v 2) zad)) zae (nomark _))))) (zac (zai (i:=6) zbe.nd rfl (Or.inl rfl) (zet PySem.F.plainAttrs_list PySem.F.slot_list_pop PySem.F.type_list_pop zb5 zda (e_v 2)))
 (zah (zaz (e_bm PySem.F.plainAttrs_list PySem.F.slot_list_append PySem.F.type_list_append zam zao (e_v 2) (zaa (zbr (zaa (zet PySem.F.plainAttrs_list PySem.F.slot_list_pop PySem.F.type_list_pop zb5 zda (e_v 2)) (zaa (e_v 6) zad))) zad))))) (zah (s_if (za1 zbp zb4 (e_v 5) zae (nomark _)) (zah (zaz (e_bm PySem.F.plainAttrs_list PySem.F.slot_list_append PySem.F.type_list_append zam zao (e_v 2) (zaa (zbr (zaa (zet PySem.F.plainAttrs_list PySem.F.slot_list_pop PySem.F.type_list_pop zb5 zda (e_v 2)) (zaa zdp zad))) zad)))) (zah (zaz (e_bm PySem.F.plainAttrs_list PySem.F.slot_list_append PySem.F.type_list_append zam zao (e_v 2) (zaa (zbr (zaa zdp (zaa (zet PySem.F.plainAttrs_list PySem.F.slot_list_pop PySem.F.type_list_pop zb5 zda (e_v 2)) zad))) zad)))))))))))))
 (zac (zai (i:=7) zbe.nd rfl (Or.inl rfl) (e_ix zb1 zcx (e_v 2) zae (fun _ _=>rfl)))
 (zac (zf0 PassesOwn.never rfl (zho (za8 zc0 zd4 (e_v 2) (zbl zae) zbq)) (zdf (i:=8) zbe.nd rfl (Or.inl rfl)) (zah (zai (i:=7) zbe.nd rfl (Or.inl rfl) (zbr (zaa (e_v 7) (zaa (e_v 8) zad))))))
 (zah (zbn (e_v 7)))))))),?_⟩
  nofun
  intro p hp
  nofun
  refine ⟨fun i σ S=>Ex7 fun (lf:Int) (ts:List Tre) (x4 x5 x6 x7 x8:Option D)=>σ=[some (.int c),some (.int n),some (.ref p),some (.int lf),x4,x5,x6,x7,x8]∧S p=some (.lst (ts.map Tre.d))∧1≤ts.length∧sizes ts+ts.length≤i+1,
    ⟨_,[.bud],none,none,none,none,none,rfl,zab,by simp,by simp [sizes,Tre.size]⟩,fun _ _ _ _=>trivial,?_,?_⟩
  · rintro i d σ S hd ⟨lf,ts,x4,x5,x6,x7,x8,rfl,hS,one,few⟩
    obtain ⟨hi,rfl⟩:=zco hd
    have hlen:(ts.map Tre.d).length+5<sizeLine:=by rw [List.length_map];exact Nat.lt_of_le_of_lt (by omega:ts.length+5≤3003) (by decide)
    have put:∀(us:List Tre) (u:Tre),((us.map Tre.d)++[u.d])=(us++[u]).map Tre.d:=fun us u=>by simp
    by_cases c0:lf%4=0
    · nofun
      refine j_append hS (by omega) ?_
      nofun
      refine ⟨_,ts++[.bud],_,_,_,_,_,rfl,by rw [zab,←put];rfl,by simp,?_⟩
      rw [zan]
      simp only [sizes,Tre.size,List.length_append,List.length_cons,List.length_nil]
      omega
    · rcases snoc_cases ts with rfl|⟨ts,ty,rfl⟩
      · simp at one
      have hS1:=hS
      rw [←put] at hS1
      clear hS
      rw [zan] at few
      simp only [sizes,List.length_append,List.length_cons,List.length_nil,List.length_map] at few hlen
      by_cases hc:lf%4=1∧1<((ts.map Tre.d++[ty.d]).length:Int)
      · obtain ⟨c1,c2⟩:=hc
        rcases snoc_cases ts with rfl|⟨ts,tz,rfl⟩
        · simp at c2
        rw [zan] at few
        simp only [sizes,List.length_append,List.length_cons,List.length_nil] at few hlen
        nofun
        refine j_pop hS1 ?_
        have hS2:up S p (.lst ((ts++[tz]).map Tre.d)) p=some (.lst (ts.map Tre.d++[tz.d])):=by rw [zab,put]
        nofun
        refine j_pop hS2 ?_
        rw [zgn]
        nofun
        refine j_append zab (by rw [List.length_map];omega) ?_
        rw [zgn]
        nofun
        refine ⟨_,ts++[.pair tz ty],_,_,_,_,_,rfl,by rw [zab,←put];rfl,by simp,?_⟩
        rw [zan]
        simp only [sizes,Tre.size,List.length_append,List.length_cons,List.length_nil]
        omega
      · have fin:∀u:Tre,u.size=ty.size+1→up S p (.lst (ts.map Tre.d++[u.d])) p=some (.lst ((ts++[u]).map Tre.d))∧1≤(ts++[u]).length∧sizes (ts++[u])+(ts++[u]).length≤i+1+1:=by
          intro u hu
          refine ⟨by rw [zab,put],by simp,?_⟩
          rw [zan]
          simp only [sizes,List.length_append,List.length_cons,List.length_nil]
          omega
        by_cases c1:lf%4=1
        case' pos =>
          have c2:¬1<((ts.map Tre.d++[ty.d]).length:Int):=fun z=>hc ⟨c1,z⟩
          have c3:¬lf%4=2:=by omega
        case' neg=>by_cases c3:lf%4=2
        all_goals
          nofun
          refine j_pop hS1 ?_
          nofun
          refine j_append zab (by rw [List.length_map];omega) ?_
          rw [zgn]
          nofun
        all_goals first|exact ⟨_,ts++[Tre.pair Tre.bud ty],_,_,_,_,_,rfl,fin (Tre.pair Tre.bud ty) (by simp [Tre.size])⟩|exact ⟨_,ts++[Tre.pair ty Tre.bud],_,_,_,_,_,rfl,fin (Tre.pair ty Tre.bud) (by simp [Tre.size])⟩
  · rintro σ S ⟨lf,ts,x4,x5,x6,x7,x8,rfl,hS,one,few⟩
    rw [za9] at few
    match ts,one with
    | t0::tr,_ =>
      simp only [sizes,List.length_cons] at few
      rw [List.map_cons] at hS
      nofun
      intro p2 hp2
      have hS2:=zag (o:=.lst (E3.cutD (t0.d::tr.map Tre.d) (some 1) none)) hS hp2
      have ecut:E3.cutD (t0.d::tr.map Tre.d) (some 1) none=tr.map Tre.d:=zmu _ _
      rw [ecut] at hS2 ⊢
      have hS3:up S p2 (.lst (tr.map Tre.d)) p2=some (.lst (tr.map Tre.d)):=zab
      generalize up S p2 (.lst (tr.map Tre.d))=S2 at hS2 hS3 ⊢
      nofun
      refine ⟨fun i σ S=>S=S2∧Ex2 fun (t:Tre) (x8:Option D)=>σ=[some (.int c),some (.int n),some (.ref p),some (.int lf),x4,x5,x6,some t.d,x8]∧t.size≤t0.size+sizes (tr.take i)+i,⟨rfl,t0,x8,rfl,by simp [sizes]⟩,fun i σ S ⟨e,_⟩=>by rw [e];exact hS3,?_,?_⟩
      · rintro i d σ S hd ⟨rfl,t,x8,rfl,hz⟩
        obtain ⟨ti,hti,rfl⟩:∃ti,tr[i]?=some ti∧d=ti.d:=by
          rw [List.getElem?_map] at hd
          cases c:tr[i]? with
          | none=>rw [c] at hd;cases hd
          | some e=>rw [c] at hd;cases hd;exact ⟨e,rfl,rfl⟩
        nofun
        refine ⟨rfl,.pair t ti,_,rfl,?_⟩
        rw [zju _ _ hti]
        simp only [Tre.size]
        omega
      · rintro σ S ⟨rfl,t,x8,rfl,hz⟩
        rw [List.length_map,List.take_length] at hz
        nofun
        exact hq t (by omega)
inductive zp5  (ds:List D) (S:Hp3) (q:List D→Addr→O→Prop):Prop where
  | mk (ns:List Int) (sp:Addr) (i n:Int) (rest:List D) (_:ds=[.rol (ns.map D.int),.ref sp,.int n]) (_:S sp=some (.lst (.int i::rest))) (_:0≤i) (_:0≤n) (_:n≤100) (_:∀(ts:List Tre) (i2:Int),ts.length=n.toNat→(∀t∈ts,t.size≤6)→0≤i2→q (ts.map Tre.d) sp (.lst (.int i2::rest)))
def zi4 :Sp3:=wrL zp5
theorem zns {k:Nat} (h:Has K mg "_law_trees" zeb ["script","spot","many"]) (G:Gs K mg) (C_next:Cal3 P w K mg base k "_law_next" ["script","spot"] ze6) (C_tree_by:Cal3 P w K mg base k "_law_tree_by" ["cell","room"] zf7):Cal3 P w K mg base (k+1) "_law_trees" ["script","spot","many"] zi4:=by
  refine h.wrL zez (by rintro ds S q ⟨_,_,_,_,_,e,_⟩;rw [e];rfl) fun f cdv A outer s H E ds S q hr hA=>?_
  obtain ⟨ns,sp,i,n,rest,rfl,hsp,hi,n0,n1,hq⟩:=hA
  refine ⟨_,(zac (zai (i:=3) zez.nd rfl (Or.inl rfl) (zdq zad))
 (zac (zf0 PassesOwn.never rfl (zb3 rfl G.range (zaa (e_v 2) zad)) (zdf (i:=4) zez.nd rfl (Or.inl rfl)) (zac (zai (i:=5) zez.nd rfl (Or.inl rfl) (zaj C_next hr rfl (zaa (e_v 0) (zaa (e_v 1) zad))))
 (zah (zaz (e_bm PySem.F.plainAttrs_list PySem.F.slot_list_append PySem.F.type_list_append zam zao (e_v 3) (zaa (zaj C_tree_by hr rfl (zaa (e_op zay zaf (e_v 5) zae) (zaa (e_op zax zaf (e_v 5) zae) zad))) zad))))))
 (zah (zbn (e_v 3))))),?_⟩
  nofun
  intro pf hpf
  have q_sp:sp≠pf:=ne3 hsp hpf
  nofun
  refine ⟨fun j σ S'=>Ex4 fun (ts:List Tre) (i2:Int) (x4 x5:Option D)=>σ=[some (.rol (ns.map D.int)),some (.ref sp),some (.int n),some (.ref pf),x4,x5]∧ts.length=j∧(∀t∈ts,t.size≤6)∧0≤i2∧S' sp=some (.lst (.int i2::rest))∧S' pf=some (.lst (ts.map Tre.d))∧Px sp S S',
    ⟨[],i,none,none,rfl,rfl,by simp,hi,zag hsp hpf,zab,(Px.refl sp S).new hpf⟩,fun _ _ _ _=>trivial,?_,?_⟩
  · rintro j d σ S' hd ⟨ts,i2,x4,x5,rfl,hl,hz,h2,g1,g2,gp⟩
    have hj:=(List.getElem?_eq_some_iff.mp hd).1
    rw [za9] at hj
    nofun
    refine ⟨ns,sp,i2,rest,rfl,g1,h2,?_⟩
    have g3:=za7 (o:=.lst (.int (i2+1)::rest)) g2 q_sp.symm
    have g4:up S' sp (.lst (.int (i2+1)::rest)) sp=some (.lst (.int (i2+1)::rest)):=zab
    have gp2:Px sp S (up S' sp (.lst (.int (i2+1)::rest))):=gp.at
    generalize up S' sp (.lst (.int (i2+1)::rest))=S2 at g3 g4 gp2 ⊢
    generalize cellAt ns i2=c
    have c0:=Int.emod_nonneg c (show (7:Int)≠0 by decide)
    have c1:=Int.emod_lt_of_pos c (show (0:Int)<7 by decide)
    nofun
    refine ⟨_,_,rfl,c0,by omega,fun t ht=>?_⟩
    nofun
    refine j_append g3 (zav (by rw [List.length_map];omega)) ?_
    nofun
    refine ⟨ts++[t],i2+1,_,_,rfl,by simp [hl],fun u hu=>?_,by omega,za7 g4 q_sp,by rw [zab,List.map_append];rfl,gp2.fresh hpf⟩
    rcases List.mem_append.mp hu with hu|hu
    · exact hz u hu
    · rw [List.mem_singleton.mp hu];omega
  · rintro σ S' ⟨ts,i2,x4,x5,rfl,hl,hz,h2,g1,g2,gp⟩
    rw [za9] at hl
    nofun
    exact ⟨pf,_,sp,_,rfl,hpf,by rw [hsp];simp,gp.sub g1,g2,hq ts i2 (by omega) hz h2⟩
inductive PtD:D→List D→Prop
  | name (x:Str):PtD (.tup [.str "name",.str x]) []
  | bud:PtD (.tup [.str "bud"]) []
  | pair (a b:D):PtD (.tup [.str "pair",a,b]) [a,b]
  | left (a:D):PtD (.tup [.str "left",a]) [a]
  | right (a:D):PtD (.tup [.str "right",a]) [a]
  | fork (a b c:D):PtD (.tup [.str "fork",a,b,c]) [a,b,c]
  | send (x:Str) (is r:List D):PtD (.tup (.str "send"::.str x::.tup is::r)) is
theorem PtD.of:∀s:Sy,PtD s.d (s.parts.map Sy.d)
  | .name x=>.name x
  | .bud=>.bud
  | .pair a b=>.pair _ _
  | .left a=>.left _
  | .right a=>.right _
  | .fork a b c=>.fork _ _ _
  | .send x as=>by rw [Sy.d,Sy.ds_map];exact .send x _ []
inductive zob  (ds:List D) (q:D→Prop):Prop where
  | mk (s:_) (ps:_) (_:ds=[s]) (_:PtD s ps) (_:q (.tup ps))
def ze4 :Sp3:=vS zob
inductive zp7  (ds:List D) (q:D→Prop):Prop where
  | mk (s:Sy) (_:ds=[s.d]) (_:q (.tup (s.parts.map Sy.d)))
def zgp :Sp3:=vS zp7
theorem znt {k:Nat} (h:Has K mg "parts" zec ["saying"]) (G:Gs K mg):Cal3 P w K mg base (k+1) "parts" ["saying"] ze4:=by
  refine h.val zm7 (by rintro ds q ⟨s,ps,e,_⟩;rw [e];rfl) fun f cdv A outer s0 H E ds q hr hA=>?_
  obtain ⟨s,ps,rfl,hp,hq⟩:=hA
  refine ⟨_,(zac (s_if (za1 zhi dn_in (e_ix zap zaq (e_v 0) zae (fun _ _=>rfl)) (zbr (zaa zas (zaa zas zad))) (by with_unfolding_all rfl)) (zah (zbn (zbr zad))) zb9)
 (zac (s_if (za1 zbp zcm (e_ix zap zaq (e_v 0) zae (fun _ _=>rfl)) zas (nomark _)) (zah (zbn (e_ix zap zaq (e_v 0) zae (fun _ _=>rfl)))) zb9)
 (zah (zbn (za8 zgs zjk (e_v 0) (zbl zae) zbq))))),?_⟩
  cases hp<;>(nofun;exact hq)
theorem zjc {k:Nat} (C:Cal3 P w K mg base k "parts" ["saying"] ze4):Cal3 P w K mg base k "parts" ["saying"] zgp:=C.imp fun _ _ _ _ ⟨s,e,q⟩=>⟨s.d,_,e,PtD.of s,q⟩
inductive zkx  (ds:List D) (q:List D→Prop):Prop where
  | mk (s:Sy) (_:ds=[s.d]) (_:s.pre.length≤100000) (_:q (s.pre.map Sy.d))
def ze7 :Sp3:=lSt zkx
theorem zif {k:Nat} (h:Has K mg "in_order" zcb ["body"]) (G:Gs K mg) (C_parts:Cal3 P w K mg base k "parts" ["saying"] zgp):Cal3 P w K mg base (k+1) "in_order" ["body"] ze7:=by
  refine h.lst zcf (by rintro ds q ⟨s,e,_⟩;rw [e];rfl) fun f cdv A outer s0 H E ds q hr hA=>?_
  obtain ⟨s,rfl,hz,hq⟩:=hA
  refine ⟨_,(zac (zai (i:=1) zcf.nd rfl (Or.inl rfl) (zdq zad))
 (zac (zai (i:=2) zcf.nd rfl (Or.inl rfl) (zdq (zaa (e_v 0) zad)))
 (zac (zib PassesOwn.never (zh6 (e_v 2) (fun _=>rfl)) (zac (zai (i:=3) zcf.nd rfl (Or.inl rfl) (zet PySem.F.plainAttrs_list PySem.F.slot_list_pop PySem.F.type_list_pop zb5 zda (e_v 2)))
 (zac (zaz (e_bm PySem.F.plainAttrs_list PySem.F.slot_list_append PySem.F.type_list_append zam zao (e_v 1) (zaa (e_v 3) zad)))
 (zah (zf0 PassesOwn.never rfl (i_rev rfl G.reversed (zaa (zaj C_parts hr rfl (zaa (e_v 3) zad)) zad)) (zdf (i:=4) zcf.nd rfl (Or.inl rfl)) (zah (zaz (e_bm PySem.F.plainAttrs_list PySem.F.slot_list_append PySem.F.type_list_append zam zao (e_v 2) (zaa (e_v 4) zad)))))))))
 (zah (zbn (e_v 1)))))),?_⟩
  nofun
  intro pf hpf
  nofun
  intro pe hpe
  have hne:pf≠pe:=ne3 zab hpe
  nofun
  refine j_while (fun m σ S=>Ex4 fun (fs ps:List Sy) (x3 x4:Option D)=>σ=[some s.d,some (.ref pf),some (.ref pe),x3,x4]∧S pf=some (.lst (fs.map Sy.d))∧S pe=some (.lst (ps.map Sy.d))∧fs++Sy.pres ps.reverse=s.pre∧m=(Sy.pres ps.reverse).length)
    _ ⟨[],[s],none,none,rfl,zag zab hpe,zab,by simp [Sy.pres],rfl⟩ ?_
  rintro m σ S ⟨fs,ps,x3,x4,rfl,hf,he,hfs,rfl⟩
  nofun
  rcases snoc_cases ps with rfl|⟨ps',s',rfl⟩
  · refine iteF ?_
    nofun
    refine ⟨pf,_,rfl,hf,?_⟩
    have e:fs=s.pre:=by simpa [Sy.pres] using hfs
    rw [e]
    exact hq
  · have eb:(!((ps'++[s']).map Sy.d).isEmpty)=true:=by simp
    rw [eb]
    refine iteT ?_
    have hlen:=congrArg List.length hfs
    rw [List.length_append] at hlen
    have er:(ps'++[s']).reverse=s'::ps'.reverse:=by simp
    rw [er,Sy.pres,Sy.pre_parts] at hfs hlen
    simp only [List.length_append,List.length_cons] at hlen
    have he':S pe=some (.lst (ps'.map Sy.d++[s'.d])):=by rw [he];simp
    nofun
    refine j_pop he' ?_
    nofun
    have hf1:up S pe (.lst (ps'.map Sy.d)) pf=some (.lst (fs.map Sy.d)):=by rw [zbm hne];exact hf
    refine j_tyL hf1 ?_
    nofun
    refine j_append hf1 (by rw [List.length_map];exact zav (by omega)) ?_
    nofun
    refine ⟨s',rfl,?_⟩
    nofun
    refine ⟨fun i σ S'=>∃x4,σ=[some s.d,some (.ref pf),some (.ref pe),some s'.d,x4]∧S' pf=some (.lst ((fs++[s']).map Sy.d))∧S' pe=some (.lst (ps'.map Sy.d++((s'.parts.map Sy.d).reverse).take i)),
      ⟨x4,rfl,by rw [zab];simp,?_⟩,fun _ _ _ _=>trivial,?_,?_⟩
    · rw [zbm (Ne.symm hne),zab];simp
    · rintro i d σ S' hd ⟨y4,rfl,g1,g2⟩
      have hi:=(List.getElem?_eq_some_iff.mp hd).1
      rw [List.length_reverse,List.length_map] at hi
      have hpl:s'.parts.length≤(Sy.pres s'.parts).length:=by
        generalize s'.parts=l
        induction l with
        | nil=>simp
        | cons a r ih=>rw [Sy.pres,Sy.pre_parts];simp;omega
      nofun
      refine j_append g2 ?_ ?_
      · rw [List.length_append,List.length_take,List.length_reverse,List.length_map,List.length_map]
        have:ps'.length≤(Sy.pres ps'.reverse).length:=by
          have:∀l:List Sy,l.length≤(Sy.pres l).length:=fun l=>by
            induction l with
            | nil=>simp
            | cons a r ih=>rw [Sy.pres,Sy.pre_parts];simp;omega
          have:=this ps'.reverse
          simpa using this
        exact zav (by omega)
      refine ⟨_,rfl,by rw [zbm hne];exact g1,?_⟩
      rw [zab,List.take_succ,hd,List.append_assoc]
      rfl
    · rintro σ S' ⟨y4,rfl,g1,g2⟩
      refine ⟨_,?_,fs++[s'],ps'++s'.parts.reverse,_,_,rfl,g1,?_,?_,rfl⟩
      · simp only [List.reverse_append,List.reverse_reverse,List.reverse_cons,List.reverse_nil,List.nil_append,List.singleton_append,Sy.pres_append,Sy.pres,Sy.pre_parts s',List.length_append,List.length_cons,List.length_nil]
        omega
      · rw [g2,List.take_of_length_le (by simp),List.map_append,List.map_reverse]
      · rw [←hfs]
        simp [Sy.pres_append]
inductive zeu (adr:Rf→Addr) (ds:List D) (S:Hp3) (q:D→Prop) (qx:Addr→Prop):Prop where
  | mk (x:Str) (y:D) (_:ds=[.str x,y]) (_:x.length≤100) (_:((∃xs:List Str,y=.tup (xs.map D.str)∧(x∈xs→q .non)∧(x∉xs→qx (adr .such)))∨  ∃a kvs,y=.ref a∧S a=some (.dic kvs)∧((valD kvs (.inr x)).isSome=true→q .non)∧((valD kvs (.inr x)).isSome=false→qx (adr .such))))
def zcq (adr:Rf→Addr):Sp3:=rdX (zeu adr)
theorem zee {k:Nat} (h:Has K mg "refuse_missing" za4 ["name","known"]) (R:Rfs K mg ES adr):Cal3 P w K mg base (k+1) "refuse_missing" ["name","known"] (zcq adr):=by
  refine h.rdX zd9 (by rintro ds S q qx ⟨x,y,e,_⟩;rw [e];rfl) fun f cdv A outer s0 H E ds S q qx hr hA=>?_
  obtain ⟨x,y,rfl,hlen,hy⟩:=hA
  have hu:=zkp hr
  have hx:x.length≤sizeLine:=Nat.le_trans hlen (by decide)
  have e1:(Str.empty++("there is no ":Str)).length=12:=by decide +kernel
  have e2:(" here":Str).length=5:=by decide +kernel
  refine ⟨_,(zah (s_if (zos hu (e_v 0) (e_v 1)) (zah (zlf (C:=adr .such) (R.bound .such (by decide)) (R.exc (by decide)) rfl rfl (zaa (zok (zeq zas (zeq (zn3 (e_v 0)) (zeq zas f_nil)))) zad))) zb9)),?_⟩
  rcases hy with ⟨xs,rfl,h1,h2⟩|⟨a,kvs,rfl,ha,h1,h2⟩
  · by_cases c:x∈xs
    · nofun
      exact ⟨Sub.refl _,h1 c⟩
    · nofun
      refine ⟨by rw [e1];decide,?_⟩
      nofun
      refine j_fmtS hx ?_
      nofun
      refine ⟨by rw [strLen_append,e1];exact Nat.le_trans (by omega:_≤200) (by decide),?_⟩
      nofun
      refine ⟨by rw [strLen_append,strLen_append,e1,e2];exact Nat.le_trans (by omega:_≤200) (by decide),?_⟩
      refine j_fnil (by rw [strLen_append,strLen_append,e1,e2];exact Nat.le_trans (by omega:_≤200) (by decide)) ?_
      nofun
      exact fun a=>⟨Sub.refl _,h2 c⟩
  · cases hv:(valD kvs (.inr x)).isSome with
    | true =>
      nofun
      rw [hv]
      nofun
      exact ⟨Sub.refl _,h1 hv⟩
    | false =>
      nofun
      rw [hv]
      nofun
      refine ⟨by rw [e1];decide,?_⟩
      nofun
      refine j_fmtS hx ?_
      nofun
      refine ⟨by rw [strLen_append,e1];exact Nat.le_trans (by omega:_≤200) (by decide),?_⟩
      nofun
      refine ⟨by rw [strLen_append,strLen_append,e1,e2];exact Nat.le_trans (by omega:_≤200) (by decide),?_⟩
      refine j_fnil (by rw [strLen_append,strLen_append,e1,e2];exact Nat.le_trans (by omega:_≤200) (by decide)) ?_
      nofun
      exact fun a=>⟨Sub.refl _,h2 hv⟩
theorem zii:((List.range 301).all fun n=>decide ((toString ((n:Nat):Int):Str).length≤10∧((n:Nat):Int).natAbs.log2<1920))=true:=by decide +kernel
theorem zl0 {a:Int} (h0:0≤a) (h:a≤300):(toString a:Str).length≤10∧a.natAbs.log2<1920:=by
  have:=List.all_eq_true.mp zii a.toNat (List.mem_range.mpr (by omega))
  have e:((a.toNat:Nat):Int)=a:=by omega
  rw [e] at this
  exact of_decide_eq_true this
inductive zdu (adr:Rf→Addr) (ds:List D) (S:Hp3) (q:D→Prop) (qx:Addr→Prop):Prop where
  | mk (x:Str) (a:Addr) (xs:List D) (n:Nat) (_:ds=[.str x,.ref a,.int (n:Int)]) (_:S a=some (.lst xs)) (_:x.length≤100) (_:n≤300) (_:xs.length≤300) (_:(xs.length=n→q .non)) (_:(xs.length≠n→qx (adr .count)))
def zb6 (adr:Rf→Addr):Sp3:=rdX (zdu adr)
theorem zdk {k:Nat} (h:Has K mg "refuse_miscounted" zar ["name","row","needed"]) (G:Gs K mg) (R:Rfs K mg ES adr):Cal3 P w K mg base (k+1) "refuse_miscounted" ["name","row","needed"] (zb6 adr):=by
  refine h.rdX zb7 (by rintro ds S q qx ⟨x,a,xs,n,e,_⟩;rw [e];rfl) fun f cdv A outer s0 H E ds S q qx hr hA=>?_
  obtain ⟨x,a,xs,n,rfl,hS,hlen,hn,has,h1,h2⟩:=hA
  have hx:x.length≤sizeLine:=Nat.le_trans hlen (by decide)
  refine ⟨_,(zac (zai (i:=3) zb7.nd rfl (Or.inl rfl) (za3 zak zb8 rfl G.len PySem.boot_len (zaa (e_v 1) zad)))
 (zah (s_if (za1 op_ne dn_neI (e_v 3) (e_v 2) (nomark _)) (zah (zlf (C:=adr .count) (R.bound .count (by decide)) (R.exc (by decide)) rfl rfl (zaa (zok (zeq (zn3 (e_v 0)) (zeq zas (zeq (zn3 (e_v 2)) (zeq zas (zeq (zn3 (e_v 3)) f_nil)))))) zad))) zb9))),?_⟩
  by_cases c:xs.length=n
  · have e:(xs.length:Int)=(n:Int):=by omega
    nofun
    exact ⟨Sub.refl _,h1 c⟩
  · have e':¬(xs.length:Int)=(n:Int):=by omega
    obtain ⟨m1,g1⟩:=zl0 (a:=(n:Int)) (by omega) (by omega)
    obtain ⟨m2,g2⟩:=zl0 (a:=(xs.length:Int)) (by omega) (by omega)
    have e0:Str.empty.length=0:=by decide +kernel
    have e1:(" needs ":Str).length=7:=by decide +kernel
    have e2:(", not ":Str).length=6:=by decide +kernel
    have small:∀{z:Str},z.length≤200→z.length≤sizeLine:=fun h=>Nat.le_trans h (by decide)
    nofun
    refine j_fmtS hx ?_
    nofun
    refine ⟨small (by simp only [strLen_append];omega),?_⟩
    nofun
    refine ⟨small (by simp only [strLen_append];omega),?_⟩
    nofun
    refine j_fmtI g1 ?_
    nofun
    refine ⟨small (by simp only [strLen_append];omega),?_⟩
    nofun
    refine ⟨small (by simp only [strLen_append];omega),?_⟩
    nofun
    refine j_fmtI g2 ?_
    nofun
    refine ⟨small (by simp only [strLen_append];omega),?_⟩
    refine j_fnil (small (by simp only [strLen_append];omega)) ?_
    nofun
    exact fun a=>⟨Sub.refl _,h2 c⟩
inductive P_size  (ds:List D) (q:D→Prop):Prop where
  | mk (t:Tre) (_:ds=[t.d]) (_:t.size≤1000) (_:q (.int t.size))
def zk3 :Sp3:=vS P_size
theorem zpm {k:Nat} (h:Has K mg "size" zgc ["tree"]) (G:Gs K mg):Cal3 P w K mg base (k+1) "size" ["tree"] zk3:=by
  refine h.val ze9 (by rintro ds q ⟨t,e,_⟩;rw [e];rfl) fun f cdv A outer s0 H E ds q hr hA=>?_
  obtain ⟨t,rfl,hz,hq⟩:=hA
  refine ⟨_,(zac (zai (i:=1) ze9.nd rfl (Or.inl rfl) zae)
 (zac (zai (i:=2) ze9.nd rfl (Or.inl rfl) (zdq (zaa (e_v 0) zad)))
 (zac (zib PassesOwn.never (zh6 (e_v 2) (fun _=>rfl)) (zac (zai (i:=3) ze9.nd rfl (Or.inl rfl) (zet PySem.F.plainAttrs_list PySem.F.slot_list_pop PySem.F.type_list_pop zb5 zda (e_v 2)))
 (zah (s_if (za1 zpj zpz (e_v 3) zdp (nomark _)) (zac (zoy (i:=1) ze9.nd rfl (Or.inl rfl) zae zoh)
 (zah (zaz (e_bm PySem.F.plainAttrs_list PySem.F.slot_list_extend PySem.F.type_list_extend zki zkt (e_v 2) (zaa (e_v 3) zad))))) zb9))))
 (zah (zbn (e_v 1)))))),?_⟩
  nofun
  intro p hp
  nofun
  refine j_while (fun m σ S=>Ex3 fun (n:Int) (ts:List Tre) (x3:Option D)=>σ=[some t.d,some (.int n),some (.ref p),x3]∧S p=some (.lst (ts.map Tre.d))∧n+sizes ts=t.size∧m=2*sizes ts+ts.length∧m≤2*t.size+1) (2*t.size+1)
    ⟨0,[t],none,rfl,zab,by simp [sizes],by simp [sizes],Nat.le_refl _⟩ ?_
  rintro m σ S ⟨n,ts,x3,rfl,hl,hk,hm,hmb⟩
  nofun
  rcases snoc_cases ts with rfl|⟨ts,t',rfl⟩
  · nofun
    have e:n=t.size:=by simpa [sizes] using hk
    rw [e]
    exact hq
  · have eb:(!((ts++[t']).map Tre.d).isEmpty)=true:=by simp
    rw [eb]
    refine iteT ?_
    rw [zan] at hk hm
    simp only [sizes,List.length_append,List.length_cons,List.length_nil] at hk hm
    rw [List.map_append] at hl
    nofun
    refine j_pop hl ?_
    have hp1:up S p (.lst (ts.map Tre.d)) p=some (.lst (ts.map Tre.d)):=zab
    generalize up S p (.lst (ts.map Tre.d))=S1 at hp1 ⊢
    nofun
    cases t' with
    | bud =>
      refine iteBf rfl ?_
      simp only [Tre.size] at hk hm
      nofun
      exact ⟨_,by omega,n,ts,_,rfl,hp1,by omega,rfl,by omega⟩
    | pair l r =>
      refine iteBt rfl ?_
      simp only [Tre.size] at hk hm
      have e:(Tre.pair l r).d=.tup [l.d,r.d]:=rfl
      rw [e]
      nofun
      refine j_extendT hp1 ?_ ?_
      · rw [List.length_map]
        exact zbg (by simp only [List.length_cons,List.length_nil];omega)
      nofun
      refine ⟨_,?_,n+1,ts++[l]++[r],_,rfl,?_,?_,rfl,?_⟩
      · rw [zan,zan]
        simp only [sizes,List.length_append,List.length_cons,List.length_nil]
        omega
      · rw [zab,List.map_append,List.map_append,List.append_assoc]
        rfl
      · rw [zan,zan]
        simp only [sizes]
        omega
      · rw [zan,zan]
        simp only [sizes,List.length_append,List.length_cons,List.length_nil]
        omega
noncomputable def Sy.isS:Sy→Bool
  | .send _ _=>true
  | _=>false
noncomputable def cntS (xs:List Sy):Int:=((xs.filter Sy.isS).length:Nat)
inductive zg5  (ds:List D) (S:Hp3) (q:D→Prop):Prop where
  | mk (po:Addr) (xs:List Sy) (_:ds=[.ref po]) (_:S po=some (.lst (xs.map Sy.d))) (_:xs.length≤100000) (_:q (.int (cntS xs)))
def zcn :Sp3:=rdV zg5
theorem zf1 {k:Nat} (h:Has K mg "count_sends" zbb ["order"]) (G:Gs K mg):Cal3 P w K mg base (k+1) "count_sends" ["order"] zcn:=by
  refine h.rdV zfy (by rintro ds S q ⟨po,xs,e,_⟩;rw [e];rfl) fun f cdv A outer s0 H E ds S q hr hA=>?_
  obtain ⟨po,xs,rfl,hS,hz,hq⟩:=hA
  refine ⟨_,(zah (zbn (za3 zak zb8 rfl G.len PySem.boot_len (zaa (zpy (osc:=defScope zbb) (N:=["order"]) (M:=[]) (js:=[]) ⟨rfl,by decide +kernel,by decide +kernel,by decide +kernel,by decide +kernel,by decide +kernel,by decide +kernel⟩ (by decide +kernel) rfl (zho (e_v 0)) (fun _ _ _ _ _=>(ts_one (za1 zbp zcm (e_ix zap zaq (e_v 0) zae (fun _ _=>rfl)) zas (nomark _)))) (fun _ _ _ _ _=>(e_v 0))) zad)))),?_⟩
  nofun
  refine ⟨fun i ys S'=>S'=S∧ys=((xs.take i).filter Sy.isS).map Sy.d,⟨rfl,rfl⟩,?_,?_,?_⟩
  · rintro i ys S' ⟨rfl,rfl⟩
    refine ⟨hS,?_⟩
    rw [List.length_map]
    have:=List.length_filter_le Sy.isS (xs.take i)
    have:(xs.take i).length≤xs.length:=by rw [List.length_take];omega
    exact zav (by omega)
  · rintro i d ys S' hd ⟨rfl,rfl⟩
    rw [List.getElem?_map] at hd
    obtain ⟨s,hs,rfl⟩:=Option.map_eq_some_iff.mp hd
    have htk:xs.take (i+1)=xs.take i++[s]:=by rw [List.take_succ,hs];rfl
    refine ⟨_,rfl,?_⟩
    cases s<;>(simp only [Sy.d];nofun;exact ⟨rfl,by rw [htk,List.filter_append,List.map_append];first|rfl|exact (List.append_nil _).symm⟩)
  · rintro ys S' ⟨rfl,rfl⟩
    rw [List.length_map,List.take_length]
    intro p hp
    nofun
    rw [List.length_map]
    exact ⟨(Sub.refl _).up hp,hq⟩
noncomputable def stepN:List D×Int→Sy→Option (List D×Int)
  | (st,l),.name x=>some (.tup [.str "name",.str x]::st,l)
  | (st,l),.bud=>some (.tup [.str "bud"]::st,l)
  | (a::b::st,l),.pair _ _=>some (.tup [.str "pair",a,b]::st,l)
  | (a::st,l),.left _=>some (.tup [.str "left",a]::st,l)
  | (a::st,l),.right _=>some (.tup [.str "right",a]::st,l)
  | (a::b::c::st,l),.fork _ _ _=>some (.tup [.str "fork",a,b,c]::st,l)
  | (st,l),.send x as=>if as.length≤st.length then some (.tup [.str "send",.str x,.tup (st.take as.length),.int (l-1)]::st.drop as.length,l-1) else none
  | _,_=>none
noncomputable def foldN:List D×Int→List Sy→Option (List D×Int)
  | a,[]=>some a
  | a,s::r=>match stepN a s with
    | some b=>foldN b r
    | none=>none
inductive zkw  (ds:List D) (S:Hp3) (q:D→Prop):Prop where
  | mk (po:Addr) (xs:List Sy) (n:Int) (d:D) (st:List D) (l:Int) (_:ds=[.ref po,.int n]) (_:S po=some (.lst (xs.map Sy.d))) (_:xs.length≤100000) (_:foldN ([],n+cntS xs) xs.reverse=some (d::st,l)) (_:q d)
def ze5 :Sp3:=rdV zkw
theorem zie {k:Nat} (h:Has K mg "numbered" zbx ["order","number"]) (G:Gs K mg) (C_count_sends:Cal3 P w K mg base k "count_sends" ["order"] zcn) (C_parts:Cal3 P w K mg base k "parts" ["saying"] zgp):Cal3 P w K mg base (k+1) "numbered" ["order","number"] ze5:=by
  refine h.rdV zbw (by rintro ds S q ⟨po,xs,n,d,st,l,e,_⟩;rw [e];rfl) fun f cdv A outer s0 H E ds S q hr hA=>?_
  obtain ⟨po,xs,n,d,st,l,rfl,hS,hz,hf,hq⟩:=hA
  refine ⟨_,(zac (zai (i:=2) zbw.nd rfl (Or.inr rfl) (zdq zad))
 (zac (zai (i:=3) zbw.nd rfl (Or.inl rfl) (e_op zgh zd5 (e_v 1) (zaj C_count_sends hr rfl (zaa (e_v 0) zad))))
 (zac (zf0 PassesOwn.never rfl (i_revL rfl G.reversed (zaa (e_v 0) zad)) (zdf (i:=4) zbw.nd rfl (Or.inl rfl)) (zac (zai (i:=5) zbw.nd rfl (Or.inl rfl) (zc7 zbv zd3 rfl G.tuple boot_tuple (zaa (zjj (osc:=defScope zbx) (N:=["order","number","done","later","saying","inner"]) (M:=["done"]) (js:=[2]) ⟨rfl,by decide +kernel,by decide +kernel,rfl,by decide +kernel,by decide +kernel,by decide +kernel⟩ (by decide +kernel) rfl (i_tup (zaj C_parts hr rfl (zaa (e_v 4) zad))) (fun _ _ _ _ _=>(zet PySem.F.plainAttrs_list PySem.F.slot_list_pop PySem.F.type_list_pop zb5 zda (e_v 1)))) zad)))
 (zah (s_if (za1 zbp zcm (e_ix zap zaq (e_v 4) zae (fun _ _=>rfl)) zas (nomark _)) (zac (zoy (i:=3) zbw.nd rfl (Or.inl rfl) zae ip_sub)
 (zah (zaz (e_bm PySem.F.plainAttrs_list PySem.F.slot_list_append PySem.F.type_list_append zam zao (e_v 2) (zaa (zbr (zaa zas (zaa (e_ix zap zaq (e_v 4) zae (fun _ _=>rfl)) (zaa (e_v 5) (zaa (e_v 3) zad))))) zad))))) (zah (s_if (za1 zbp zcm (e_ix zap zaq (e_v 4) zae (fun _ _=>rfl)) zas (nomark _)) (zah (zaz (e_bm PySem.F.plainAttrs_list PySem.F.slot_list_append PySem.F.type_list_append zam zao (e_v 2) (zaa (e_v 4) zad)))) (zah (zaz (e_bm PySem.F.plainAttrs_list PySem.F.slot_list_append PySem.F.type_list_append zam zao (e_v 2) (zaa (e_op zpl zp1 (zbr (zaa (e_ix zap zaq (e_v 4) zae (fun _ _=>rfl)) zad)) (e_v 5)) zad))))))))))
 (zah (zbn (zet PySem.F.plainAttrs_list PySem.F.slot_list_pop PySem.F.type_list_pop zb5 zda (e_v 2))))))),?_⟩
  nofun
  intro pd hpd
  have hS1:=zag (o:=.lst []) hS hpd
  nofun
  refine ⟨po,xs,rfl,hS1,hz,?_⟩
  nofun
  refine ⟨fun i σ S'=>Ex4 fun (us:List D) (m:Int) (x4 x5:Option D)=>σ=[some (.ref po),some (.int n),some (.ref pd),some (.int m),x4,x5]∧Sub S S'∧S' pd=some (.lst us.reverse)∧us.length≤i∧foldN (us,m) (xs.reverse.drop i)=some (d::st,l),
    ⟨[],_,none,none,rfl,(Sub.refl S).up hpd,zab,Nat.zero_le _,hf⟩,fun i σ S' ⟨_,_,_,_,_,h1,_⟩=>h1 _ _ hS,?_,?_⟩
  · rintro i s' σ S' hd ⟨us,m,x4,x5,rfl,g1,g2,gl,gf⟩
    rw [←List.map_reverse,List.getElem?_map] at hd
    obtain ⟨s,hs,rfl⟩:=Option.map_eq_some_iff.mp hd
    have hi:i<100000:=by
      have:=(List.getElem?_eq_some_iff.mp hs).1
      rw [List.length_reverse] at this
      omega
    have hdr:xs.reverse.drop i=s::xs.reverse.drop (i+1):=by
      rw [List.drop_eq_getElem_cons (List.getElem?_eq_some_iff.mp hs).1]
      rw [(List.getElem?_eq_some_iff.mp hs).2]
    rw [hdr,foldN] at gf
    cases hst:stepN (us,m) s with
    | none=>rw [hst] at gf;cases gf
    | some r =>
    rw [hst] at gf
    have gf:foldN r (xs.reverse.drop (i+1))=some (d::st,l):=gf
    obtain ⟨us',m'⟩:=r
    have hpl:s.parts.length≤us.length:=by
      cases s with
      | name x=>exact Nat.zero_le _
      | bud=>exact Nat.zero_le _
      | pair a b =>
        match us,hst with
        | _::_::_,_=>simp [Sy.parts]
      | send x as =>
        simp only [stepN] at hst
        by_cases hc:as.length≤us.length
        · exact hc
        · rw [if_neg hc] at hst;cases hst
      | left a =>
        match us,hst with
        | _::_,_=>simp [Sy.parts]
      | right a =>
        match us,hst with
        | _::_,_=>simp [Sy.parts]
      | fork a b c =>
        match us,hst with
        | _::_::_::_,_=>simp [Sy.parts]
    nofun
    refine ⟨s,rfl,?_⟩
    nofun
    refine ⟨fun j ys S2=>ys=us.take j∧j≤s.parts.length∧Sub S S2∧S2 pd=some (.lst (us.drop j).reverse),⟨rfl,Nat.zero_le _,g1,g2⟩,?_,?_,?_⟩
    · rintro j ys S2 ⟨rfl,hj,_,_⟩
      refine ⟨trivial,?_⟩
      have:=List.length_take_le j us
      exact zav (by omega)
    · rintro j e ys S2 he ⟨rfl,hj,k1,k2⟩
      have hj':=(List.getElem?_eq_some_iff.mp he).1
      rw [List.length_map] at hj'
      have hju:j<us.length:=by omega
      have ed:us.drop j=us[j]::us.drop (j+1):=List.drop_eq_getElem_cons hju
      rw [ed,List.reverse_cons] at k2
      nofun
      refine j_pop k2 ⟨?_,by omega,k1.at (Sub.free (Sub.refl S) hpd),zab⟩
      rw [List.take_succ,List.getElem?_eq_getElem hju]
      rfl
    rintro ys S2 ⟨rfl,-,k1,k2⟩
    rw [List.length_map] at k2 ⊢
    intro pn hpn
    have k3:=zag (o:=.lst (us.take s.parts.length)) k2 hpn
    have k4:Sub S (up S2 pn (.lst (us.take s.parts.length))):=k1.up hpn
    nofun
    generalize up S2 pn (.lst (us.take s.parts.length))=S3 at k3 k4 ⊢
    have fin:∀u:D,us'=u::us.drop s.parts.length→Sub S (up S3 pd (.lst ((us.drop s.parts.length).reverse++[u])))∧up S3 pd (.lst ((us.drop s.parts.length).reverse++[u])) pd=some (.lst us'.reverse)∧us'.length≤i+1:=by
      intro u hu
      refine ⟨k4.at hpd,?_,?_⟩
      · rw [zab,hu]
        simp
      · rw [hu,List.length_cons,List.length_drop]
        omega
    have hsm:((us.drop s.parts.length).reverse).length<sizeLine:=by
      rw [List.length_reverse,List.length_drop]
      exact zav (by omega)
    cases s with
    | name x =>
      cases hst
      simp only [Sy.d]
      nofun
      refine j_append k3 hsm ?_
      nofun
      obtain ⟨z1,z2,z3⟩:=fin _ rfl
      exact ⟨_,_,_,_,rfl,z1,z2,z3,gf⟩
    | bud =>
      cases hst
      simp only [Sy.d]
      nofun
      refine j_append k3 hsm ?_
      nofun
      obtain ⟨z1,z2,z3⟩:=fin _ rfl
      exact ⟨_,_,_,_,rfl,z1,z2,z3,gf⟩
    | pair a b =>
      obtain ⟨a',b',u2,rfl⟩:∃a' b' u2,us=a'::b'::u2:=by
        match us,hst with
        | a'::b'::u2,_=>exact ⟨a',b',u2,rfl⟩
      cases hst
      simp only [Sy.d]
      nofun
      refine j_append k3 hsm ?_
      nofun
      obtain ⟨z1,z2,z3⟩:=fin _ rfl
      exact ⟨_,_,_,_,rfl,z1,z2,z3,gf⟩
    | send x as =>
      have hc:as.length≤us.length:=hpl
      simp only [stepN] at hst
      rw [if_pos hc] at hst
      cases hst
      simp only [Sy.d]
      nofun
      refine j_append k3 hsm ?_
      nofun
      obtain ⟨z1,z2,z3⟩:=fin _ rfl
      exact ⟨_,_,_,_,rfl,z1,z2,z3,gf⟩
    | left a =>
      obtain ⟨a',u2,rfl⟩:∃a' u2,us=a'::u2:=by
        match us,hst with
        | a'::u2,_=>exact ⟨a',u2,rfl⟩
      cases hst
      simp only [Sy.d]
      nofun
      refine j_append k3 hsm ?_
      nofun
      obtain ⟨z1,z2,z3⟩:=fin _ rfl
      exact ⟨_,_,_,_,rfl,z1,z2,z3,gf⟩
    | right a =>
      obtain ⟨a',u2,rfl⟩:∃a' u2,us=a'::u2:=by
        match us,hst with
        | a'::u2,_=>exact ⟨a',u2,rfl⟩
      cases hst
      simp only [Sy.d]
      nofun
      refine j_append k3 hsm ?_
      nofun
      obtain ⟨z1,z2,z3⟩:=fin _ rfl
      exact ⟨_,_,_,_,rfl,z1,z2,z3,gf⟩
    | fork a b c =>
      obtain ⟨a',b',c',u2,rfl⟩:∃a' b' c' u2,us=a'::b'::c'::u2:=by
        match us,hst with
        | a'::b'::c'::u2,_=>exact ⟨a',b',c',u2,rfl⟩
      cases hst
      simp only [Sy.d]
      nofun
      refine j_append k3 hsm ?_
      nofun
      obtain ⟨z1,z2,z3⟩:=fin _ rfl
      exact ⟨_,_,_,_,rfl,z1,z2,z3,gf⟩
  · rintro σ S' ⟨us,m,x4,x5,rfl,g1,g2,gl,gf⟩
    rw [List.length_reverse,List.length_map,←List.length_reverse,List.drop_length] at gf
    cases gf
    rw [List.reverse_cons] at g2
    nofun
    refine j_pop g2 ?_
    nofun
    exact ⟨g1.at hpd,hq⟩
noncomputable def foldB:List (Key×D)→Int→List Er→Option (List (Key×D))
  | kvs,_,[]=>some kvs
  | kvs,n,e::r=>match foldN ([],n+cntS e.body.pre) e.body.pre.reverse with
    | some (d::_,_)=>foldB (putD kvs (.inr e.name) d) (n+cntS e.body.pre) r
    | _=>none
theorem zna (kvs:List (Key×D)) (k:Key) (v:D):(putD kvs k v).length≤kvs.length+1:=by
  unfold putD
  split
  · rw [List.length_map];omega
  · rw [List.length_append];exact Nat.le_refl _
inductive zei  (ds:List D) (S:Hp3) (Q:K3) (_:X3):Prop where
  | mk (pr:Addr) (prog:List Er) (kvs:List (Key×D)) (_:ds=[.ref pr]) (_:S pr=some (.lst (prog.map Er.d))) (_:prog.length≤100) (_:(∀e∈prog,e.body.pre.length≤100000)) (_:foldB [] 0 prog=some kvs) (_:∀p S',Sub S S'→S' p=some (.dic kvs)→Q (.ref p) S')
def zck :Sp3:= zei
theorem zd0 {k:Nat} (h:Has K mg "numbered_bodies" za2 ["program"]) (G:Gs K mg) (C_in_order:Cal3 P w K mg base k "in_order" ["body"] ze7) (C_numbered:Cal3 P w K mg base k "numbered" ["order","number"] ze5)
    (C_count_sends:Cal3 P w K mg base k "count_sends" ["order"] zcn):Cal3 P w K mg base (k+1) "numbered_bodies" ["program"] zck:=by
  refine h.cal3 zaw (by rintro ds S Q E ⟨pr,prog,kvs,e,_⟩;rw [e];rfl) fun f cdv A outer s0 H E ds S Q W hr hA=>?_
  obtain ⟨pr,prog,kvs,rfl,hS,hl,hz,hf,hq⟩:=hA
  have hu:=zkp hr
  refine ⟨_,Q,(zac (zai (i:=1) zaw.nd rfl (Or.inl rfl) e_dnew)
 (zac (zai (i:=2) zaw.nd rfl (Or.inl rfl) zae)
 (zac (zf0 PassesOwn.never rfl (zho (e_v 0)) (zdf (i:=3) zaw.nd rfl (Or.inl rfl)) (zac (zai (i:=4) zaw.nd rfl (Or.inl rfl) (zaj C_in_order hr rfl (zaa (e_ix zap zaq (e_v 3) zae (fun _ _=>rfl)) zad)))
 (zac (s_dput hu (e_v 1) (e_ix zap zaq (e_v 3) zae (fun _ _=>rfl)) (zaj C_numbered hr rfl (zaa (e_v 4) (zaa (e_v 2) zad))) rfl)
 (zah (zoy (i:=2) zaw.nd rfl (Or.inl rfl) (zaj C_count_sends hr rfl (zaa (e_v 4) zad)) zoh)))))
 (zah (zbn (e_v 1)))))),?_,fun _ _ q=>q⟩
  nofun
  intro pb hpb
  have hS1:=zag (o:=.dic []) hS hpb
  nofun
  refine ⟨fun i σ S'=>Ex4 fun (kv:List (Key×D)) (n:Int) (x3 x4:Option D)=>σ=[some (.ref pr),some (.ref pb),some (.int n),x3,x4]∧Sub S S'∧S' pb=some (.dic kv)∧kv.length≤i∧foldB kv n (prog.drop i)=some kvs,
    ⟨[],0,none,none,rfl,(Sub.refl S).up hpb,zab,Nat.zero_le _,hf⟩,fun i σ S' ⟨_,_,_,_,_,h1,_⟩=>h1 _ _ hS,?_,?_⟩
  · rintro i d σ S' hd ⟨kv,n,x3,x4,rfl,g1,g2,gl,gf⟩
    rw [List.getElem?_map] at hd
    obtain ⟨e,he,rfl⟩:=Option.map_eq_some_iff.mp hd
    have hi:=(List.getElem?_eq_some_iff.mp he).1
    have hdr:prog.drop i=e::prog.drop (i+1):=by
      rw [List.drop_eq_getElem_cons hi,(List.getElem?_eq_some_iff.mp he).2]
    rw [hdr,foldB] at gf
    have hze:=hz e (List.mem_of_getElem? he)
    unfold Er.d
    nofun
    refine ⟨e.body,rfl,by omega,?_⟩
    intro po hpo
    have k1:up S' po (.lst (e.body.pre.map Sy.d)) po=some (.lst (e.body.pre.map Sy.d)):=zab
    have k2:=zag (o:=.lst (e.body.pre.map Sy.d)) g2 hpo
    have k3:Sub S (up S' po (.lst (e.body.pre.map Sy.d))):=g1.up hpo
    have n1:po≠pb:=(ne3 g2 hpo).symm
    generalize up S' po (.lst (e.body.pre.map Sy.d))=S1 at k1 k2 k3 ⊢
    nofun
    cases hfd:foldN ([],n+cntS e.body.pre) e.body.pre.reverse with
    | none=>rw [hfd] at gf;cases gf
    | some us =>
      obtain ⟨us,l⟩:=us
      rw [hfd] at gf
      cases us with
      | nil=>cases gf
      | cons d st =>
        have gf:foldB (putD kv (.inr e.name) d) (n+cntS e.body.pre) (prog.drop (i+1))=some kvs:=gf
        refine ⟨po,e.body.pre,n,d,st,l,rfl,k1,hze,hfd,?_⟩
        nofun
        refine j_dputS k2 (zav (by omega)) ?_
        nofun
        refine ⟨po,e.body.pre,rfl,by rw [zbm n1];exact k1,hze,?_⟩
        nofun
        refine ⟨_,_,_,_,rfl,k3.at hpb,zab,?_,gf⟩
        have:=zna kv (.inr e.name) d
        omega
  · rintro σ S' ⟨kv,n,x3,x4,rfl,g1,g2,gl,gf⟩
    rw [List.length_map,List.drop_length] at gf
    cases gf
    nofun
    exact hq _ _ g1 g2
inductive PtN:D→List D→Prop
  | name (x:Str):PtN (.tup [.str "name",.str x]) []
  | bud:PtN (.tup [.str "bud"]) []
  | pair (a b:D):PtN (.tup [.str "pair",a,b]) [a,b]
  | left (a:D):PtN (.tup [.str "left",a]) [a]
  | right (a:D):PtN (.tup [.str "right",a]) [a]
  | fork (a b c:D):PtN (.tup [.str "fork",a,b,c]) [a]
  | send (x:Str) (is:List D) (l:Int):PtN (.tup [.str "send",.str x,.tup is,.int l]) is
inductive zf5  (ds:List D) (q:D→Prop):Prop where
  | mk (s:_) (ps:_) (_:ds=[s]) (_:PtN s ps) (_:q (.tup ps))
def zdb :Sp3:=vS zf5
theorem zfi {k:Nat} (h:Has K mg "needed_parts" zbf ["saying"]) (G:Gs K mg) (C_parts:Cal3 P w K mg base k "parts" ["saying"] ze4):Cal3 P w K mg base (k+1) "needed_parts" ["saying"] zdb:=by
  refine h.val zfa (by rintro ds q ⟨s,ps,e,_⟩;rw [e];rfl) fun f cdv A outer s0 H E ds q hr hA=>?_
  obtain ⟨s,ps,rfl,hp,hq⟩:=hA
  refine ⟨_,(zah (zbn (zdr (za1 zbp zcm (e_ix zap zaq (e_v 0) zae (fun _ _=>rfl)) zas (nomark _)) (za8 zgs zjk (e_v 0) (zbl zae) (zbl zae)) (zaj C_parts hr rfl (zaa (e_v 0) zad))))),?_⟩
  cases hp with
  | name x=>nofun;exact ⟨_,_,rfl,.name x,hq⟩
  | bud=>nofun;exact ⟨_,_,rfl,.bud,hq⟩
  | pair a b=>nofun;exact ⟨_,_,rfl,.pair a b,hq⟩
  | left a=>nofun;exact ⟨_,_,rfl,.left a,hq⟩
  | right a=>nofun;exact ⟨_,_,rfl,.right a,hq⟩
  | fork a b c=>nofun;exact hq
  | send x is l=>nofun;exact ⟨_,_,rfl,.send x _ _,hq⟩
noncomputable def sideT (l:Bool):Tre→Tre
  | .bud=>.bud
  | .pair a b=>if l then a else b
inductive P_side  (ds:List D) (q:D→Prop):Prop where
  | mk (l:Bool) (t:Tre) (_:ds=[.str (if l then "left" else "right"),t.d]) (_:q (sideT l t).d)
def zk4 :Sp3:=vS P_side
theorem zpn {k:Nat} (h:Has K mg "side" zgd ["kind","tree"]) (G:Gs K mg):Cal3 P w K mg base (k+1) "side" ["kind","tree"] zk4:=by
  refine h.val zow (by rintro ds q ⟨l,t,e,_⟩;rw [e];rfl) fun f cdv A outer s0 H E ds q hr hA=>?_
  obtain ⟨l,t,rfl,hq⟩:=hA
  refine ⟨_,(zac (s_if (za1 zjd zjl (e_v 1) zdp (nomark _)) (zah (zbn zdp)) zb9)
 (zah (zbn (zdr (za1 zbp zcm (e_v 0) zas (nomark _)) (e_ix zap zaq (e_v 1) zae (fun _ _=>rfl)) (e_ix zap zaq (e_v 1) zae (fun _ _=>rfl)))))),?_⟩
  cases t with
  | bud =>
    nofun
    exact hq
  | pair a b =>
    have e:(Tre.pair a b).d=.tup [a.d,b.d]:=rfl
    rw [e]
    cases l with
    | true =>
      nofun
      exact hq
    | false =>
      nofun
      exact hq
inductive P_init (CR:Addr) (ds:List D) (S:Hp3) (Q:K3) (_:X3):Prop where
  | mk (S0:_) (a:_) (pa:_) (bo:_) (mo:_) (kv1:_) (kv2:_) (_:ds=[.ref a,.ref pa,.ref bo,.int mo]) (_:S a=some (.ins CR [])) (_:S pa=some (.dic kv1)) (_:S bo=some (.dic kv2)) (_:Sub S0 S) (_:S0 a=none) (_:∀A S',RS CR S0 S' a A ⟨kv1,kv2,mo,[],[],[],.non⟩→Q .non S')
def zk6 (CR:Addr):Sp3:= (P_init CR)
theorem zly {k:Nat} (h:HasM K CR "__init__" "Run.__init__" zdi ["self","params","bodies","most"]) (G:Gs K mg) (T:RunT K mg CR):Met3 P w K mg base (k+1) CR "__init__" ["self","params","bodies","most"] (zk6 CR):=by
  refine h.met3 zle (by rintro ds S Q E ⟨_,a,pa,bo,mo,_,_,e,_⟩;rw [e];rfl) fun f cdv A0 outer s0 H E ds S Q W hr hA=>?_
  obtain ⟨S0,a,pa,bo,mo,kv1,kv2,rfl,ha,hpa,hbo,hs,fa,hq⟩:=hA
  refine ⟨_,(zac (zfe T.cl T.n_params (e_v 0) (e_v 1) rfl)
 (zac (zfe T.cl T.n_bodies (e_v 0) (e_v 2) rfl)
 (zac (zfe T.cl T.n_most (e_v 0) (e_v 3) rfl)
 (zac (zfe T.cl T.n_begun (e_v 0) (zdq zad) rfl)
 (zac (zfe T.cl T.n_pending (e_v 0) (zdq zad) rfl)
 (zac (zfe T.cl T.n_waiting (e_v 0) (zdq zad) rfl)
 (zah (zfe T.cl T.n_ending (e_v 0) zdp rfl)))))))),?_⟩
  have np:pa≠a:=neO hpa ha (fun z=>nomatch z)
  have nb:bo≠a:=neO hbo ha (fun z=>nomatch z)
  have put:∀(gs:List (Str×D)) (S:Hp3) (fs:List (Str×D)) (f:Str) (d:D) (n:Hp3→Prop),S a=some (.ins CR fs)→fs.length<1000→putI f d fs=gs→n (up S a (.ins CR gs))→putR CR f (.ref a) d S n:=fun gs S fs f d n hS hl e q=>j_putR hS hl (by rw [e];exact q)
  nofun
  refine put [("params",.ref pa)] _ _ _ _ _ ha (by decide) rfl ?_
  nofun
  refine put [("params",.ref pa),("bodies",.ref bo)] _ _ _ _ _ zab (show 1<1000 by decide) rfl ?_
  rw [zgn]
  nofun
  refine put [("params",.ref pa),("bodies",.ref bo),("most",.int mo)] _ _ _ _ _ zab (show 2<1000 by decide) rfl ?_
  rw [zgn]
  have K0:Sub S0 (up S a (.ins CR [("params",.ref pa),("bodies",.ref bo),("most",.int mo)])):=hs.at fa
  have f1:up S a (.ins CR [("params",.ref pa),("bodies",.ref bo),("most",.int mo)]) a=_:=zab
  have f2:=za7 (o:=.ins CR [("params",.ref pa),("bodies",.ref bo),("most",.int mo)]) hpa np
  have f3:=za7 (o:=.ins CR [("params",.ref pa),("bodies",.ref bo),("most",.int mo)]) hbo nb
  nofun
  intro be hbe
  have K1:Sub S0 (up (up S a (.ins CR [("params",.ref pa),("bodies",.ref bo),("most",.int mo)])) be (.lst [])):=K0.up hbe
  have fb:=K0.free hbe
  have g1:=zag (o:=.lst []) f1 hbe
  have g2:=zag (o:=.lst []) f2 hbe
  have g3:=zag (o:=.lst []) f3 hbe
  have g4:=zab (S:=up S a (.ins CR [("params",.ref pa),("bodies",.ref bo),("most",.int mo)])) (a:=be) (o:=.lst [])
  generalize up (up S a (.ins CR [("params",.ref pa),("bodies",.ref bo),("most",.int mo)])) be (.lst [])=S1 at g1 g2 g3 g4 K1 ⊢
  nofun
  refine put [("params",.ref pa),("bodies",.ref bo),("most",.int mo),("begun",.ref be)] _ _ _ _ _ g1 (show 3<1000 by decide) rfl ?_
  have e1:be≠a:=neO g4 g1 (fun z=>nomatch z)
  have h1:up S1 a (.ins CR [("params",.ref pa),("bodies",.ref bo),("most",.int mo),("begun",.ref be)]) a=_:=zab
  have h2:=za7 (o:=.ins CR [("params",.ref pa),("bodies",.ref bo),("most",.int mo),("begun",.ref be)]) g2 np
  have h3:=za7 (o:=.ins CR [("params",.ref pa),("bodies",.ref bo),("most",.int mo),("begun",.ref be)]) g3 nb
  have h4:=za7 (o:=.ins CR [("params",.ref pa),("bodies",.ref bo),("most",.int mo),("begun",.ref be)]) g4 e1
  have K2:Sub S0 (up S1 a (.ins CR [("params",.ref pa),("bodies",.ref bo),("most",.int mo),("begun",.ref be)])):=K1.at fa
  generalize up S1 a (.ins CR [("params",.ref pa),("bodies",.ref bo),("most",.int mo),("begun",.ref be)])=S2 at h1 h2 h3 h4 K2 ⊢
  nofun
  intro pe hpe
  have i1:=zag (o:=.lst []) h1 hpe
  have i2:=zag (o:=.lst []) h2 hpe
  have i3:=zag (o:=.lst []) h3 hpe
  have i4:=zag (o:=.lst []) h4 hpe
  have i5:=zab (S:=S2) (a:=pe) (o:=.lst [])
  have n1:be≠pe:=ne3 h4 hpe
  have K3:Sub S0 (up S2 pe (.lst [])):=K2.up hpe
  have fp:=K2.free hpe
  generalize up S2 pe (.lst [])=S3 at i1 i2 i3 i4 i5 K3 ⊢
  nofun
  refine put [("params",.ref pa),("bodies",.ref bo),("most",.int mo),("begun",.ref be),("pending",.ref pe)] _ _ _ _ _ i1 (show 4<1000 by decide) rfl ?_
  have e2:pe≠a:=neO i5 i1 (fun z=>nomatch z)
  have k1:up S3 a (.ins CR [("params",.ref pa),("bodies",.ref bo),("most",.int mo),("begun",.ref be),("pending",.ref pe)]) a=_:=zab
  have k2:=za7 (o:=.ins CR [("params",.ref pa),("bodies",.ref bo),("most",.int mo),("begun",.ref be),("pending",.ref pe)]) i2 np
  have k3:=za7 (o:=.ins CR [("params",.ref pa),("bodies",.ref bo),("most",.int mo),("begun",.ref be),("pending",.ref pe)]) i3 nb
  have k4:=za7 (o:=.ins CR [("params",.ref pa),("bodies",.ref bo),("most",.int mo),("begun",.ref be),("pending",.ref pe)]) i4 e1
  have k5:=za7 (o:=.ins CR [("params",.ref pa),("bodies",.ref bo),("most",.int mo),("begun",.ref be),("pending",.ref pe)]) i5 e2
  have K4:Sub S0 (up S3 a (.ins CR [("params",.ref pa),("bodies",.ref bo),("most",.int mo),("begun",.ref be),("pending",.ref pe)])):=K3.at fa
  generalize up S3 a (.ins CR [("params",.ref pa),("bodies",.ref bo),("most",.int mo),("begun",.ref be),("pending",.ref pe)])=S4 at k1 k2 k3 k4 k5 K4 ⊢
  nofun
  intro wa hwa
  have l1:=zag (o:=.lst []) k1 hwa
  have l2:=zag (o:=.lst []) k2 hwa
  have l3:=zag (o:=.lst []) k3 hwa
  have l4:=zag (o:=.lst []) k4 hwa
  have l5:=zag (o:=.lst []) k5 hwa
  have l6:=zab (S:=S4) (a:=wa) (o:=.lst [])
  have n2:be≠wa:=ne3 k4 hwa
  have n3:pe≠wa:=ne3 k5 hwa
  have K5:Sub S0 (up S4 wa (.lst [])):=K4.up hwa
  have fw:=K4.free hwa
  generalize up S4 wa (.lst [])=S5 at l1 l2 l3 l4 l5 l6 K5 ⊢
  nofun
  refine put [("params",.ref pa),("bodies",.ref bo),("most",.int mo),("begun",.ref be),("pending",.ref pe),("waiting",.ref wa)] _ _ _ _ _ l1 (show 5<1000 by decide) rfl ?_
  nofun
  refine put [("params",.ref pa),("bodies",.ref bo),("most",.int mo),("begun",.ref be),("pending",.ref pe),("waiting",.ref wa),("ending",.non)] _ _ _ _ _ zab (show 6<1000 by decide) rfl ?_
  rw [zgn]
  nofun
  exact hq ⟨pa,bo,be,pe,wa⟩ _ ⟨zab,za7 l2 np,za7 l3 nb,za7 l4 e1,za7 l5 e2,za7 l6 (neO l6 l1 (fun z=>nomatch z)),n1,n2,n3,K5.at fa,fa,fb,fp,fw⟩
inductive Beg:Rn→D→D→Str→D→Rn→Prop
  | stop {r:Rn} {p n ts:D} {x:Str}:r.mo≤(r.be.length:Int)→Beg r p n x ts {r with en:=.tup [.str "going",.int r.mo]}
  | new {r:Rn} {p n ts body:D} {x:Str}:(r.be.length:Int)<r.mo→valD r.bo (.inr x)=some body→Beg r p n x ts {r with pe:=r.pe++[.tup [.bl false,body,.int r.be.length]],be:=r.be++[.tup [p,n,.str x,ts]]}
inductive zqa (CR:Addr) (ds:List D) (S:Hp3) (Q:K3) (_:X3):Prop where
  | mk (S0:_) (a:_) (A:_) (r:_) (p:_) (n:_) (x:_) (ts:_) (r':_) (_:ds=[.ref a,p,n,.str x,ts]) (_:RS CR S0 S a A r) (_:r.be.length≤900000) (_:r.pe.length≤900000) (_:Beg r p n x ts r') (_:∀S',RS CR S0 S' a A r'→Q .non S')
def zgq (CR:Addr):Sp3:= (zqa CR)
theorem zkf {k:Nat} (h:HasM K CR "begin" "Run.begin" zcw ["self","parent","number","name","trees"]) (G:Gs K mg) (T:RunT K mg CR):Met3 P w K mg base (k+1) CR "begin" ["self","parent","number","name","trees"] (zgq CR):=by
  refine h.met3 zj2 (by rintro ds S Q E ⟨_,a,A,r,p,n,x,ts,body,e,_⟩;rw [e];rfl) fun f cdv A0 outer s0 H E ds S Q W hr hA=>?_
  obtain ⟨S0,a,A,r,p,n,x,ts,r',rfl,h,lb,lp,hb,hq⟩:=hA
  have hu:=zkp hr
  refine ⟨_,(zah (s_if (za1 op_ge zc8 (za3 zak zb8 rfl G.len PySem.boot_len (zaa (zbs T.cl T.n_begun (e_v 0) rfl) zad)) (zbs T.cl T.n_most (e_v 0) rfl) (nomark _)) (zah (zfe T.cl T.n_ending (e_v 0) (zbr (zaa zas (zaa (zbs T.cl T.n_most (e_v 0) rfl) zad))) rfl)) (zac (zaz (e_bm PySem.F.plainAttrs_list PySem.F.slot_list_append PySem.F.type_list_append zam zao (zbs T.cl T.n_pending (e_v 0) rfl) (zaa (zbr (zaa e_bl (zaa (zmk hu (zbs T.cl T.n_bodies (e_v 0) rfl) (e_v 3) (fun _ _=>rfl)) (zaa (za3 zak zb8 rfl G.len PySem.boot_len (zaa (zbs T.cl T.n_begun (e_v 0) rfl) zad)) zad)))) zad)))
 (zah (zaz (e_bm PySem.F.plainAttrs_list PySem.F.slot_list_append PySem.F.type_list_append zam zao (zbs T.cl T.n_begun (e_v 0) rfl) (zaa (zbr (zaa (e_v 1) (zaa (e_v 2) (zaa (e_v 3) (zaa (e_v 4) zad))))) zad))))))),?_⟩
  have hbe:=h.be
  have hpe:=h.pe
  cases hb with
  | stop hm =>
    nofun
    refine j_RputEn h ?_
    nofun
    exact hq _ (h.putEn _)
  | new hm hv =>
    rename_i body
    nofun
    refine j_dgetS h.bo hv ?_
    nofun
    refine j_append hpe (zav (by omega)) ?_
    have h1:=h.putPe (r.pe++[.tup [.bl false,body,.int r.be.length]])
    have hbe1:=h1.be
    generalize up S A.pe _=S1 at h1 hbe1 ⊢
    nofun
    refine j_append (ds:=r.be) hbe1 (zav (by omega)) ?_
    nofun
    exact hq _ (h1.putBe _)
inductive zp6 (CR:Addr) (ds:List D) (S:Hp3) (Q:K3) (_:X3):Prop where
  | mk (S0:_) (a:_) (A:_) (r:_) (n:_) (xs:_) (ys:_) (_:ds=[.ref a,.int n]) (_:RS CR S0 S a A r) (_:r.wa=xs++ys) (_:(ys.length:Int)=n) (_:∀A' S',RS CR S0 S' a A' {r with wa:=xs}→Q (.tup ys) S')
def zgo (CR:Addr):Sp3:= (zp6 CR)
theorem zkd {k:Nat} (h:HasM K CR "taken" "Run.taken" zcu ["self","many"]) (G:Gs K mg) (T:RunT K mg CR):Met3 P w K mg base (k+1) CR "taken" ["self","many"] (zgo CR):=by
  refine h.met3 zea (by rintro ds S Q E ⟨_,a,A,r,n,xs,ys,e,_⟩;rw [e];rfl) fun f cdv A0 outer s0 H E ds S Q W hr hA=>?_
  obtain ⟨S0,a,A,r,n,xs,ys,rfl,h,hw,hn,hq⟩:=hA
  refine ⟨_,(zac (zai (i:=2) zea.nd rfl (Or.inl rfl) (e_op zlt zd5 (za3 zak zb8 rfl G.len PySem.boot_len (zaa (zbs T.cl T.n_waiting (e_v 0) rfl) zad)) (e_v 1)))
 (zac (zai (i:=3) zea.nd rfl (Or.inl rfl) (zc7 zbv zd3 rfl G.tuple boot_tuple (zaa (za8 zc0 zd4 (zbs T.cl T.n_waiting (e_v 0) rfl) (zbl (e_v 2)) zbq) zad)))
 (zac (zfe T.cl T.n_waiting (e_v 0) (za8 zc0 zd4 (zbs T.cl T.n_waiting (e_v 0) rfl) zbq (zbl (e_v 2))) rfl)
 (zah (zbn (e_v 3)))))),?_⟩
  have hwa:=h.wa
  nofun
  have e1:((r.wa.length:Nat):Int)-n=(xs.length:Nat):=by rw [hw,List.length_append,←hn];omega
  rw [e1]
  have c1:E3.cutD r.wa (some ((xs.length:Nat):Int)) none=ys:=by rw [zcy (by omega),hw];simp
  have c2:E3.cutD r.wa none (some ((xs.length:Nat):Int))=xs:=by rw [zg2 (by omega),hw];simp
  nofun
  rw [c1]
  intro p1 hp1
  have h1:=h.lay (o:=.lst ys) hp1
  have hw1:=h1.wa
  have g1:up S p1 (.lst ys) p1=some (.lst ys):=zab
  generalize up S p1 (.lst ys)=S1 at h1 hw1 g1 ⊢
  nofun
  rw [c2]
  intro p2 hp2
  have h2:=h1.lay (o:=.lst xs) hp2
  have g2:up S1 p2 (.lst xs) p2=some (.lst xs):=zab
  have m1:A.be≠p2:=ne3 h1.be hp2
  have m2:A.pe≠p2:=ne3 h1.pe hp2
  generalize up S1 p2 (.lst xs)=S2 at h2 g2 ⊢
  nofun
  refine j_RputWa h2 ?_
  have h3:=h2.newWa g2 m1 m2 (h1.sub.free hp2)
  nofun
  exact hq _ _ h3
noncomputable def pickT (t:Tre) (x y:D):D:=match t with
  | .bud=>y
  | .pair _ _=>x
inductive zod (CR:Addr) (ds:List D) (S:Hp3) (Q:K3) (_:X3):Prop where
  | mk (S0:_) (a:_) (A:_) (r:_) (c:_) (x:_) (y:_) (p:_) (xs:_) (t:_) (_:ds=[.ref a,.tup [.str "fork",c,x,y],.int p]) (_:RS CR S0 S a A r) (_:r.pe.length≤900000) (_:r.wa=xs++[Tre.d t]) (_:∀S',RS CR S0 S' a A {r with wa:=xs,pe:=r.pe++[.tup [.bl false,pickT t x y,.int p]]}→Q .non S')
def zhb (CR:Addr):Sp3:= (zod CR)
theorem zih {k:Nat} (h:HasM K CR "choose" "Run.choose" zcd ["self","fork","place"]) (G:Gs K mg) (T:RunT K mg CR):Met3 P w K mg base (k+1) CR "choose" ["self","fork","place"] (zhb CR):=by
  refine h.met3 zfc (by rintro ds S Q E ⟨_,a,A,r,c,x,y,p,xs,t,e,_⟩;rw [e];rfl) fun f cdv A0 outer s0 H E ds S Q W hr hA=>?_
  obtain ⟨S0,a,A,r,c,x,y,p,xs,t,rfl,h,lp,hw,hq⟩:=hA
  refine ⟨_,(zac (zai (i:=3) zfc.nd rfl (Or.inl rfl) (zdr (za1 zjd zjl (zet PySem.F.plainAttrs_list PySem.F.slot_list_pop PySem.F.type_list_pop zb5 zda (zbs T.cl T.n_waiting (e_v 0) rfl)) zdp (nomark _)) (e_ix zap zaq (e_v 1) zae (fun _ _=>rfl)) (e_ix zap zaq (e_v 1) zae (fun _ _=>rfl))))
 (zah (zaz (e_bm PySem.F.plainAttrs_list PySem.F.slot_list_append PySem.F.type_list_append zam zao (zbs T.cl T.n_pending (e_v 0) rfl) (zaa (zbr (zaa e_bl (zaa (e_v 3) (zaa (e_v 2) zad)))) zad))))),?_⟩
  have hwa:=h.wa
  rw [hw] at hwa
  nofun
  refine j_pop hwa ?_
  have g:=h.putWa xs
  have hpe:=g.pe
  generalize up S A.wa _=S1 at g hpe ⊢
  cases t with
  | bud =>
    nofun
    refine j_append (ds:=r.pe) hpe (zav (by omega)) ?_
    nofun
    exact hq _ (g.putPe _)
  | pair l u =>
    have e:(Tre.pair l u).d=.tup [l.d,u.d]:=rfl
    rw [e]
    nofun
    refine j_append (ds:=r.pe) hpe (zav (by omega)) ?_
    nofun
    exact hq _ (g.putPe _)
inductive zi1 (CR:Addr) (ds:List D) (S:Hp3) (Q:K3) (_:X3):Prop where
  | mk (S0:_) (a:_) (A:_) (r:_) (xs:_) (t1:_) (t2:_) (_:ds=[.ref a]) (_:RS CR S0 S a A r) (_:r.wa=xs++[Tre.d t1,Tre.d t2]) (_:xs.length≤900000) (_:(Tre.pair t1 t2).size≤1000) (_:((Tre.pair t1 t2).size≤60→∀A' S',RS CR S0 S' a A' {r with wa:=xs++[(Tre.pair t1 t2).d]}→Q .non S')) (_:(60<(Tre.pair t1 t2).size→∀A' S',RS CR S0 S' a A' {r with wa:=xs,en:=.tup [.str "grown",.int r.be.length]}→Q .non S'))
def zek (CR:Addr):Sp3:= (zi1 CR)
theorem zf3 {k:Nat} (h:HasM K CR "join_pair" "Run.join_pair" zbk ["self"]) (G:Gs K mg) (T:RunT K mg CR) (M_taken:Met3 P w K mg base k CR "taken" ["self","many"] (zgo CR)) (C_size:Cal3 P w K mg base k "size" ["tree"] zk3):Met3 P w K mg base (k+1) CR "join_pair" ["self"] (zek CR):=by
  refine h.met3 zdm (by rintro ds S Q E ⟨_,a,A,r,xs,t1,t2,e,_⟩;rw [e];rfl) fun f cdv A0 outer s0 H E ds S Q W hr hA=>?_
  obtain ⟨S0,a,A,r,xs,t1,t2,rfl,h,hw,hl,hz,hq1,hq2⟩:=hA
  refine ⟨_,(zac (zai (i:=1) zdm.nd rfl (Or.inl rfl) (zer M_taken T.cl hr (e_v 0) (zaa zae zad)))
 (zah (s_if (za1 zlv zc8 (zaj C_size hr rfl (zaa (e_v 1) zad)) (zpw G.MOST_PAIRS rfl) (nomark _)) (zah (zfe T.cl T.n_ending (e_v 0) (zbr (zaa zas (zaa (za3 zak zb8 rfl G.len PySem.boot_len (zaa (zbs T.cl T.n_begun (e_v 0) rfl) zad)) zad))) rfl)) (zah (zaz (e_bm PySem.F.plainAttrs_list PySem.F.slot_list_append PySem.F.type_list_append zam zao (zbs T.cl T.n_waiting (e_v 0) rfl) (zaa (e_v 1) zad))))))),?_⟩
  nofun
  refine j_Rm h (fun _ _ _ _ _ _ _=>rfl) ?_
  nofun
  refine ⟨S0,a,A,r,2,xs,[t1.d,t2.d],rfl,h,hw,rfl,fun A' S' h1=>?_⟩
  nofun
  refine ⟨.pair t1 t2,rfl,hz,?_⟩
  nofun
  have hb1:=h1.be
  have hw1:=h1.wa
  by_cases c:(60:Int)<((Tre.pair t1 t2).size:Int)
  · nofun
    refine j_RputEn h1 ?_
    nofun
    exact hq2 (by omega) _ _ (h1.putEn _)
  · nofun
    refine j_append (ds:=xs) hw1 (zav (by omega)) ?_
    nofun
    exact hq1 (by omega) _ _ (h1.putWa _)
inductive zi0 (CR:Addr) (ds:List D) (S:Hp3) (Q:K3) (_:X3):Prop where
  | mk (S0:Hp3) (a:Addr) (A:Ra) (r:Rn) (x:Str) (pl:Int) (pr nu:D) (nm:Str) (zs:List Str) (ts:List D) (j:Nat) (d:D) (_:ds=[.ref a,.str x,.int pl]) (_:RS CR S0 S a A r) (_:atI r.be pl=some (.tup [pr,nu,.str nm,.tup ts])) (_:valD r.pa (.inr nm)=some (.tup (zs.map D.str))) (_:zs[j]?=some x) (_:x∉zs.take j) (_:ts[j]?=some d) (_:Q d S)
def zej (CR:Addr):Sp3:= (zi0 CR)
theorem zf2 {k:Nat} (h:HasM K CR "parameter" "Run.parameter" zbj ["self","name","place"]) (G:Gs K mg) (T:RunT K mg CR):Met3 P w K mg base (k+1) CR "parameter" ["self","name","place"] (zej CR):=by
  refine h.met3 zdl (by rintro ds S Q E ⟨_,a,A,r,x,pl,pr,nu,nm,zs,ts,j,d,e,_⟩;rw [e];rfl) fun f cdv A0 outer s0 H E ds S Q W hr hA=>?_
  obtain ⟨S0,a,A,r,x,pl,pr,nu,nm,zs,ts,j,d,rfl,h,he,hv,hj,hno,hd,hq⟩:=hA
  have hu:=zkp hr
  refine ⟨_,(zac (zai (i:=3) zdl.nd rfl (Or.inl rfl) (e_ix zb1 zcx (zbs T.cl T.n_begun (e_v 0) rfl) (e_v 2) (fun _ _=>rfl)))
 (zah (zbn (e_ix zap zaq (e_ix zap zaq (e_v 3) zae (fun _ _=>rfl)) (e_bmT PySem.F.slot_tuple_index PySem.F.type_tuple_index zl1 zmn (zmk hu (zbs T.cl T.n_params (e_v 0) rfl) (e_ix zap zaq (e_v 3) zae (fun _ _=>rfl)) (fun _ _=>rfl)) (zaa (e_v 1) zad)) (fun _ _=>rfl))))),?_⟩
  nofun
  refine j_ixL h.be he ?_
  nofun
  refine j_dgetS h.pa hv ?_
  nofun
  refine j_indexT hj hno ?_
  nofun
  exact j_ixT (zdg hd) hq
structure Sm (r:Rn):Prop where
  be:r.be.length≤900000
  pe:r.pe.length≤900000
  wa:r.wa.length≤900000
inductive Fin:Rn→D→Int→Rn→Prop
  | send {r r':Rn} {x:Str} {us xs ts:List D} {l p:Int}:r.wa=xs++ts→ts.length=us.length→Beg {r with wa:=xs} (.int p) (.int l) x (.tup ts) r'→Fin r (.tup [.str "send",.str x,.tup us,.int l]) p r'
  | fork {r:Rn} {c x y:D} {xs:List D} {t:Tre} {p:Int}:r.wa=xs++[Tre.d t]→Fin r (.tup [.str "fork",c,x,y]) p {r with wa:=xs,pe:=r.pe++[.tup [.bl false,pickT t x y,.int p]]}
  | left {r:Rn} {c:D} {xs:List D} {t:Tre} {p:Int}:r.wa=xs++[Tre.d t]→Fin r (.tup [.str "left",c]) p {r with wa:=xs++[(sideT true t).d]}
  | right {r:Rn} {c:D} {xs:List D} {t:Tre} {p:Int}:r.wa=xs++[Tre.d t]→Fin r (.tup [.str "right",c]) p {r with wa:=xs++[(sideT false t).d]}
  | pair {r:Rn} {a b:D} {xs:List D} {t1 t2:Tre} {p:Int}:r.wa=xs++[Tre.d t1,Tre.d t2]→(Tre.pair t1 t2).size≤60→Fin r (.tup [.str "pair",a,b]) p {r with wa:=xs++[(Tre.pair t1 t2).d]}
  | grown {r:Rn} {a b:D} {xs:List D} {t1 t2:Tre} {p:Int}:r.wa=xs++[Tre.d t1,Tre.d t2]→60<(Tre.pair t1 t2).size→(Tre.pair t1 t2).size≤1000→Fin r (.tup [.str "pair",a,b]) p {r with wa:=xs,en:=.tup [.str "grown",.int r.be.length]}
  | name {r:Rn} {x nm:Str} {p:Int} {pr nu d:D} {zs:List Str} {ts:List D} {j:Nat}:atI r.be p=some (.tup [pr,nu,.str nm,.tup ts])→valD r.pa (.inr nm)=some (.tup (zs.map D.str))→zs[j]?=some x→x∉zs.take j→ts[j]?=some d →
      Fin r (.tup [.str "name",.str x]) p {r with wa:=r.wa++[d]}
  | bud {r:Rn} {p:Int}:Fin r (.tup [.str "bud"]) p {r with wa:=r.wa++[.non]}
inductive zoc (CR:Addr) (ds:List D) (S:Hp3) (Q:K3) (_:X3):Prop where
  | mk (S0:_) (a:_) (A:_) (r:_) (s:_) (p:_) (r':_) (_:ds=[.ref a,s,.int p]) (_:RS CR S0 S a A r) (_:Sm r) (_:Fin r s p r') (_:∀A' S',RS CR S0 S' a A' r'→Q .non S')
def zha (CR:Addr):Sp3:= (zoc CR)
theorem zig {k:Nat} (h:HasM K CR "finish" "Run.finish" zcc ["self","saying","place"]) (G:Gs K mg) (T:RunT K mg CR) (M_begin:Met3 P w K mg base k CR "begin" ["self","parent","number","name","trees"] (zgq CR)) (M_taken:Met3 P w K mg base k CR "taken" ["self","many"] (zgo CR))
    (M_choose:Met3 P w K mg base k CR "choose" ["self","fork","place"] (zhb CR)) (M_join_pair:Met3 P w K mg base k CR "join_pair" ["self"] (zek CR)) (M_parameter:Met3 P w K mg base k CR "parameter" ["self","name","place"] (zej CR)) (C_side:Cal3 P w K mg base k "side" ["kind","tree"] zk4) :
    Met3 P w K mg base (k+1) CR "finish" ["self","saying","place"] (zha CR):=by
  refine h.met3 zfb (by rintro ds S Q E ⟨_,a,A,r,s,p,r',e,_⟩;rw [e];rfl) fun f cdv A0 outer s0 H E ds S Q W hr hA=>?_
  obtain ⟨S0,a,A,r,s,p,r',rfl,h,sm,hf,hq⟩:=hA
  refine ⟨_,(zac (zai (i:=3) zfb.nd rfl (Or.inl rfl) (e_ix zap zaq (e_v 1) zae (fun _ _=>rfl)))
 (zah (s_if (za1 zbp zcm (e_v 3) zas (nomark _)) (zah (zaz (zer M_begin T.cl hr (e_v 0) (zaa (e_v 2) (zaa (e_ix zap zaq (e_v 1) zae (fun _ _=>rfl)) (zaa (e_ix zap zaq (e_v 1) zae (fun _ _=>rfl)) (zaa (zer M_taken T.cl hr (e_v 0) (zaa (za3 zak zb8 rfl G.len PySem.boot_len (zaa (e_ix zap zaq (e_v 1) zae (fun _ _=>rfl)) zad)) zad)) zad))))))) (zah (s_if (za1 zbp zcm (e_v 3) zas (nomark _)) (zah (zaz (zer M_choose T.cl hr (e_v 0) (zaa (e_v 1) (zaa (e_v 2) zad))))) (zah (s_if (za1 zbp zcm (e_v 3) zas (nomark _)) (zah (zaz (zmj M_join_pair T.cl hr (e_v 0)))) (zah (s_if (za1 zbp zcm (e_v 3) zas (nomark _)) (zah (zaz (e_bm PySem.F.plainAttrs_list PySem.F.slot_list_append PySem.F.type_list_append zam zao (zbs T.cl T.n_waiting (e_v 0) rfl) (zaa (zer M_parameter T.cl hr (e_v 0) (zaa (e_ix zap zaq (e_v 1) zae (fun _ _=>rfl)) (zaa (e_v 2) zad))) zad)))) (zah (s_if (za1 zbp zcm (e_v 3) zas (nomark _)) (zah (zaz (e_bm PySem.F.plainAttrs_list PySem.F.slot_list_append PySem.F.type_list_append zam zao (zbs T.cl T.n_waiting (e_v 0) rfl) (zaa zdp zad)))) (zah (zaz (e_bm PySem.F.plainAttrs_list PySem.F.slot_list_append PySem.F.type_list_append zam zao (zbs T.cl T.n_waiting (e_v 0) rfl) (zaa (zaj C_side hr rfl (zaa (e_v 3) (zaa (zet PySem.F.plainAttrs_list PySem.F.slot_list_pop PySem.F.type_list_pop zb5 zda (zbs T.cl T.n_waiting (e_v 0) rfl)) zad))) zad))))))))))))))),?_⟩
  have hw:=h.wa
  cases hf with
  | @send _ x is xs ts l _ h1 h2 h3 =>
    nofun
    refine j_Rm h (fun _ _ _ _ _ _ _=>rfl) ?_
    nofun
    refine j_Rm h (fun _ _ _ _ _ _ _=>rfl) ?_
    nofun
    refine ⟨S0,a,A,r,_,xs,ts,rfl,h,h1,by rw [h2],fun A' S' g=>?_⟩
    nofun
    exact ⟨S0,a,A',_,_,_,_,_,_,rfl,g,sm.be,sm.pe,h3,fun S2 g2=>hq _ _ g2⟩
  | pair h1 h2 =>
    nofun
    refine j_Rm h (fun _ _ _ _ _ _ _=>rfl) ?_
    refine ⟨S0,a,A,r,_,_,_,rfl,h,h1,?_,by omega,fun _ A' S' g=>?_,fun z=>absurd h2 (by omega)⟩
    · have:=sm.wa
      rw [h1,List.length_append] at this
      omega
    · nofun
      exact hq _ _ g
  | grown h1 h2 h3 =>
    nofun
    refine j_Rm h (fun _ _ _ _ _ _ _=>rfl) ?_
    refine ⟨S0,a,A,r,_,_,_,rfl,h,h1,?_,h3,fun z=>absurd h2 (by omega),fun _ A' S' g=>?_⟩
    · have:=sm.wa
      rw [h1,List.length_append] at this
      omega
    · nofun
      exact hq _ _ g
  | @name x nm _ pr nu d zs ts j h1 h2 h3 h4 h5 =>
    nofun
    refine j_Rm h (fun _ _ _ _ _ _ _=>rfl) ?_
    nofun
    refine ⟨S0,a,A,r,x,p,pr,nu,nm,zs,ts,j,d,rfl,h,h1,h2,h3,h4,h5,?_⟩
    nofun
    refine j_append hw (zav (by have:=sm.wa;omega)) ?_
    nofun
    exact hq _ _ (h.putWa _)
  | bud =>
    nofun
    refine j_append hw (zav (by have:=sm.wa;omega)) ?_
    nofun
    exact hq _ _ (h.putWa _)
  | @fork c x y xs t _ h1 =>
    nofun
    refine j_Rm h (fun _ _ _ _ _ _ _=>rfl) ?_
    nofun
    refine ⟨S0,a,A,r,c,x,y,p,xs,t,rfl,h,sm.pe,h1,fun S2 g2=>?_⟩
    nofun
    exact hq _ _ g2
  | @left c xs t _ h1 =>
    rw [h1] at hw
    nofun
    refine j_pop hw ?_
    have g:=h.putWa xs
    have gw:=g.wa
    generalize up S A.wa _=S1 at g gw ⊢
    nofun
    refine ⟨true,t,rfl,?_⟩
    nofun
    refine j_append (ds:=xs) gw (zav (by have:=sm.wa;rw [h1,List.length_append] at this;omega)) ?_
    nofun
    exact hq _ _ (g.putWa _)
  | @right c xs t _ h1 =>
    rw [h1] at hw
    nofun
    refine j_pop hw ?_
    have g:=h.putWa xs
    have gw:=g.wa
    generalize up S A.wa _=S1 at g gw ⊢
    nofun
    refine ⟨false,t,rfl,?_⟩
    nofun
    refine j_append (ds:=xs) gw (zav (by have:=sm.wa;rw [h1,List.length_append] at this;omega)) ?_
    nofun
    exact hq _ _ (g.putWa _)
noncomputable def askd (p:Int) (ps:List D):List D:=ps.reverse.map fun c=>.tup [.bl false,c,.int p]
inductive zm3 (CR:Addr) (ds:List D) (S:Hp3) (Q:K3) (_:X3):Prop where
  | mk (S0:_) (a:_) (A:_) (r:_) (s:_) (p:_) (ps:_) (_:ds=[.ref a,s,.int p]) (_:RS CR S0 S a A r) (_:r.pe.length≤900000) (_:PtN s ps) (_:ps.length≤100) (_:∀S',RS CR S0 S' a A {r with pe:=r.pe++[.tup [.bl true,s,.int p]]++askd p ps}→Q .non S')
def zf9 (CR:Addr):Sp3:= (zm3 CR)
theorem zhk {k:Nat} (h:HasM K CR "prepare" "Run.prepare" zby ["self","saying","place"]) (G:Gs K mg) (T:RunT K mg CR) (C_needed_parts:Cal3 P w K mg base k "needed_parts" ["saying"] zdb):Met3 P w K mg base (k+1) CR "prepare" ["self","saying","place"] (zf9 CR):=by
  refine h.met3 zem (by rintro ds S Q E ⟨_,a,A,r,s,p,ps,e,_⟩;rw [e];rfl) fun f cdv A0 outer s0 H E ds S Q W hr hA=>?_
  obtain ⟨S0,a,A,r,s,p,ps,rfl,h,lp,hp,lps,hq⟩:=hA
  refine ⟨_,(zac (zaz (e_bm PySem.F.plainAttrs_list PySem.F.slot_list_append PySem.F.type_list_append zam zao (zbs T.cl T.n_pending (e_v 0) rfl) (zaa (zbr (zaa e_bl (zaa (e_v 1) (zaa (e_v 2) zad)))) zad)))
 (zah (zf0 PassesOwn.never rfl (i_rev rfl G.reversed (zaa (zaj C_needed_parts hr rfl (zaa (e_v 1) zad)) zad)) (zdf (i:=3) zem.nd rfl (Or.inl rfl)) (zah (zaz (e_bm PySem.F.plainAttrs_list PySem.F.slot_list_append PySem.F.type_list_append zam zao (zbs T.cl T.n_pending (e_v 0) rfl) (zaa (zbr (zaa e_bl (zaa (e_v 3) (zaa (e_v 2) zad)))) zad))))))),?_⟩
  have hpe:=h.pe
  nofun
  refine j_append hpe (zav (by omega)) ?_
  have h1:=h.putPe (r.pe++[.tup [.bl true,s,.int p]])
  generalize up S A.pe _=S1 at h1 ⊢
  nofun
  refine ⟨s,ps,rfl,hp,?_⟩
  nofun
  refine ⟨fun i σ S'=>∃x3,σ=[some (.ref a),some s,some (.int p),x3]∧RS CR S0 S' a A {r with pe:=r.pe++[.tup [.bl true,s,.int p]]++(ps.reverse.take i).map fun c=>.tup [.bl false,c,.int p]},⟨none,rfl,by simpa using h1⟩,fun _ _ _ _=>trivial,?_,?_⟩
  · rintro i d σ S' hd ⟨x3,rfl,g⟩
    have hi:=(List.getElem?_eq_some_iff.mp hd).1
    rw [List.length_reverse] at hi
    have gp:=g.pe
    nofun
    refine j_append gp ?_ ?_
    · simp only [List.length_append,List.length_map,List.length_take,List.length_reverse,List.length_cons,List.length_nil]
      exact zav (by omega)
    nofun
    refine ⟨_,rfl,?_⟩
    have g2:=g.putPe (r.pe++[.tup [.bl true,s,.int p]]++((ps.reverse.take i).map fun c=>.tup [.bl false,c,.int p])++[.tup [.bl false,d,.int p]])
    rw [List.take_succ,hd,List.map_append,←List.append_assoc]
    exact g2
  · rintro σ S' ⟨x3,rfl,g⟩
    nofun
    refine hq _ ?_
    rw [List.take_length] at g
    exact g
inductive GoN:Nat→Rn→Rn→Prop
  | fin {r:Rn} {xs:List D} {v:D}:r.pe=[]→r.en=.non→r.wa=xs++[v]→GoN 0 r {r with wa:=xs,en:=.tup [.str "done",v,.int r.be.length]}
  | grown {r:Rn} {ds:List D}:r.en=.tup ds→GoN 0 r r
  | prep {n:Nat} {r r':Rn} {ps qs:List D} {s:D} {p:Int}:ps.length≤900000→r.en=.non→r.pe=ps++[.tup [.bl false,s,.int p]]→PtN s qs→qs.length≤100→GoN n {r with pe:=ps++[.tup [.bl true,s,.int p]]++askd p qs} r'→GoN (n+1) r r'
  | fnsh {n:Nat} {r r1 r':Rn} {ps:List D} {s:D} {p:Int}:Sm {r with pe:=ps}→r.en=.non→r.pe=ps++[.tup [.bl true,s,.int p]]→Fin {r with pe:=ps} s p r1→GoN n r1 r'→GoN (n+1) r r'
inductive zp9 (CR:Addr) (ds:List D) (S:Hp3) (Q:K3) (_:X3):Prop where
  | mk (S0:_) (a:_) (A:_) (r:_) (n:_) (r':_) (_:ds=[.ref a]) (_:RS CR S0 S a A r) (_:GoN n r r') (_:∀A' S',RS CR S0 S' a A' r'→Q .non S')
def zi6 (CR:Addr):Sp3:= (zp9 CR)
theorem zke {k:Nat} (h:HasM K CR "go_on" "Run.go_on" zcv ["self"]) (G:Gs K mg) (T:RunT K mg CR) (M_finish:Met3 P w K mg base k CR "finish" ["self","saying","place"] (zha CR)) (M_prepare:Met3 P w K mg base k CR "prepare" ["self","saying","place"] (zf9 CR)) :
    Met3 P w K mg base (k+1) CR "go_on" ["self"] (zi6 CR):=by
  refine h.met3 zgb (by rintro ds S Q E ⟨_,a,A,r,n,r',e,_⟩;rw [e];rfl) fun f cdv A0 outer s0 H E ds S Q W hr hA=>?_
  obtain ⟨S0,a,A,r,n,r',rfl,h,hg,hq⟩:=hA
  refine ⟨_,(zac (zib PassesOwn.never (PW3.pt (w_and (zh6 (zbs T.cl T.n_pending (e_v 0) rfl) (fun _=>rfl)) (ze2 (za1 zjd zjl (zbs T.cl T.n_ending (e_v 0) rfl) zdp (nomark _))))) (zac (zai (i:=1) zgb.nd rfl (Or.inl rfl) (zet PySem.F.plainAttrs_list PySem.F.slot_list_pop PySem.F.type_list_pop zb5 zda (zbs T.cl T.n_pending (e_v 0) rfl)))
 (zah (s_if (zjs (e_ix zap zaq (e_v 1) zae (fun _ _=>rfl))) (zah (zaz (zer M_finish T.cl hr (e_v 0) (zaa (e_ix zap zaq (e_v 1) zae (fun _ _=>rfl)) (zaa (e_ix zap zaq (e_v 1) zae (fun _ _=>rfl)) zad))))) (zah (zaz (zer M_prepare T.cl hr (e_v 0) (zaa (e_ix zap zaq (e_v 1) zae (fun _ _=>rfl)) (zaa (e_ix zap zaq (e_v 1) zae (fun _ _=>rfl)) zad)))))))))
 (zah (s_if (za1 zjd zjl (zbs T.cl T.n_ending (e_v 0) rfl) zdp (nomark _)) (zah (zfe T.cl T.n_ending (e_v 0) (zbr (zaa zas (zaa (zet PySem.F.plainAttrs_list PySem.F.slot_list_pop PySem.F.type_list_pop zb5 zda (zbs T.cl T.n_waiting (e_v 0) rfl)) (zaa (za3 zak zb8 rfl G.len PySem.boot_len (zaa (zbs T.cl T.n_begun (e_v 0) rfl) zad)) zad)))) rfl)) zb9))),?_⟩
  nofun
  refine j_while (fun m σ S=>Ex3 fun A r x1=>σ=[some (.ref a),x1]∧RS CR S0 S a A r∧GoN m r r') n ⟨A,r,none,rfl,h,hg⟩ ?_
  clear h hg
  rintro m σ S ⟨A,r,x1,rfl,h,hg⟩
  have hpe:=h.pe
  have hbe:=h.be
  nofun
  cases hg with
  | @fin _ xs v h1 h2 h3 =>
    have h2':isNon r.en=true:=by rw [h2];rfl
    have hw:S A.wa=some (.lst (xs++[v])):=by rw [h.wa,h3]
    rw [h1]
    nofun
    rw [h2']
    nofun
    refine j_pop hw ?_
    have g:=h.putWa xs
    have gb:=g.be
    generalize up S A.wa _=S1 at g gb ⊢
    nofun
    refine j_RputEn g ?_
    nofun
    exact hq _ _ (g.putEn _)
  | @grown _ ds h1 =>
    have h2':isNon r'.en=false:=by rw [h1];rfl
    cases hb:(!r'.pe.isEmpty) with
    | true =>
      refine iteT ?_
      nofun
      rw [h2']
      nofun
      rw [h2']
      nofun
      exact hq _ _ h
    | false =>
      refine iteF ?_
      nofun
      rw [h2']
      nofun
      exact hq _ _ h
  | @prep n _ _ ps qs s p h1 h2 h3 h4 h5 h6 =>
    have h2':isNon r.en=true:=by rw [h2];rfl
    have hb:(!r.pe.isEmpty)=true:=by rw [h3];simp
    rw [h3] at hpe
    rw [hb]
    nofun
    rw [h2']
    nofun
    refine j_pop hpe ?_
    have g:=h.putPe ps
    generalize up S A.pe _=S1 at g ⊢
    nofun
    refine j_Rm g (fun _ _ _ _ _ _ _=>rfl) ?_
    nofun
    refine ⟨S0,a,A,_,s,p,qs,rfl,g,h1,h4,h5,fun S' g2=>?_⟩
    nofun
    exact ⟨n,Nat.lt_succ_self _,A,_,_,rfl,g2,h6⟩
  | @fnsh n _ r1 _ ps s p h1 h2 h3 h4 h5 =>
    have h2':isNon r.en=true:=by rw [h2];rfl
    have hb:(!r.pe.isEmpty)=true:=by rw [h3];simp
    rw [h3] at hpe
    rw [hb]
    nofun
    rw [h2']
    nofun
    refine j_pop hpe ?_
    have g:=h.putPe ps
    generalize up S A.pe _=S1 at g ⊢
    nofun
    refine j_Rm g (fun _ _ _ _ _ _ _=>rfl) ?_
    nofun
    refine ⟨S0,a,A,_,s,p,r1,rfl,g,h1,h4,fun A' S' g2=>?_⟩
    nofun
    exact ⟨n,Nat.lt_succ_self _,A',_,_,rfl,g2,h5⟩
noncomputable def parD (prog:List Er):List (Key×D):=(prog.map fun e=>((Sum.inr e.name:Key),D.tup (e.ps.map D.str))).foldl (fun acc kv=>putD acc kv.1 kv.2) []
structure Runs (prog:List Er) (x:Str) (ts:List D) (mo:Int) (r':Rn):Prop where
  len:prog.length≤100
  pre:∀e∈prog,e.body.pre.length≤100000
  ex:∃(zs:List Str) (kvs:List (Key×D)) (r1:Rn) (n:Nat),valD (parD prog) (.inr x)=some (.tup (zs.map D.str))∧zs.length=ts.length∧foldB [] 0 prog=some kvs∧Beg ⟨parD prog,kvs,mo,[],[],[],.non⟩ .non .non x (.tup ts) r1∧GoN n r1 r'
inductive zi2 (CR:Addr) (adr:Rf→Addr) (ds:List D) (S:Hp3) (Q:K3) (W:X3):Prop where
  | mk (pr tr:Addr) (prog:List Er) (x:Str) (ts:List D) (mo:Int) (_:ds=[.ref pr,.str x,.ref tr,.int mo]) (_:S pr=some (.lst (prog.map Er.d))) (_:S tr=some (.lst ts)) (_:prog.length≤100) (_:x.length≤100) (_:ts.length≤300) (_:((valD (parD prog) (.inr x)=none∧∀a S',Sub S S'→W (adr .such) a S')∨(∃zs:List Str,valD (parD prog) (.inr x)=some (.tup (zs.map D.str))∧ts.length≠zs.length∧zs.length≤300∧∀a S',Sub S S'→W (adr .count) a S')∨    ∃r',Runs prog x ts mo r'∧∀a A S',RS CR S S' a A r'→Q (.ref a) S'))
def zdc (CR:Addr) (adr:Rf→Addr):Sp3:= (zi2 CR adr)
theorem zhj {k:Nat} (h:Has K mg "ended_run" zbo ["program","name","trees","most"]) (G:Gs K mg) (T:RunT K mg CR) (R:Rfs K mg ES adr) (C_refuse_missing:Cal3 P w K mg base (k+1) "refuse_missing" ["name","known"] (zcq adr)) (C_refuse_miscounted:Cal3 P w K mg base (k+1) "refuse_miscounted" ["name","row","needed"] (zb6 adr))
    (C_numbered_bodies:Cal3 P w K mg base (k+1) "numbered_bodies" ["program"] zck) (M_init:Met3 P w K mg base k CR "__init__" ["self","params","bodies","most"] (zk6 CR)) (M_begin:Met3 P w K mg base (k+1) CR "begin" ["self","parent","number","name","trees"] (zgq CR))
    (M_go_on:Met3 P w K mg base (k+1) CR "go_on" ["self"] (zi6 CR)):Cal3 P w K mg base (k+1+1) "ended_run" ["program","name","trees","most"] (zdc CR adr):=by
  refine h.cal3x zdd (by rintro ds S Q E ⟨pr,tr,prog,x,ts,mo,e,_⟩;rw [e];rfl) fun f cdv A outer s0 H E ds S Q W hr hA=>?_
  obtain ⟨pr,tr,prog,x,ts,mo,rfl,hS,hT,hl,hxl,htl,hR⟩:=hA
  have hu:=zkp hr
  refine ⟨_,Q,W,(zac (zai (i:=4) zdd.nd rfl (Or.inl rfl) (zc7 zfu zmm rfl G.dict boot_dict (zaa (zjj (osc:=defScope zbo) (N:=["program","name","trees","most","params","ended"]) (M:=[]) (js:=[]) ⟨rfl,by decide +kernel,by decide +kernel,rfl,by decide +kernel,by decide +kernel,by decide +kernel⟩ (by decide +kernel) rfl (zho (e_v 0)) (fun _ _ _ _ _=>(zbr (zaa (e_ix zap zaq (e_v 0) zae (fun _ _=>rfl)) (zaa (e_ix zap zaq (e_v 0) zae (fun _ _=>rfl)) zad))))) zad)))
 (zac (zaz (zaj C_refuse_missing hr rfl (zaa (e_v 1) (zaa (e_v 4) zad))))
 (zac (zaz (zaj C_refuse_miscounted hr rfl (zaa (e_v 1) (zaa (e_v 2) (zaa (za3 zak zb8 rfl G.len PySem.boot_len (zaa (zmk hu (e_v 4) (e_v 1) (fun _ _=>rfl)) zad)) zad)))))
 (zac (zai (i:=5) zdd.nd rfl (Or.inl rfl) (e_make M_init T.mks T.kc hr rfl T.at_ (zaa (e_v 4) (zaa (zaj C_numbered_bodies hr rfl (zaa (e_v 0) zad)) (zaa (e_v 3) zad)))))
 (zac (zaz (zer M_begin T.cl hr (e_v 5) (zaa zdp (zaa zdp (zaa (e_v 1) (zaa (zc7 zbv zd3 rfl G.tuple boot_tuple (zaa (e_v 2) zad)) zad))))))
 (zac (zaz (zmj M_go_on T.cl hr (e_v 5)))
 (zah (zbn (e_v 5))))))))),?_,fun _ _ q=>q,fun _ _ _ q=>q⟩
  nofun
  refine zd6 (fun i=>((prog.map fun e=>D.tup [.str e.name,.tup (e.ps.map D.str)]).getD i .non)) (by rw [List.length_map];omega) (by exact hS) ?_ ?_
  · intro i d hd P hP
    rw [List.getElem?_map] at hd
    obtain ⟨e,he,rfl⟩:=Option.map_eq_some_iff.mp hd
    unfold Er.d
    nofun
    rw [List.getD_eq_getElem?_getD,List.getElem?_map,he] at hP
    exact hP
  have en:((List.range (prog.map Er.d).length).map fun i=>((prog.map fun e=>D.tup [.str e.name,.tup (e.ps.map D.str)]).getD i .non))=(prog.map fun e=>((Sum.inr e.name:Key),D.tup (e.ps.map D.str))).map fun kv=>D.tup [kD kv.1,kv.2]:=by
    rw [List.length_map,List.map_map]
    apply List.ext_getElem?
    intro i
    rw [List.getElem?_map,List.getElem?_map]
    by_cases hi:i<prog.length
    · rw [List.getElem?_range hi,List.getElem?_eq_getElem hi]
      show some (List.getD _ _ _)=some _
      rw [List.getD_eq_getElem?_getD,List.getElem?_map,List.getElem?_eq_getElem hi]
      rfl
    · rw [List.getElem?_eq_none (by simpa using hi),List.getElem?_eq_none (by omega)]
      rfl
  rw [en]
  intro pl hpl
  have a1:=zag (o:=.lst ((prog.map fun e=>((Sum.inr e.name:Key),D.tup (e.ps.map D.str))).map fun kv=>D.tup [kD kv.1,kv.2])) hS hpl
  have a2:=zag (o:=.lst ((prog.map fun e=>((Sum.inr e.name:Key),D.tup (e.ps.map D.str))).map fun kv=>D.tup [kD kv.1,kv.2])) hT hpl
  nofun
  refine j_toDict zab fun pd hpd=>?_
  have eP:List.foldl (fun acc (kv:Key×D)=>putD acc kv.1 kv.2) [] (prog.map fun e=>((Sum.inr e.name:Key),D.tup (e.ps.map D.str)))=parD prog:=rfl
  rw [eP]
  have b1:=zag (o:=.dic (parD prog)) a1 hpd
  have b2:=zag (o:=.dic (parD prog)) a2 hpd
  have b3:=zab (S:=up S pl (.lst ((prog.map fun e=>((Sum.inr e.name:Key),D.tup (e.ps.map D.str))).map fun kv=>D.tup [kD kv.1,kv.2]))) (a:=pd) (o:=.dic (parD prog))
  have b0:Sub S (up (up S pl (.lst ((prog.map fun e=>((Sum.inr e.name:Key),D.tup (e.ps.map D.str))).map fun kv=>D.tup [kD kv.1,kv.2]))) pd (.dic (parD prog))):=((Sub.refl S).up hpl).up hpd
  generalize up (up S pl _) pd (.dic (parD prog))=S1 at b0 b1 b2 b3 ⊢
  nofun
  rcases hR with ⟨hno,hw⟩|⟨zs,h1,hne,hzl,hw⟩|⟨r',hR,hq⟩
  · refine ⟨x,_,rfl,hxl,.inr ⟨pd,_,rfl,b3,fun z=>(by rw [hno] at z;cases z),fun _ a=>hw a _ b0⟩⟩
  · refine ⟨x,_,rfl,hxl,.inr ⟨pd,_,rfl,b3,fun _=>?_,fun z=>(by rw [h1] at z;cases z)⟩⟩
    nofun
    refine j_dgetS b3 h1 ?_
    nofun
    rw [List.length_map]
    exact ⟨x,tr,ts,zs.length,rfl,b2,hxl,hzl,htl,fun z=>absurd z hne,fun _ a=>hw a _ b0⟩
  obtain ⟨zs,kvs,r0,n,h1,h2,h3,h5,h6⟩:=hR.ex
  refine ⟨x,_,rfl,hxl,.inr ⟨pd,_,rfl,b3,fun _=>?_,fun z=>(by rw [h1] at z;cases z)⟩⟩
  nofun
  refine j_dgetS b3 h1 ?_
  nofun
  rw [List.length_map]
  refine ⟨x,tr,ts,zs.length,rfl,b2,hxl,by omega,htl,fun _=>?_,fun z=>absurd h2.symm z⟩
  nofun
  refine ⟨pr,prog,kvs,rfl,b1,hl,hR.pre,h3,fun pb S2 sub hb=>?_⟩
  nofun
  intro a ha
  have c2:=zag (o:=.ins CR []) (sub _ _ b2) ha
  refine ⟨S,a,pd,pb,mo,parD prog,kvs,rfl,zab,zag (sub _ _ b3) ha,zag hb ha,(b0.trans sub).up ha,(b0.trans sub).free ha,fun A1 S3 r3=>⟨rfl,?_⟩⟩
  have d2:=r3.sub _ _ hT
  nofun
  refine j_Rm r3 (fun _ _ _ _ _ _ _=>rfl) ?_
  nofun
  refine ⟨S,a,A1,_,_,_,x,_,_,rfl,r3,Nat.zero_le _,Nat.zero_le _,h5,fun S4 r4=>?_⟩
  nofun
  refine j_Rm r4 (fun _ _ _ _ _ _ _=>rfl) ?_
  refine ⟨S,a,A1,_,n,r',rfl,r4,h6,fun A2 S5 r5=>?_⟩
  nofun
  exact hq a A2 S5 r5
inductive P_run0 (adr:Rf→Addr) (ds:List D) (S:Hp3) (q:D→Prop) (qx:Addr→Prop):Prop where
  | mk (pr tr:Addr) (prog:List Er) (x:Str) (ts:List D) (mo:Int) (_:ds=[.ref pr,.str x,.ref tr,.int mo]) (_:S pr=some (.lst (prog.map Er.d))) (_:S tr=some (.lst ts)) (_:prog.length≤100) (_:x.length≤100) (_:ts.length≤300) (_:((valD (parD prog) (.inr x)=none∧qx (adr .such))∨(∃zs:List Str,valD (parD prog) (.inr x)=some (.tup (zs.map D.str))∧ts.length≠zs.length∧zs.length≤300∧qx (adr .count))∨∃r',Runs prog x ts mo r'∧q r'.en))
def zk5 (adr:Rf→Addr):Sp3:=rdX (P_run0 adr)
theorem ok_run {k:Nat} (h:Has K mg "run" zj3 ["program","name","trees","most"]) (G:Gs K mg) (T:RunT K mg CR) (C_ended_run:Cal3 P w K mg base k "ended_run" ["program","name","trees","most"] (zdc CR adr)):Cal3 P w K mg base (k+1) "run" ["program","name","trees","most"] (zk5 adr):=by
  refine h.rdX sc_run (by rintro ds S Q _ ⟨pr,tr,prog,x,ts,mo,e,_⟩;rw [e];rfl) fun f cdv A outer s0 H E ds S q qx hr hA=>?_
  obtain ⟨pr,tr,prog,x,ts,mo,rfl,hS,hT,hl,hxl,htl,hR⟩:=hA
  refine ⟨_,(zah (zbn (zbs T.cl T.n_ending (zaj C_ended_run hr rfl (zaa (e_v 0) (zaa (e_v 1) (zaa (e_v 2) (zaa (e_v 3) zad))))) rfl))),?_⟩
  nofun
  refine ⟨pr,tr,prog,x,ts,mo,rfl,hS,hT,hl,hxl,htl,?_⟩
  rcases hR with ⟨h1,q⟩|⟨zs,h1,h2,h3,q⟩|⟨r',hR,q⟩
  · exact .inl ⟨h1,fun a S' hs=>⟨hs,q⟩⟩
  · exact .inr (.inl ⟨zs,h1,h2,h3,fun a S' hs=>⟨hs,q⟩⟩)
  · refine .inr (.inr ⟨r',hR,fun a A1 S1 r1=>?_⟩)
    nofun
    exact ⟨r1.sub,q⟩
inductive zky (adr:Rf→Addr) (ds:List D) (S:Hp3) (q:List D→Prop) (qx:Addr→Prop):Prop where
  | mk (pr tr:Addr) (prog:List Er) (x:Str) (ts:List D) (mo:Int) (_:ds=[.ref pr,.str x,.ref tr,.int mo]) (_:S pr=some (.lst (prog.map Er.d))) (_:S tr=some (.lst ts)) (_:prog.length≤100) (_:x.length≤100) (_:ts.length≤300) (_:((valD (parD prog) (.inr x)=none∧qx (adr .such))∨(∃zs:List Str,valD (parD prog) (.inr x)=some (.tup (zs.map D.str))∧ts.length≠zs.length∧zs.length≤300∧qx (adr .count))∨∃r',Runs prog x ts mo r'∧q r'.be))
def ze8 (adr:Rf→Addr):Sp3:=rdLX (zky adr)
theorem zkb {k:Nat} (h:Has K mg "entries" zcs ["program","name","trees","most"]) (G:Gs K mg) (T:RunT K mg CR) (C_ended_run:Cal3 P w K mg base k "ended_run" ["program","name","trees","most"] (zdc CR adr)):Cal3 P w K mg base (k+1) "entries" ["program","name","trees","most"] (ze8 adr):=by
  refine h.rdLX zj0 (by rintro ds S Q _ ⟨pr,tr,prog,x,ts,mo,e,_⟩;rw [e];rfl) fun f cdv A outer s0 H E ds S q qx hr hA=>?_
  obtain ⟨pr,tr,prog,x,ts,mo,rfl,hS,hT,hl,hxl,htl,hR⟩:=hA
  refine ⟨_,(zah (zbn (zbs T.cl T.n_begun (zaj C_ended_run hr rfl (zaa (e_v 0) (zaa (e_v 1) (zaa (e_v 2) (zaa (e_v 3) zad))))) rfl))),?_⟩
  nofun
  refine ⟨pr,tr,prog,x,ts,mo,rfl,hS,hT,hl,hxl,htl,?_⟩
  rcases hR with ⟨h1,q⟩|⟨zs,h1,h2,h3,q⟩|⟨r',hR,q⟩
  · exact .inl ⟨h1,fun a S' hs=>⟨hs,q⟩⟩
  · exact .inr (.inl ⟨zs,h1,h2,h3,fun a S' hs=>⟨hs,q⟩⟩)
  · refine .inr (.inr ⟨r',hR,fun a A1 S1 r1=>?_⟩)
    nofun
    exact ⟨_,_,rfl,r1.f1,r1.sub,r1.be,q⟩
structure En where
  pr:D
  nu:D
  nm:Str
  ts:List Tre
noncomputable def En.d (e:En):D:=.tup [e.pr,e.nu,.str e.nm,.tup (e.ts.map Tre.d)]
inductive Rs (α:Type)
  | val (a:α) (be:List En)
  | grown (be:List En)
  | going (be:List En)
noncomputable def Rs.be {α:Type}:Rs α→List En
  | .val _ be=>be
  | .grown be=>be
  | .going be=>be
noncomputable def Rs.bind {α β:Type} (r:Rs α) (f:α→List En→Rs β):Rs β:=match r with
  | .val a be=>f a be
  | .grown be=>.grown be
  | .going be=>.going be
noncomputable abbrev Call:=D→D→Str→List Tre→List En→Rs Tre
noncomputable def joinT (t1 t2:Tre) (be:List En):Rs Tre:=if (Tre.pair t1 t2).size≤60 then .val (.pair t1 t2) be else .grown be
mutual
noncomputable def ev (call:Call) (zs:List Str) (ts:List Tre) (p:Int):Sy→Int→List En→Rs Tre
  | .name x,_,be=>.val ((ts[zs.idxOf x]?).getD .bud) be
  | .bud,_,be=>.val .bud be
  | .pair a b,n,be=>(ev call zs ts p a n be).bind fun t1 be1=>(ev call zs ts p b (n+a.sends) be1).bind fun t2 be2=>joinT t1 t2 be2
  | .left a,n,be=>(ev call zs ts p a n be).bind fun t be1=>.val (sideT true t) be1
  | .right a,n,be=>(ev call zs ts p a n be).bind fun t be1=>.val (sideT false t) be1
  | .fork a b c,n,be=>(ev call zs ts p a n be).bind fun t be1=>match t with
    | .bud=>ev call zs ts p c (n+a.sends+b.sends) be1
    | .pair _ _=>ev call zs ts p b (n+a.sends) be1
  | .send x as,n,be=>(evs call zs ts p as (n+1) be).bind fun us be1=>call (.int p) (.int n) x us be1
noncomputable def evs (call:Call) (zs:List Str) (ts:List Tre) (p:Int):List Sy→Int→List En→Rs (List Tre)
  | [],_,be=>.val [] be
  | a::as,n,be=>(ev call zs ts p a n be).bind fun t be1=>(evs call zs ts p as (n+a.sends) be1).bind fun us be2=>.val (t::us) be2
end
structure Bk where
  zs:List Str
  body:Sy
  num:Int
noncomputable def enter (B:Str→Bk) (mo:Nat):Nat→Call
  | 0,_,_,_,_,be=>.going be
  | n+1,p,l,x,ts,be=>if be.length<mo then ev (enter B mo n) (B x).zs ts be.length (B x).body (B x).num (be++[⟨p,l,x,ts⟩]) else .going be
mutual
noncomputable def numD:Sy→Int→D
  | .name x,_=>.tup [.str "name",.str x]
  | .bud,_=>.tup [.str "bud"]
  | .pair a b,n=>.tup [.str "pair",numD a n,numD b (n+a.sends)]
  | .left a,n=>.tup [.str "left",numD a n]
  | .right a,n=>.tup [.str "right",numD a n]
  | .fork a b c,n=>.tup [.str "fork",numD a n,numD b (n+a.sends),numD c (n+a.sends+b.sends)]
  | .send x as,n=>.tup [.str "send",.str x,.tup (numDs as (n+1)),.int n]
noncomputable def numDs:List Sy→Int→List D
  | [],_=>[]
  | a::as,n=>numD a n::numDs as (n+a.sends)
end
theorem zci:∀(as:List Sy) (n:Int),(numDs as n).length=as.length
  | [],_=>rfl
  | a::as,n=>by rw [numDs,List.length_cons,List.length_cons,zci as]
theorem za6 (a:List D×Int) (xs ys:List Sy):foldN a (xs++ys)=(foldN a xs).bind fun b=>foldN b ys:=by
  induction xs generalizing a with
  | nil=>rfl
  | cons x xs ih =>
    rw [List.cons_append,foldN,foldN]
    cases stepN a x with
    | none=>rfl
    | some b=>exact ih b
theorem zjx (a b:Sy):(Sy.pair a b).sends=a.sends+b.sends:=by rw [Sy.sends_parts];simp only [Sy.parts,Sy.sendss_cons];simp [Sy.sendss,Sy.pres]
theorem zjy (a:Sy):(Sy.left a).sends=a.sends:=by rw [Sy.sends_parts];simp only [Sy.parts,Sy.sendss_cons];simp [Sy.sendss,Sy.pres]
theorem zia (a:Sy):(Sy.right a).sends=a.sends:=by rw [Sy.sends_parts];simp only [Sy.parts,Sy.sendss_cons];simp [Sy.sendss,Sy.pres]
theorem zjz (a b c:Sy):(Sy.fork a b c).sends=a.sends+b.sends+c.sends:=by rw [Sy.sends_parts];simp only [Sy.parts,Sy.sendss_cons];simp [Sy.sendss,Sy.pres];omega
theorem zjw (x:Str) (as:List Sy):(Sy.send x as).sends=1+Sy.sendss as:=by rw [Sy.sends_parts];rfl
theorem zn8 (s:Sy):cntS s.pre=(s.sends:Nat):=by
  unfold cntS Sy.sends
  exact congrArg (fun n:Nat=>(n:Int)) (congrArg List.length (List.filter_congr fun a _=>by cases a<;>rfl))
mutual
theorem zca:∀(s:Sy) (st:List D) (l:Int),foldN (st,l) s.pre.reverse=some (numD s (l-s.sends)::st,l-s.sends)
  | .name x,st,l=>by simp [Sy.pre,foldN,stepN,numD,Sy.sends]
  | .bud,st,l=>by simp [Sy.pre,foldN,stepN,numD,Sy.sends]
  | .pair a b,st,l=>by
    have e1:l-(a.sends:Int)-b.sends+a.sends=l-b.sends:=by omega
    have e2:l-(b.sends:Int)-a.sends=l-((a.sends+b.sends:Nat):Int):=by omega
    rw [zjx,Sy.pre,List.reverse_cons,List.reverse_append,za6,za6,zca b]
    simp only [Option.bind_some]
    rw [zca a]
    simp only [Option.bind_some,foldN,stepN,numD]
    rw [e2]
    rw [show l-((a.sends+b.sends:Nat):Int)+a.sends=l-b.sends by omega]
  | .left a,st,l=>by
    rw [zjy,Sy.pre,List.reverse_cons,za6,zca a]
    simp only [Option.bind_some,foldN,stepN,numD]
  | .right a,st,l=>by
    rw [zia,Sy.pre,List.reverse_cons,za6,zca a]
    simp only [Option.bind_some,foldN,stepN,numD]
  | .fork a b c,st,l=>by
    have e2:l-(c.sends:Int)-b.sends-a.sends=l-((a.sends+b.sends+c.sends:Nat):Int):=by omega
    rw [zjz,Sy.pre,List.reverse_cons,List.reverse_append,List.reverse_append,za6,za6,za6,zca c]
    simp only [Option.bind_some]
    rw [zca b]
    simp only [Option.bind_some]
    rw [zca a]
    simp only [Option.bind_some,foldN,stepN,numD]
    rw [e2,show l-((a.sends+b.sends+c.sends:Nat):Int)+a.sends=l-c.sends-b.sends by omega,show l-(c.sends:Int)-b.sends+b.sends=l-c.sends by omega]
  | .send x as,st,l=>by
    rw [zjw,Sy.pre,List.reverse_cons,za6,zhp as]
    simp only [Option.bind_some,foldN,stepN,numD]
    have hl:as.length≤(numDs as (l-(Sy.sendss as:Nat))++st).length:=by rw [List.length_append,zci];omega
    rw [if_pos hl,show l-((1+Sy.sendss as:Nat):Int)+1=l-(Sy.sendss as:Nat) by omega,show l-((Sy.sendss as:Nat):Int)-1=l-((1+Sy.sendss as:Nat):Int) by omega]
    rw [show as.length=(numDs as (l-(Sy.sendss as:Nat))).length from (zci _ _).symm,List.take_left,List.drop_left]
theorem zhp:∀(as:List Sy) (st:List D) (l:Int),foldN (st,l) (Sy.pres as).reverse=some (numDs as (l-(Sy.sendss as:Nat))++st,l-(Sy.sendss as:Nat))
  | [],st,l=>by simp [Sy.pres,foldN,numDs,Sy.sendss]
  | a::as,st,l=>by
    rw [Sy.sendss_cons,Sy.pres,List.reverse_append,za6,zhp as]
    simp only [Option.bind_some]
    rw [zca a]
    simp only [numDs]
    rw [show l-((Sy.sendss as:Nat):Int)-a.sends=l-((a.sends+Sy.sendss as:Nat):Int) by omega,show l-((a.sends+Sy.sendss as:Nat):Int)+a.sends=l-(Sy.sendss as:Nat) by omega]
    rfl
end
structure Ext {α:Type} (mo:Nat) (be:List En) (r:Rs α) (P:α→Prop):Prop where
  pre:be <+: r.be
  le:r.be.length≤mo
  val:∀a b,r=.val a b→P a
theorem Ext.bind {α β:Type} {mo:Nat} {be:List En} {r:Rs α} {P:α→Prop} {P':β→Prop} {f:α→List En→Rs β} (h:Ext mo be r P) (hf:∀a b,P a→be <+: b→b.length≤mo→Ext mo b (f a b) P'):Ext mo be (r.bind f) P':=by
  cases r with
  | val a b =>
    have g:=hf a b (h.val a b rfl) h.pre h.le
    exact ⟨h.pre.trans g.pre,g.le,g.val⟩
  | grown b=>exact ⟨h.pre,h.le,fun _ _ e=>nomatch e⟩
  | going b=>exact ⟨h.pre,h.le,fun _ _ e=>nomatch e⟩
theorem Ext.one {α:Type} {mo:Nat} {be:List En} {a:α} {P:α→Prop} (hl:be.length≤mo) (h:P a):Ext mo be (.val a be) P:=⟨List.prefix_refl _,hl,fun _ _ e=>by cases e;exact h⟩
abbrev Sz (t:Tre):Prop:=t.size≤60
theorem zlb {l:Bool} {t:Tre} (h:Sz t):Sz (sideT l t):=by
  cases t with
  | bud=>exact h
  | pair a b =>
    have:a.size+b.size+1≤60:=by simp only [Sz,Tre.size] at h;omega
    cases l
    · show b.size≤60;omega
    · show a.size≤60;omega
def ExtC (mo:Nat) (call:Call):Prop:=∀p l x us be,be.length≤mo→(∀u∈us,Sz u)→Ext mo be (call p l x us be) Sz
section
variable {call:Call} {zs:List Str} {ts:List Tre} {p:Int} {mo:Nat}
theorem zny {t1 t2:Tre} {be:List En} (hl:be.length≤mo):Ext mo be (joinT t1 t2 be) Sz:=by
  unfold joinT
  by_cases c:(Tre.pair t1 t2).size≤60
  · rw [if_pos c];exact .one hl c
  · rw [if_neg c];exact ⟨List.prefix_refl _,hl,fun _ _ e=>nomatch e⟩
mutual
theorem zcj (hc:ExtC mo call) (ht:∀t∈ts,Sz t):∀(s:Sy) (n:Int) (be:List En),be.length≤mo→Ext mo be (ev call zs ts p s n be) Sz
  | .name x,n,be,hl=>by
    rw [ev]
    refine .one hl ?_
    cases e:ts[zs.idxOf x]? with
    | none=>exact Nat.zero_le _
    | some t=>exact ht t (List.mem_of_getElem? e)
  | .bud,n,be,hl=>by rw [ev];exact .one hl (Nat.zero_le _)
  | .pair a b,n,be,hl=>by
    rw [ev]
    exact (zcj hc ht a n be hl).bind fun t1 b1 _ _ l1=>(zcj hc ht b _ b1 l1).bind fun t2 b2 _ _ l2=>zny l2
  | .left a,n,be,hl=>by
    rw [ev]
    exact (zcj hc ht a n be hl).bind fun t b1 h _ l1=>.one l1 (zlb h)
  | .right a,n,be,hl=>by
    rw [ev]
    exact (zcj hc ht a n be hl).bind fun t b1 h _ l1=>.one l1 (zlb h)
  | .fork a b c,n,be,hl=>by
    rw [ev]
    refine (zcj hc ht a n be hl).bind fun t b1 h _ l1=>?_
    cases t with
    | bud=>exact zcj hc ht c _ b1 l1
    | pair u v=>exact zcj hc ht b _ b1 l1
  | .send x as,n,be,hl=>by
    rw [ev]
    exact (zin hc ht as _ be hl).bind fun us b1 h _ l1=>hc _ _ _ _ _ l1 h.1
theorem zin (hc:ExtC mo call) (ht:∀t∈ts,Sz t):∀(as:List Sy) (n:Int) (be:List En),be.length≤mo→Ext mo be (evs call zs ts p as n be) (fun us=>(∀u∈us,Sz u)∧us.length=as.length)
  | [],n,be,hl=>by rw [evs];exact .one hl ⟨fun _ h=>by simp at h,rfl⟩
  | a::as,n,be,hl=>by
    rw [evs]
    refine (zcj hc ht a n be hl).bind fun t b1 h _ l1=>(zin hc ht as _ b1 l1).bind fun us b2 h2 _ l2=>.one l2 ⟨fun u hu=>?_,by simp [h2.2]⟩
    rcases List.mem_cons.mp hu with rfl|hu
    · exact h
    · exact h2.1 u hu
end
end
theorem zfs (B:Str→Bk) (mo:Nat):∀n,ExtC mo (enter B mo n)
  | 0,p,l,x,us,be,hl,hs=>⟨List.prefix_refl _,hl,fun _ _ e=>nomatch e⟩
  | n+1,p,l,x,us,be,hl,hs=>by
    rw [enter]
    by_cases c:be.length<mo
    · rw [if_pos c]
      have g:=zcj (zs:=(B x).zs) (p:=be.length) (zfs B mo n) hs (B x).body (B x).num (be++[⟨p,l,x,us⟩]) (by rw [List.length_append];exact c)
      exact ⟨(List.prefix_append _ _).trans g.pre,g.le,g.val⟩
    · rw [if_neg c]
      exact ⟨List.prefix_refl _,hl,fun _ _ e=>nomatch e⟩
section
variable {c c':Call} {zs:List Str} {ts:List Tre} {p:Int} {mo mo' f:Nat}
theorem Ext.len {α:Type} {mo:Nat} {be:List En} {r:Rs α} {P:α→Prop} (h:Ext mo be r P) {a:α} {b:List En} (e:r=.val a b):be.length≤b.length∧b.length≤mo∧P a∧be <+: b:=by
  subst e
  exact ⟨h.pre.length_le,h.le,h.val _ _ rfl,h.pre⟩
end
noncomputable abbrev tk (b:Bool) (s:D) (p:Int):D:=.tup [.bl b,s,.int p]
section
variable (pa bo:List (Key×D)) (mo:Nat)
noncomputable abbrev stt (be:List En) (ps wa:List D):Rn:=⟨pa,bo,mo,be.map En.d,ps,wa,.non⟩
def Fi (r:Rn) (X:List En×D):Prop:=∃n pe wa,GoN n r ⟨pa,bo,mo,X.1.map En.d,pe,wa,X.2⟩
def After {α:Type} (g:α→List D) (o:Rs α) (ps wa:List D) (X:List En×D):Prop:=match o with
  | .val a be=>Fi pa bo mo (stt pa bo mo be ps (wa++g a)) X
  | .grown be=>X=(be,.tup [.str "grown",.int be.length])
  | .going be=>X=(be,.tup [.str "going",.int mo])
noncomputable abbrev g1 (t:Tre):List D:=[t.d]
noncomputable abbrev gs (ts:List Tre):List D:=ts.map Tre.d
end
section
variable {pa bo:List (Key×D)} {mo:Nat} {X:List En×D} {ps wa:List D}
theorem After.bind {α β:Type} {g:α→List D} {g':β→List D} {r:Rs α} {f:α→List En→Rs β} {ps' wa':List D} (h:After pa bo mo g' (r.bind f) ps wa X) (hf:∀a be,r=.val a be→After pa bo mo g' (f a be) ps wa X→Fi pa bo mo (stt pa bo mo be ps' (wa'++g a)) X):After pa bo mo g r ps' wa' X:=by
  cases r with
  | val a be=>exact hf a be rfl h
  | grown be=>exact h
  | going be=>exact h
structure Low (be:List En) (ps wa:List D):Prop where
  be:be.length≤900000
  ps:ps.length≤900000
  wa:wa.length≤900000
theorem Low.sm {be:List En} (h:Low be ps wa):Sm (stt pa bo mo be ps wa):=⟨by show (be.map En.d).length≤_;rw [List.length_map];exact h.be,h.ps,h.wa⟩
theorem zdo {be:List En} {s:D} {qs:List D} {p:Int} (hp:ps.length≤900000) (hq:PtN s qs) (hl:qs.length≤100) (h:Fi pa bo mo (stt pa bo mo be (ps++[tk true s p]++askd p qs) wa) X):Fi pa bo mo (stt pa bo mo be (ps++[tk false s p]) wa) X:=by
  obtain ⟨n,pe,w,g⟩:=h
  exact ⟨n+1,pe,w,.prep hp rfl rfl hq hl g⟩
theorem zd2 {be:List En} {s:D} {p:Int} {r1:Rn} (hl:Low be ps wa) (hf:Fin (stt pa bo mo be ps wa) s p r1) (h:Fi pa bo mo r1 X):Fi pa bo mo (stt pa bo mo be (ps++[tk true s p]) wa) X:=by
  obtain ⟨n,pe,w,g⟩:=h
  exact ⟨n+1,pe,w,.fnsh (ps:=ps) hl.sm rfl rfl hf g⟩
theorem zoi {be:List En} {ds:List D} (e:X=(be,.tup ds)):Fi pa bo mo ⟨pa,bo,mo,be.map En.d,ps,wa,.tup ds⟩ X:=by
  subst e
  exact ⟨0,ps,wa,.grown rfl⟩
theorem zcz (p:Int) (d:D) (ds:List D):askd p (d::ds)=askd p ds++[tk false d p]:=by
  unfold askd
  rw [List.reverse_cons,List.map_append]
  rfl
structure At (pa:List (Key×D)) (zs:List Str) (ts:List Tre) (p:Nat) (be:List En):Prop where
  ex:∃e,be[p]?=some e∧e.ts=ts∧valD pa (.inr e.nm)=some (.tup (zs.map D.str))
  len:ts.length=zs.length
  sz:∀t∈ts,Sz t
theorem pre_at {α:Type} {a b:List α} {i:Nat} {v:α} (h:a <+: b) (e:a[i]?=some v):b[i]?=some v:=by
  obtain ⟨c,rfl⟩:=h
  rw [List.getElem?_append_left (List.getElem?_eq_some_iff.mp e).1]
  exact e
theorem At.mono {zs:List Str} {ts:List Tre} {p:Nat} {be be':List En} (h:At pa zs ts p be) (g:be <+: be'):At pa zs ts p be':=by
  obtain ⟨e,h1,h2,h3⟩:=h.ex
  exact ⟨⟨e,pre_at g h1,h2,h3⟩,h.len,h.sz⟩
theorem zjg (x:Str):∀zs:List Str,x∉zs.take (zs.idxOf x)
  | []=>by simp
  | z::zs=>by
    rw [List.idxOf_cons]
    by_cases e:z=x
    · simp [e]
    · have e':(z==x)=false:=by simpa using e
      rw [e',cond_false,List.take_succ_cons]
      intro h
      rcases List.mem_cons.mp h with h|h
      · exact e h.symm
      · exact zjg x zs h
theorem zmd {x:Str}:∀{zs:List Str},x∈zs→zs[zs.idxOf x]?=some x
  | z::zs,h=>by
    rw [List.idxOf_cons]
    by_cases e:z=x
    · simp [e]
    · have e':(z==x)=false:=by simpa using e
      rw [e',cond_false,List.getElem?_cons_succ]
      rcases List.mem_cons.mp h with h|h
      · exact absurd h.symm e
      · exact zmd h
theorem zjb (s:Sy):1≤s.pre.length:=by rw [Sy.pre_parts];simp
theorem zic:∀as:List Sy,as.length≤(Sy.pres as).length
  | []=>Nat.zero_le _
  | a::as=>by
    have:=zic as
    have:=zjb a
    simp only [Sy.pres,List.length_append,List.length_cons]
    omega
def Rm (mo M:Nat) (z:Nat) (be:List En) (ps wa:List D):Prop:=ps.length+wa.length+z+(mo-be.length)*M≤800000
theorem Rm.less {M z z':Nat} {be be':List En} {ps' wa':List D} (h:Rm mo M z be ps wa) (hb:be <+: be') (hz:ps'.length+wa'.length+z'≤ps.length+wa.length+z):Rm mo M z' be' ps' wa':=by
  unfold Rm at h ⊢
  have:=hb.length_le
  have:(mo-be'.length)*M≤(mo-be.length)*M:=Nat.mul_le_mul_right _ (by omega)
  omega
theorem Rm.low {M z:Nat} {be:List En} (h:Rm mo M z be ps wa) (hb:be.length≤mo) (hm:mo≤1000):Low be ps wa:=by
  unfold Rm at h
  exact ⟨by omega,by omega,by omega⟩
structure SimC (ar:Str→Option Nat) (pa bo:List (Key×D)) (mo M f:Nat) (call:Call):Prop where
  e:ExtC mo call
  stop:∀p l x us (be:List En),mo≤be.length→call p l x us be=.going be
  new:∀p l x us (be:List En) ps wa X,be.length<mo→f≤be.length→ar x=some us.length→(∀u∈us,Sz u)→Rm mo M 0 be ps wa→After pa bo mo g1 (call p l x us be) ps wa X →
    ∃body,valD bo (.inr x)=some body∧Fi pa bo mo (stt pa bo mo (be++[⟨p,l,x,us⟩]) (ps++[tk false body be.length]) wa) X
variable {ar:Str→Option Nat} {M f:Nat} {call:Call} {zs:List Str} {ts:List Tre} {p:Nat}
theorem dlist2 (a b:D) (xs:List D):xs++[a]++[b]=xs++[a,b]:=by rw [List.append_assoc];rfl
mutual
theorem zdw (C:SimC ar pa bo mo M f call) (hmo:mo≤1000):∀(s:Sy) (n:Int) (be:List En) (ps wa:List D) (X:List En×D),s.wf ar zs→At pa zs ts p be→be.length≤mo→f≤be.length→Rm mo M (2*s.pre.length) be ps wa →
    After pa bo mo g1 (ev call zs ts p s n be) ps wa X→Fi pa bo mo (stt pa bo mo be (ps++[tk false (numD s n) p]) wa) X
  | .name x,n,be,ps,wa,X,hw,hA,hl,hf,hr,h=>by
    rw [ev] at h
    rw [numD]
    have low:=hr.low hl hmo
    obtain ⟨e,h1,h2,h3⟩:=hA.ex
    have hx:=zmd hw
    have hj:zs.idxOf x<ts.length:=by rw [hA.len];exact (List.getElem?_eq_some_iff.mp hx).1
    have hget:ts[zs.idxOf x]?=some ts[zs.idxOf x]:=List.getElem?_eq_getElem hj
    have h:Fi pa bo mo (stt pa bo mo be ps (wa++[((ts[zs.idxOf x]?).getD .bud).d])) X:=h
    rw [hget,Option.getD_some] at h
    refine zdo low.ps (.name x) (Nat.zero_le _) ?_
    rw [show askd p []=[] from rfl,List.append_nil]
    refine zd2 low (.name (nm:=e.nm) (pr:=e.pr) (nu:=e.nu) (ts:=ts.map Tre.d) (zs:=zs) (j:=zs.idxOf x) (d:=(ts[zs.idxOf x]).d) (zdg ?_) h3 hx (zjg x zs) ?_) h
    · show (be.map En.d)[p]?=_
      rw [List.getElem?_map,h1,←h2]
      rfl
    · rw [List.getElem?_map,hget]
      rfl
  | .bud,n,be,ps,wa,X,hw,hA,hl,hf,hr,h=>by
    rw [ev] at h
    rw [numD]
    have low:=hr.low hl hmo
    refine zdo low.ps .bud (Nat.zero_le _) ?_
    rw [show askd p []=[] from rfl,List.append_nil]
    exact zd2 low .bud h
  | .pair a b,n,be,ps,wa,X,hw,hA,hl,hf,hr,h=>by
    have xa:=zcj (zs:=zs) (p:=p) C.e hA.sz a n be hl
    have pa1:=zjb a
    have pb1:=zjb b
    have low:=hr.low hl hmo
    have ez:(Sy.pair a b).pre.length=1+a.pre.length+b.pre.length:=by simp only [Sy.pre,List.length_cons,List.length_append];omega
    rw [ez] at hr
    rw [ev] at h
    rw [numD]
    refine zdo low.ps (.pair _ _) (show 2≤100 by decide) ?_
    rw [zcz,zcz,show askd p []=[] from rfl,List.nil_append,←List.append_assoc]
    refine zdw C hmo a n be _ wa X hw.1 hA hl hf (hr.less (List.prefix_refl _) (by simp only [List.length_append,List.length_cons,List.length_nil];omega)) (h.bind fun t1 b1 e1 h1=>?_)
    have k1:=xa.len e1
    have xb:=zcj (zs:=zs) (p:=p) C.e hA.sz b (n+a.sends) b1 k1.2.1
    refine zdw C hmo b _ b1 _ _ X hw.2 (hA.mono k1.2.2.2) k1.2.1 (by omega) (hr.less k1.2.2.2 (by simp only [List.length_append,List.length_cons,List.length_nil];omega)) (h1.bind fun t2 b2 e2 h2=>?_)
    have k2:=xb.len e2
    have low2:Low b2 ps (wa++g1 t1++g1 t2):=(hr.less (ps':=ps) (wa':=wa++g1 t1++g1 t2) (z':=0) (k1.2.2.2.trans k2.2.2.2) (by simp only [List.length_append,List.length_cons,List.length_nil];omega)).low k2.2.1 hmo
    have s1:t1.size≤60:=k1.2.2.1
    have s2:t2.size≤60:=k2.2.2.1
    unfold joinT at h2
    by_cases q:(Tre.pair t1 t2).size≤60
    · rw [if_pos q] at h2
      exact zd2 low2 (.pair (xs:=wa) (dlist2 _ _ _) q) h2
    · rw [if_neg q] at h2
      have h2:X=(b2,.tup [.str "grown",.int b2.length]):=h2
      refine zd2 low2 (.grown (xs:=wa) (t1:=t1) (t2:=t2) (dlist2 _ _ _) (by omega) (by simp only [Tre.size];omega)) ?_
      refine zoi (be:=b2) ?_
      rw [h2]
      show _=(b2,D.tup [.str "grown",.int ((b2.map En.d).length:Nat)])
      rw [List.length_map]
  | .left a,n,be,ps,wa,X,hw,hA,hl,hf,hr,h=>by
    have xa:=zcj (zs:=zs) (p:=p) C.e hA.sz a n be hl
    have low:=hr.low hl hmo
    have ez:(Sy.left a).pre.length=1+a.pre.length:=by simp only [Sy.pre,List.length_cons];omega
    rw [ez] at hr
    rw [ev] at h
    rw [numD]
    refine zdo low.ps (.left _) (show 1≤100 by decide) ?_
    rw [zcz,show askd p []=[] from rfl,List.nil_append]
    refine zdw C hmo a n be _ wa X hw hA hl hf (hr.less (List.prefix_refl _) (by simp only [List.length_append,List.length_cons,List.length_nil];omega)) (h.bind fun t1 b1 e1 h1=>?_)
    have k1:=xa.len e1
    have low2:Low b1 ps (wa++g1 t1):=(hr.less (ps':=ps) (wa':=wa++g1 t1) (z':=0) k1.2.2.2 (by simp only [List.length_append,List.length_cons,List.length_nil];omega)).low k1.2.1 hmo
    exact zd2 low2 (.left (xs:=wa) rfl) h1
  | .right a,n,be,ps,wa,X,hw,hA,hl,hf,hr,h=>by
    have xa:=zcj (zs:=zs) (p:=p) C.e hA.sz a n be hl
    have low:=hr.low hl hmo
    have ez:(Sy.right a).pre.length=1+a.pre.length:=by simp only [Sy.pre,List.length_cons];omega
    rw [ez] at hr
    rw [ev] at h
    rw [numD]
    refine zdo low.ps (.right _) (show 1≤100 by decide) ?_
    rw [zcz,show askd p []=[] from rfl,List.nil_append]
    refine zdw C hmo a n be _ wa X hw hA hl hf (hr.less (List.prefix_refl _) (by simp only [List.length_append,List.length_cons,List.length_nil];omega)) (h.bind fun t1 b1 e1 h1=>?_)
    have k1:=xa.len e1
    have low2:Low b1 ps (wa++g1 t1):=(hr.less (ps':=ps) (wa':=wa++g1 t1) (z':=0) k1.2.2.2 (by simp only [List.length_append,List.length_cons,List.length_nil];omega)).low k1.2.1 hmo
    exact zd2 low2 (.right (xs:=wa) rfl) h1
  | .fork a b c,n,be,ps,wa,X,hw,hA,hl,hf,hr,h=>by
    have xa:=zcj (zs:=zs) (p:=p) C.e hA.sz a n be hl
    have low:=hr.low hl hmo
    have ez:(Sy.fork a b c).pre.length=1+a.pre.length+b.pre.length+c.pre.length:=by simp only [Sy.pre,List.length_cons,List.length_append];omega
    rw [ez] at hr
    rw [ev] at h
    rw [numD]
    refine zdo low.ps (.fork _ _ _) (show 1≤100 by decide) ?_
    rw [zcz,show askd p []=[] from rfl,List.nil_append]
    refine zdw C hmo a n be _ wa X hw.1 hA hl hf (hr.less (List.prefix_refl _) (by simp only [List.length_append,List.length_cons,List.length_nil];omega)) (h.bind fun t1 b1 e1 h1=>?_)
    have k1:=xa.len e1
    have low2:Low b1 ps (wa++g1 t1):=(hr.less (ps':=ps) (wa':=wa++g1 t1) (z':=0) k1.2.2.2 (by simp only [List.length_append,List.length_cons,List.length_nil];omega)).low k1.2.1 hmo
    refine zd2 low2 (.fork (xs:=wa) (t:=t1) rfl) ?_
    cases t1 with
    | bud=>exact zdw C hmo c _ b1 ps wa X hw.2.2 (hA.mono k1.2.2.2) k1.2.1 (by omega) (hr.less k1.2.2.2 (by omega)) h1
    | pair u v=>exact zdw C hmo b _ b1 ps wa X hw.2.1 (hA.mono k1.2.2.2) k1.2.1 (by omega) (hr.less k1.2.2.2 (by omega)) h1
  | .send x as,n,be,ps,wa,X,hw,hA,hl,hf,hr,h=>by
    have xa:=zin (zs:=zs) (p:=p) C.e hA.sz as (n+1) be hl
    have low:=hr.low hl hmo
    have ez:(Sy.send x as).pre.length=1+(Sy.pres as).length:=by simp only [Sy.pre,List.length_cons];omega
    have ga:=zic as
    rw [ez] at hr
    rw [ev] at h
    rw [numD]
    obtain ⟨w1,_,w3,w4⟩:=hw
    refine zdo low.ps (.send x _ n) (by rw [zci];omega) ?_
    refine zla C hmo as (n+1) be _ wa X w4 hA hl hf (hr.less (List.prefix_refl _) (by simp only [List.length_append,List.length_cons,List.length_nil];omega)) (h.bind fun us b1 e1 h1=>?_)
    have k1:=xa.len e1
    have hlen:us.length=as.length:=k1.2.2.1.2
    have room:Rm mo M 0 b1 ps wa:=hr.less k1.2.2.2 (by omega)
    have low2:Low b1 ps (wa++gs us):=(hr.less (ps':=ps) (wa':=wa++gs us) (z':=0) k1.2.2.2 (by simp only [List.length_append,List.length_map];omega)).low k1.2.1 hmo
    by_cases q:b1.length<mo
    · obtain ⟨body,hb,g⟩:=C.new (.int p) (.int n) x us b1 ps wa X q (by omega) (by rw [hlen];exact w1) k1.2.2.1.1 room h1
      have hb1:(((b1.map En.d).length:Nat):Int)<(mo:Int):=by rw [List.length_map];omega
      refine zd2 low2 (.send (xs:=wa) (ts:=us.map Tre.d) rfl (by rw [List.length_map,zci,hlen]) (.new (body:=body) hb1 hb)) ?_
      have e2:stt pa bo mo (b1++[⟨.int p,.int n,x,us⟩]) (ps++[tk false body b1.length]) wa=⟨pa,bo,mo,b1.map En.d++[.tup [.int p,.int n,.str x,.tup (us.map Tre.d)]],ps++[.tup [.bl false,body,.int (b1.map En.d).length]],wa,.non⟩:=by
        rw [List.length_map]
        show (⟨_,_,_,(b1++[_]).map En.d,_,_,_⟩:Rn)=_
        rw [List.map_append]
        rfl
      rw [e2] at g
      exact g
    · rw [C.stop _ _ _ _ _ (by omega)] at h1
      have h1:X=(b1,.tup [.str "going",.int mo]):=h1
      refine zd2 low2 (.send (xs:=wa) (ts:=us.map Tre.d) rfl (by rw [List.length_map,zci,hlen]) (.stop (by show (mo:Int)≤((b1.map En.d).length:Nat);rw [List.length_map];omega))) ?_
      exact zoi h1
theorem zla (C:SimC ar pa bo mo M f call) (hmo:mo≤1000):∀(as:List Sy) (n:Int) (be:List En) (ps wa:List D) (X:List En×D),Sy.wfs ar zs as→At pa zs ts p be→be.length≤mo→f≤be.length→Rm mo M (2*(Sy.pres as).length) be ps wa →
    After pa bo mo gs (evs call zs ts p as n be) ps wa X→Fi pa bo mo (stt pa bo mo be (ps++askd p (numDs as n)) wa) X
  | [],n,be,ps,wa,X,hw,hA,hl,hf,hr,h=>by
    rw [evs] at h
    rw [numDs,show askd p []=[] from rfl,List.append_nil]
    have h:Fi pa bo mo (stt pa bo mo be ps (wa++[])) X:=h
    rw [List.append_nil] at h
    exact h
  | a::as,n,be,ps,wa,X,hw,hA,hl,hf,hr,h=>by
    have xa:=zcj (zs:=zs) (p:=p) C.e hA.sz a n be hl
    have ez:(Sy.pres (a::as)).length=a.pre.length+(Sy.pres as).length:=by simp only [Sy.pres,List.length_append]
    have pa1:=zjb a
    have ga:=zic as
    rw [ez] at hr
    rw [evs] at h
    rw [numDs,zcz,←List.append_assoc]
    have la:(askd p (numDs as (n+a.sends))).length=as.length:=by unfold askd;rw [List.length_map,List.length_reverse,zci]
    refine zdw C hmo a n be _ wa X hw.1 hA hl hf (hr.less (List.prefix_refl _) (by rw [List.length_append,la];omega)) (h.bind fun t1 b1 e1 h1=>?_)
    have k1:=xa.len e1
    refine zla C hmo as _ b1 ps _ X hw.2 (hA.mono k1.2.2.2) k1.2.1 (by omega) (hr.less k1.2.2.2 (by simp only [List.length_append,List.length_cons,List.length_nil];omega)) (h1.bind fun us b2 e2 h2=>?_)
    have h2:Fi pa bo mo (stt pa bo mo b2 ps (wa++(t1::us).map Tre.d)) X:=h2
    rw [List.append_assoc]
    exact h2
end
structure Bok (ar:Str→Option Nat) (pa bo:List (Key×D)) (M:Nat) (B:Str→Bk):Prop where
  len:∀x k,ar x=some k→(B x).zs.length=k
  pa:∀x k,ar x=some k→valD pa (.inr x)=some (.tup ((B x).zs.map D.str))
  bo:∀x k,ar x=some k→valD bo (.inr x)=some (numD (B x).body (B x).num)
  wf:∀x k,ar x=some k→(B x).body.wf ar (B x).zs
  sz:∀x k,ar x=some k→2*(B x).body.pre.length≤M
theorem zhd {B:Str→Bk} (H:Bok ar pa bo M B) (hmo:mo≤1000):∀n f,mo≤f+n→SimC ar pa bo mo M f (enter B mo n)
  | 0,f,hf=>⟨zfs B mo 0,fun _ _ _ _ _ _=>rfl,fun p l x us be ps wa X h1 h2=>by omega⟩
  | n+1,f,hf=>by
    refine ⟨zfs B mo (n+1),fun p l x us be h=>by rw [enter,if_neg (by omega)],fun p l x us be ps wa X h1 h2 h3 h4 h5 h6=>⟨_,H.bo x _ h3,?_⟩⟩
    rw [enter,if_pos h1] at h6
    have le1:(be++[(⟨p,l,x,us⟩:En)]).length=be.length+1:=by rw [List.length_append];rfl
    refine zdw (zs:=(B x).zs) (ts:=us) (zhd H hmo n (f+1) (by omega)) hmo (B x).body (B x).num _ ps wa X (H.wf x _ h3) ⟨⟨⟨p,l,x,us⟩,by simp,rfl,H.pa x _ h3⟩,(H.len x _ h3).symm,h4⟩ (by omega) (by omega) ?_ h6
    have:=H.sz x _ h3
    unfold Rm at h5 ⊢
    rw [le1]
    have e:(mo-be.length)*M=(mo-(be.length+1))*M+M:=by
      rw [←Nat.succ_mul]
      congr 1
      omega
    omega
end
noncomputable def bks:Int→List Er→List (Str×Bk)
  | _,[]=>[]
  | n,e::r=>(e.name,⟨e.ps,e.body,n⟩)::bks (n+e.body.sends) r
noncomputable def bkOf (bs:List (Str×Bk)) (x:Str):Bk:=(bs.lookup x).getD ⟨[],.bud,0⟩
noncomputable abbrev tabB (prog:List Er):Str→Bk:=bkOf (bks 0 prog)
theorem zd8:∀(n:Int) (prog:List Er),(bks n prog).map (·.1)=prog.map Er.name
  | _,[]=>rfl
  | n,e::r=>by rw [bks,List.map_cons,List.map_cons,zd8]
theorem zhq:∀(prog:List Er) (kvs:List (Key×D)) (n:Int),foldB kvs n prog=some ((bks n prog).foldl (fun acc b=>putD acc (.inr b.1) (numD b.2.body b.2.num)) kvs)
  | [],kvs,n=>rfl
  | e::r,kvs,n=>by
    have h:=zca e.body [] (n+e.body.sends)
    rw [show n+(e.body.sends:Int)-e.body.sends=n by omega] at h
    rw [foldB,zn8,h]
    show foldB (putD kvs (.inr e.name) (numD e.body n)) _ r=_
    rw [zhq r]
    rfl
theorem zg0 {α:Type} (f:α→D):∀(bs:List (Str×α)) (acc:List (Key×D)),(bs.map (·.1)).Nodup→(∀b∈bs,(Sum.inr b.1:Key)∉acc.map (·.1))→bs.foldl (fun acc b=>putD acc (.inr b.1) (f b.2)) acc=acc++bs.map fun b=>((Sum.inr b.1:Key),f b.2)
  | [],acc,_,_=>by simp
  | b::bs,acc,nd,h=>by
    rw [List.map_cons,List.nodup_cons] at nd
    rw [List.foldl_cons,zm9 (h b List.mem_cons_self),zg0 f bs _ nd.2 fun c hc=>?_]
    · rw [List.append_assoc];rfl
    · rw [List.map_append,List.mem_append]
      rintro (z|z)
      · exact h c (List.mem_cons_of_mem _ hc) z
      · simp only [List.map_cons,List.map_nil,List.mem_singleton,Sum.inr.injEq] at z
        exact nd.1 (z▸List.mem_map_of_mem hc)
theorem zh4 {α:Type} (f:α→D) {x:Str}:∀{bs:List (Str×α)} {a:α},bs.lookup x=some a→valD (bs.map fun b=>((Sum.inr b.1:Key),f b.2)) (.inr x)=some (f a)
  | (y,b)::bs,a,h=>by
    rw [List.map_cons,zg7]
    by_cases e:x=y
    · subst e
      rw [List.lookup_cons_self] at h
      cases h
      rw [if_pos rfl]
    · rw [List.lookup_cons,show (x==y)=false by simpa using e] at h
      rw [if_neg (by simpa using fun z=>e z.symm)]
      exact zh4 f h
theorem zof {α:Type} {x:Str}:∀{bs:List (Str×α)} {a:α},bs.lookup x=some a→(x,a)∈bs
  | (y,b)::bs,a,h=>by
    by_cases e:x=y
    · subst e
      rw [List.lookup_cons_self] at h
      cases h
      exact List.mem_cons_self
    · rw [List.lookup_cons,show (x==y)=false by simpa using e] at h
      exact List.mem_cons_of_mem _ (zof h)
theorem zg4:∀{xs:List Str} {ns:List Nat} {x:Str} {k:Nat},arOf xs ns x=some k→x∈xs
  | [],_,_,_,h=>by cases h
  | _::_,[],_,_,h=>by cases h
  | y::xs,m::ns,x,k,h=>by
    rw [arOf] at h
    by_cases e:x=y
    · subst e;exact List.mem_cons_self
    · rw [if_neg e] at h
      exact List.mem_cons_of_mem _ (zg4 h)
structure Rp (prog:List Er) (M:Nat):Prop where
  len:prog.length≤100
  nd:(prog.map Er.name).Nodup
  wf:∀e∈prog,e.body.wf (arP prog) e.ps
  sz:∀e∈prog,2*e.body.pre.length≤M
  m:M≤200000
theorem zn9 {x:Str} {prog:List Er} (n:Int) (hx:x∈prog.map Er.name):∃b,(bks n prog).lookup x=some b:=by
  cases e:(bks n prog).lookup x with
  | some b=>exact ⟨b,rfl⟩
  | none =>
    rw [List.lookup_eq_none_iff] at e
    rw [←zd8 n] at hx
    obtain ⟨p,hp,rfl⟩:=List.mem_map.mp hx
    exact absurd (e p hp) (by simp)
theorem zoq:∀{prog:List Er} {n:Int} {p:Str×Bk},p∈bks n prog→∃e∈prog,e.name=p.1∧e.ps=p.2.zs∧e.body=p.2.body
  | e::r,n,p,h=>by
    rw [bks] at h
    rcases List.mem_cons.mp h with rfl|h
    · exact ⟨e,List.mem_cons_self,rfl,rfl,rfl⟩
    · obtain ⟨e',he,g⟩:=zoq h
      exact ⟨e',List.mem_cons_of_mem _ he,g⟩
theorem zm0 {prog:List Er} (nd:(prog.map Er.name).Nodup) {e:Er} (he:e∈prog):arP prog e.name=some e.ps.length:=by
  obtain ⟨i,hi,rfl⟩:=List.getElem_of_mem he
  exact ziz nd (i:=i) (by rw [List.getElem?_map,List.getElem?_eq_getElem hi];rfl) (by rw [List.getElem?_map,List.getElem?_eq_getElem hi];rfl)
theorem zmz:∀(n:Int) (prog:List Er),((bks n prog).map fun b=>((Sum.inr b.1:Key),D.tup (b.2.zs.map D.str)))=prog.map fun e=>((Sum.inr e.name:Key),D.tup (e.ps.map D.str))
  | _,[]=>rfl
  | n,e::r=>by rw [bks,List.map_cons,List.map_cons,zmz]
noncomputable def bosD (prog:List Er):List (Key×D):=(bks 0 prog).map fun b=>((Sum.inr b.1:Key),numD b.2.body b.2.num)
theorem Rp.bo {prog:List Er} {M:Nat} (h:Rp prog M):foldB [] 0 prog=some (bosD prog):=by
  rw [zhq,zg0 (fun b:Bk=>numD b.body b.num) _ _ (by rw [zd8];exact h.nd) (fun _ _=>by simp)]
  rfl
theorem Rp.pa {prog:List Er} {M:Nat} (h:Rp prog M):parD prog=prog.map fun e=>((Sum.inr e.name:Key),D.tup (e.ps.map D.str)):=by
  unfold parD
  rw [←zmz 0 prog,List.foldl_map]
  exact (zg0 (fun b:Bk=>D.tup (b.zs.map D.str)) _ [] (by rw [zd8];exact h.nd) (fun _ _=>by simp)).trans (List.nil_append _)
theorem Rp.bok {prog:List Er} {M:Nat} (h:Rp prog M):Bok (arP prog) (parD prog) (bosD prog) M (tabB prog):=by
  have key:∀x k,arP prog x=some k→∃b,(bks 0 prog).lookup x=some b∧tabB prog x=b∧∃e∈prog,e.name=x∧e.ps=b.zs∧e.body=b.body:=by
    intro x k hx
    obtain ⟨b,hb⟩:=zn9 0 (zg4 hx)
    obtain ⟨e,he,g⟩:=zoq (zof hb)
    exact ⟨b,hb,by show ((bks 0 prog).lookup x).getD _=b;rw [hb];rfl,e,he,g⟩
  refine ⟨?_,?_,?_,?_,?_⟩<;>intro x k hx<;>obtain ⟨b,hb,e1,e,he,g1,g2,g3⟩:=key x k hx<;>rw [e1]
  · rw [←g2]
    rw [←g1,zm0 h.nd he] at hx
    exact Option.some.inj hx
  · rw [h.pa,←zmz 0 prog]
    exact zh4 (fun b:Bk=>D.tup (b.zs.map D.str)) hb
  · exact zh4 (fun b:Bk=>numD b.body b.num) hb
  · rw [←g2,←g3]
    exact h.wf e he
  · rw [←g3]
    exact h.sz e he
noncomputable def runR (prog:List Er) (x:Str) (ts:List Tre) (mo:Nat):Rs Tre:=enter (tabB prog) mo mo .non .non x ts []
noncomputable def endD (mo:Nat):Rs Tre→D
  | .val t be=>.tup [.str "done",t.d,.int be.length]
  | .grown be=>.tup [.str "grown",.int be.length]
  | .going _=>.tup [.str "going",.int mo]
structure Rok (prog:List Er) (x:Str) (ts:List Tre) (mo:Nat):Prop where
  ex:∃M,Rp prog M∧mo*M≤700000
  mo:mo≤1000
  ar:arP prog x=some ts.length
  sz:∀t∈ts,Sz t
theorem Rok.runs {prog:List Er} {x:Str} {ts:List Tre} {mo:Nat} (h:Rok prog x ts mo):∃r',Runs prog x (ts.map Tre.d) mo r'∧r'.en=endD mo (runR prog x ts mo)∧r'.be=(runR prog x ts mo).be.map En.d:=by
  obtain ⟨M,R,hM⟩:=h.ex
  have H:=R.bok
  have hz:=H.len x _ h.ar
  have start:∀r1 n r',Beg ⟨parD prog,bosD prog,mo,[],[],[],.non⟩ .non .non x (.tup (ts.map Tre.d)) r1→GoN n r1 r'→Runs prog x (ts.map Tre.d) mo r':=fun r1 n r' h1 h2 =>
    ⟨R.len,fun e he=>by have:=R.sz e he;have:=R.m;omega,_,_,r1,n,H.pa x _ h.ar,by rw [hz,List.length_map],R.bo,h1,h2⟩
  by_cases q:0<mo
  · have S:=zhd (mo:=mo) H h.mo mo 0 (by omega)
    have hA:After (parD prog) (bosD prog) mo g1 (runR prog x ts mo) [] [] ((runR prog x ts mo).be,endD mo (runR prog x ts mo)):=by
      cases runR prog x ts mo with
      | val t be =>
        refine ⟨0,[],[],?_⟩
        have g:GoN 0 (stt (parD prog) (bosD prog) mo be [] [t.d]) _:=.fin (xs:=[]) (v:=t.d) rfl rfl rfl
        have e:(((be.map En.d).length:Nat):Int)=(be.length:Nat):=by rw [List.length_map]
        have g:GoN 0 (stt (parD prog) (bosD prog) mo be [] [t.d]) ⟨parD prog,bosD prog,mo,be.map En.d,[],[],.tup [.str "done",t.d,.int ((be.map En.d).length:Nat)]⟩:=g
        rw [e] at g
        exact g
      | grown be=>exact rfl
      | going be=>exact rfl
    obtain ⟨body,hb,n,pe,w,g⟩:=S.new .non .non x ts [] [] [] _ q (Nat.zero_le _) h.ar h.sz (by unfold Rm;simp only [List.length_nil,Nat.sub_zero];omega) hA
    exact ⟨_,start _ n _ (.new (body:=body) (show ((0:Nat):Int)<mo by omega) hb) g,rfl,rfl⟩
  · obtain rfl:mo=0:=by omega
    exact ⟨_,start _ 0 _ (.stop (show ((0:Nat):Int)≤((0:Nat):Int) by omega)) (.grown rfl),rfl,rfl⟩
noncomputable def told14 (prog:List Er) (x:Str) (n:Nat):Str:=match arP prog x with
  | none=>"such"
  | some k=>if n=k then "answered" else "count"
structure Ask (prog:List Er) (x:Str) (ts:List Tre) (mo:Nat):Prop where
  ex:∃M,Rp prog M∧mo*M≤700000
  mo:mo≤1000
  ps:∀e∈prog,e.ps.length≤300
  x:x.length≤100
  len:ts.length≤300
  sz:∀t∈ts,Sz t
theorem zh3:∀{xs:List Str} {ns:List Nat} {x:Str},xs.length=ns.length→arOf xs ns x=none→x∉xs
  | [],_,_,_,_=>by simp
  | _::_,[],_,h,_=>by simp at h
  | y::xs,m::ns,x,h,e=>by
    rw [arOf] at e
    by_cases c:x=y
    · rw [if_pos c] at e;cases e
    · rw [if_neg c] at e
      have:=zh3 (by simpa using h) e
      simp [c,this]
theorem zm5 {kvs:List (Key×D)} {k:Key} (h:k∉kvs.map (·.1)):valD kvs k=none:=by
  induction kvs with
  | nil=>rfl
  | cons p r ih =>
    rw [List.map_cons,List.mem_cons,not_or] at h
    rw [zg7,if_neg (fun e=>h.1 e.symm),ih h.2]
theorem Ask.cases {prog:List Er} {x:Str} {ts:List Tre} {mo:Nat} (h:Ask prog x ts mo):(told14 prog x ts.length="such"∧valD (parD prog) (.inr x)=none)∨(told14 prog x ts.length="count"∧∃zs:List Str,valD (parD prog) (.inr x)=some (.tup (zs.map D.str))∧(ts.map Tre.d).length≠zs.length∧zs.length≤300)∨(told14 prog x ts.length="answered"∧∃r',Runs prog x (ts.map Tre.d) mo r'):=by
  obtain ⟨M,R,hM⟩:=h.ex
  unfold told14
  cases e:arP prog x with
  | none =>
    refine .inl ⟨rfl,?_⟩
    rw [R.pa]
    refine zm5 ?_
    rw [List.map_map]
    have hx:=zh3 (by rw [List.length_map,List.length_map]) e
    intro hc
    obtain ⟨u,hu,eu⟩:=List.mem_map.mp hc
    exact hx (List.mem_map.mpr ⟨u,hu,by simpa using eu⟩)
  | some k =>
    have B:=R.bok
    by_cases c:ts.length=k
    · refine .inr (.inr ⟨if_pos c,?_⟩)
      obtain ⟨r',h1,_⟩:=Rok.runs (prog:=prog) (x:=x) (ts:=ts) (mo:=mo) ⟨⟨M,R,hM⟩,h.mo,by rw [e,c],h.sz⟩
      exact ⟨r',h1⟩
    · refine .inr (.inl ⟨if_neg c,(tabB prog x).zs,B.pa x k e,by rw [List.length_map,B.len x k e];exact c,?_⟩)
      rw [B.len x k e]
      have hin:=zg4 e
      obtain ⟨u,hu,rfl⟩:=List.mem_map.mp hin
      rw [zm0 R.nd hu] at e
      cases e
      exact h.ps u hu
inductive zqb  (ds:List D) (S:Hp3) (q:D→Prop):Prop where
  | mk (way:Int) (pr tr:Addr) (prog:List Er) (x:Str) (ts:List Tre) (mo:Nat) (_:ds=[.int way,.ref pr,.str x,.ref tr,.int mo]) (_:S pr=some (.lst (prog.map Er.d))) (_:S tr=some (.lst (ts.map Tre.d))) (_:Ask prog x ts mo) (_:q (.str (told14 prog x ts.length)))
def zi7 :Sp3:=rdV zqb
theorem znv {k:Nat} (h:Has K mg "_law_asked" zed ["way","program","name","trees","most"]) (G:Gs K mg) (R:Rfs K mg ES adr) (C_run:Cal3 P w K mg base k "run" ["program","name","trees","most"] (zk5 adr)) (C_entries:Cal3 P w K mg base k "entries" ["program","name","trees","most"] (ze8 adr)):Cal3 P w K mg base (k+1) "_law_asked" ["way","program","name","trees","most"] zi7:=by
  refine h.rdV zc1 (by rintro ds S q ⟨_,_,_,_,_,_,_,e,_⟩;rw [e];rfl) fun f cdv A outer s0 H E ds S q hr hA=>?_
  obtain ⟨way,pr,tr,prog,x,ts,mo,rfl,hS,hT,hK,hq⟩:=hA
  have hl:prog.length≤100:=by obtain ⟨M,Rr,_⟩:=hK.ex;exact Rr.len
  have htl:(ts.map Tre.d).length≤300:=by rw [List.length_map];exact hK.len
  refine ⟨_,(zac (zai (i:=5) zc1.nd rfl (Or.inl rfl) zas)
 (zac (s_try rfl rfl (fun _ _ _=>(zac (s_if (za1 zbp zb4 (e_v 0) zae (nomark _)) (zah (zaz (zaj C_run hr rfl (zaa (e_v 1) (zaa (e_v 2) (zaa (e_v 3) (zaa (e_v 4) zad))))))) (zah (zaz (zaj C_entries hr rfl (zaa (e_v 1) (zaa (e_v 2) (zaa (e_v 3) (zaa (e_v 4) zad))))))))
 (zah (zai (i:=5) zc1.nd rfl (Or.inl rfl) zas)))) (h_as (i:=6) (R.bound .err (by decide)) (R.base (i:=.err) (by decide)) rfl zc1.nd rfl rfl (fun _=>(zac (zai (i:=5) zc1.nd rfl (Or.inl rfl) (zdr (zjs (za3 zd7 (zhs R) rfl G.isinstance boot_isinstance (zaa (e_v 6) (zaa (zbr (zaa (zc6 (R.bound .apart (by decide)) rfl) (zaa (zc6 (R.bound .text (by decide)) rfl) (zaa (zc6 (R.bound .way (by decide)) rfl) (zaa (zc6 (R.bound .many (by decide)) rfl) (zaa (zc6 (R.bound .twice (by decide)) rfl) zad)))))) zad)))) zas zas))
 (zac (zai (i:=5) zc1.nd rfl (Or.inl rfl) (zdr (PW3.pt (w_and (za1 zbp zcm (e_v 5) zas (nomark _)) (w_and (zjs (za3 zd7 (zhs R) rfl G.isinstance boot_isinstance (zaa (e_v 6) (zaa (zc6 (R.bound .such (by decide)) rfl) zad)))) (ze2 (t_not (zjs (za3 zd7 (zhs R) rfl G.isinstance boot_isinstance (zaa (e_v 6) (zaa (zc6 (R.bound .count (by decide)) rfl) zad))))))))) zas (e_v 5)))
 (zah (zai (i:=5) zc1.nd rfl (Or.inl rfl) (zdr (PW3.pt (w_and (za1 zbp zcm (e_v 5) zas (nomark _)) (w_and (zjs (za3 zd7 (zhs R) rfl G.isinstance boot_isinstance (zaa (e_v 6) (zaa (zc6 (R.bound .count (by decide)) rfl) zad)))) (ze2 (t_not (zjs (za3 zd7 (zhs R) rfl G.isinstance boot_isinstance (zaa (e_v 6) (zaa (zc6 (R.bound .such (by decide)) rfl) zad))))))))) zas (e_v 5))))))) h_nil))
 (zah (zbn (e_v 5))))),?_⟩
  nofun
  by_cases cw:way=0
  · nofun
    refine ⟨pr,tr,prog,x,_,mo,rfl,hS,hT,hl,hK.x,htl,?_⟩
    rcases hK.cases with ⟨e1,h1⟩|⟨e1,zs,h1,h2,h3⟩|⟨e1,r',hR⟩<;>rw [e1] at hq
    · refine .inl ⟨h1,fun a=>?_⟩
      refine j_hit (R.two .such (by decide) .err (by decide)) fun ha=>?_
      nofun
      refine j_isET [.apart,.text,.way,.many,.twice] (i:=.such) zab (by decide) (by decide) ?_
      nofun
      refine j_isE (i:=.such) (j:=.such) zab (by decide) (by decide) ?_
      nofun
      refine j_isE (i:=.such) (j:=.count) zab (by decide) (by decide) ?_
      nofun
      exact ⟨(Sub.refl S).up ha,hq⟩
    · refine .inr (.inl ⟨zs,h1,h2,h3,fun a=>?_⟩)
      refine j_hit (R.two .count (by decide) .err (by decide)) fun ha=>?_
      nofun
      refine j_isET [.apart,.text,.way,.many,.twice] (i:=.count) zab (by decide) (by decide) ?_
      nofun
      refine j_isE (i:=.count) (j:=.such) zab (by decide) (by decide) ?_
      nofun
      refine j_isE (i:=.count) (j:=.count) zab (by decide) (by decide) ?_
      nofun
      refine j_isE (i:=.count) (j:=.such) zab (by decide) (by decide) ?_
      nofun
      exact ⟨(Sub.refl S).up ha,hq⟩
    · refine .inr (.inr ⟨r',hR,?_⟩)
      nofun
      exact ⟨Sub.refl _,hq⟩
  · nofun
    refine ⟨pr,tr,prog,x,_,mo,rfl,hS,hT,hl,hK.x,htl,?_⟩
    rcases hK.cases with ⟨e1,h1⟩|⟨e1,zs,h1,h2,h3⟩|⟨e1,r',hR⟩<;>rw [e1] at hq
    · refine .inl ⟨h1,fun a=>?_⟩
      refine j_hit (R.two .such (by decide) .err (by decide)) fun ha=>?_
      nofun
      refine j_isET [.apart,.text,.way,.many,.twice] (i:=.such) zab (by decide) (by decide) ?_
      nofun
      refine j_isE (i:=.such) (j:=.such) zab (by decide) (by decide) ?_
      nofun
      refine j_isE (i:=.such) (j:=.count) zab (by decide) (by decide) ?_
      nofun
      exact ⟨(Sub.refl S).up ha,hq⟩
    · refine .inr (.inl ⟨zs,h1,h2,h3,fun a=>?_⟩)
      refine j_hit (R.two .count (by decide) .err (by decide)) fun ha=>?_
      nofun
      refine j_isET [.apart,.text,.way,.many,.twice] (i:=.count) zab (by decide) (by decide) ?_
      nofun
      refine j_isE (i:=.count) (j:=.such) zab (by decide) (by decide) ?_
      nofun
      refine j_isE (i:=.count) (j:=.count) zab (by decide) (by decide) ?_
      nofun
      refine j_isE (i:=.count) (j:=.such) zab (by decide) (by decide) ?_
      nofun
      exact ⟨(Sub.refl S).up ha,hq⟩
    · refine .inr (.inr ⟨r',hR,?_⟩)
      intro p hp
      nofun
      exact ⟨(Sub.refl S).up hp,hq⟩
theorem zfp {tc:TT3} {t u:TS3} {D3:Ends3} {σ:St3} {S:Hp3} (h:ifs3 tc t u D3 σ S):ifm3 tc t u D3 σ S:=h
theorem zkh {x:Str} (h:NameOk x):x.length≤50:=by
  obtain ⟨cs,rfl,_,h8,_⟩:=h
  show (textOf cs).cps.size≤50
  simp only [textOf,List.size_toArray]
  omega
theorem ok_law {f:Addr} {fd:FuncData} (F:Fun K "law" "law" zfz f fd) (G:Gs K mg) (C_cell_at:Cal3 P w K mg base 89 "_law_cell_at" ["script","k"] zdh) (C_program:Cal3 P w K mg base 89 "_law_program" ["script","spot","most"] zf8) (C_trees:Cal3 P w K mg base 89 "_law_trees" ["script","spot","many"] zi4)
    (C_asked:Cal3 P w K mg base 89 "_law_asked" ["way","program","name","trees","most"] zi7):FnOk P w K mg base (CX1 P w) 90 f fd ["script"] (lSp K lawS):=by
  refine zl4 F zbu fun cdv A outer s0 H E ns hr h63=>?_
  have hu:=zkp hr
  refine ⟨_,(zac (zai (i:=1) zbu.nd rfl (Or.inl rfl) (zdq (zaa zae zad)))
 (zac (zai (i:=2) zbu.nd rfl (Or.inl rfl) (zaj C_program hr rfl (zaa (e_v 0) (zaa (e_v 1) (zaa zae zad)))))
 (zac (zai (i:=3) zbu.nd rfl (Or.inl rfl) (e_op zax zaf (zaj C_cell_at hr rfl (zaa (e_v 0) (zaa zae zad))) zae))
 (zac (zai (i:=4) zbu.nd rfl (Or.inl rfl) (e_op zax zaf (e_op zay zaf (zaj C_cell_at hr rfl (zaa (e_v 0) (zaa zae zad))) zae) zae))
 (zac (zai (i:=5) zbu.nd rfl (Or.inl rfl) (e_op zax zaf (zaj C_cell_at hr rfl (zaa (e_v 0) (zaa zae zad))) zae))
 (zac (zai (i:=6) zbu.nd rfl (Or.inl rfl) (e_ix zb1 zcx (e_v 2) (e_op zax zaf (e_op zay zaf (zaj C_cell_at hr rfl (zaa (e_v 0) (zaa zae zad))) zae) (za3 zak zb8 rfl G.len PySem.boot_len (zaa (e_v 2) zad))) (fun _ _=>rfl)))
 (zac (zai (i:=7) zbu.nd rfl (Or.inl rfl) (zaj C_trees hr rfl (zaa (e_v 0) (zaa (e_v 1) (zaa (za3 zak zb8 rfl G.len PySem.boot_len (zaa (e_ix zap zaq (e_v 6) zae (fun _ _=>rfl)) zad)) zad)))))
 (zac (zai (i:=8) zbu.nd rfl (Or.inl rfl) (e_ix zap zaq (e_v 6) zae (fun _ _=>rfl)))
 (zac (zai (i:=9) zbu.nd rfl (Or.inl rfl) (zc7 zhx zml rfl G.list boot_list (zaa (e_v 7) zad)))
 (zac (zai (i:=10) zbu.nd rfl (Or.inl rfl) zas)
 (zac (zdx (za1 zlv zc8 (e_v 3) zae (nomark _)) (zac (zai (i:=9) zbu.nd rfl (Or.inl rfl) (za8 zc0 zd4 (e_v 9) (zbl zae) zbq))
 (zac (zdx (za1 zbp zb4 (e_op zax zaf (e_op zay zaf (zaj C_cell_at hr rfl (zaa (e_v 0) (zaa zae zad))) zae) zae) zae (nomark _)) (zah (zai (i:=9) zbu.nd rfl (Or.inl rfl) (e_op zlw ziq (e_v 7) (zdq (zaa zdp zad))))) zb9)
 (zah (zai (i:=10) zbu.nd rfl (Or.inl rfl) zas)))) zb9)
 (zac (zdx (za1 zbp zb4 (e_op zax zaf (e_v 3) zae) zae (nomark _)) (zac (zai (i:=8) zbu.nd rfl (Or.inl rfl) (e_op zbz zds zas (za8 zel zes (e_v 8) zbq (zbl zae))))
 (zac (zdx (za1 zbp zb4 (e_op zax zaf (e_op zay zaf (zaj C_cell_at hr rfl (zaa (e_v 0) (zaa zae zad))) zae) zae) zae (nomark _)) (zah (zai (i:=8) zbu.nd rfl (Or.inl rfl) (e_op zbz zds (za8 zel zes (e_v 8) (zbl zae) zbq) zas))) zb9)
 (zah (zai (i:=10) zbu.nd rfl (Or.inl rfl) zas)))) zb9)
 (zac (zdx (za1 zhi dn_in (e_v 8) (zjj (osc:=defScope zfz) (N:=["script","spot","program","fault","most","way","errand","good","name","trees","due"]) (M:=[]) (js:=[]) ⟨rfl,by decide +kernel,by decide +kernel,rfl,by decide +kernel,by decide +kernel,by decide +kernel⟩ (by decide +kernel) rfl (zho (e_v 2)) (fun _ _ _ _ _=>(e_ix zap zaq (e_v 0) zae (fun _ _=>rfl)))) (by with_unfolding_all rfl)) (zac (zai (i:=10) zbu.nd rfl (Or.inl rfl) (zdr (za1 zlv zc8 (e_v 3) zae (nomark _)) zas zas))
 (zah (zai (i:=8) zbu.nd rfl (Or.inl rfl) (e_ix zap zaq (e_v 6) zae (fun _ _=>rfl))))) zb9)
 (zac (zdx (za1 op_ne dn_neS (zaj C_asked hr rfl (zaa (e_v 5) (zaa (e_v 2) (zaa (e_v 8) (zaa (e_v 9) (zaa (e_v 4) zad)))))) (e_v 10) (nomark _)) (zah (zbn e_bl)) zb9)
 (zah (zbn (e_cmp zbp zcm (zaj C_asked hr rfl (zaa (e_v 5) (zaa (e_v 2) (zaa (e_ix zap zaq (e_v 6) zae (fun _ _=>rfl)) (zaa (e_v 7) (zaa (e_v 4) zad)))))) zas (nomark _)))))))))))))))))),?_⟩
  have cell:∀{k:Int} {S:Hp3} {Q:K3} {W:X3},0≤k→Q (.int (cellAt ns k)) S→zdh [.rol (ns.map D.int),.int k] S Q W:=fun h0 q=>⟨ns,_,rfl,h0,q⟩
  nofun
  intro sp hsp
  nofun
  refine ⟨ns,sp,2,3,[],rfl,zab,by decide,by decide,by decide,fun prog i2 hP hl hi=>?_⟩
  intro pr hpr
  have a1:up (up (up emp sp (.lst [.int 2])) sp (.lst [.int i2])) pr (.lst (prog.map Er.d)) sp=some (.lst (.int i2::[])):=(zbm (ne3 zab hpr)).trans zab
  have a2:up (up (up emp sp (.lst [.int 2])) sp (.lst [.int i2])) pr (.lst (prog.map Er.d)) pr=some (.lst (prog.map Er.d)):=zab
  have n1:sp≠pr:=ne3 zab hpr
  generalize up (up (up emp sp (.lst [.int 2])) sp (.lst [.int i2])) pr (.lst (prog.map Er.d))=S1 at a1 a2 ⊢
  nofun
  refine cell (by decide) ?_
  nofun
  refine cell (by decide) ?_
  nofun
  refine cell (by decide) ?_
  nofun
  refine cell (by decide) ?_
  generalize cellAt ns 0=z0
  generalize hz1:cellAt ns 1=z1
  have f0:=Int.emod_nonneg z0 (show (4:Int)≠0 by decide)
  have f1:=Int.emod_lt_of_pos z0 (show (0:Int)<4 by decide)
  have l0:=Int.emod_nonneg (z0/4) (show (10:Int)≠0 by decide)
  have l1:=Int.emod_lt_of_pos (z0/4) (show (0:Int)<10 by decide)
  obtain ⟨m,hm⟩:=Int.eq_ofNat_of_zero_le l0
  rw [hm] at l1 ⊢
  obtain ⟨jt,e0,ejt,he0,hat⟩:=zix (f:=Er.d) (z1/2) (show 0<prog.length by have:=hP.len1;omega)
  have hme:=List.mem_of_getElem? he0
  have hpp:(0:Int)<((prog.map Er.d).length:Int):=by rw [List.length_map];have:=hP.len1;omega
  nofun
  refine j_ixL a2 hat ?_
  rw [show e0.d=.tup [.str e0.name,.tup (e0.ps.map D.str),e0.body.d] from rfl]
  have hps:=hP.ps e0 hme
  nofun
  rw [List.length_map]
  refine ⟨ns,sp,i2,_,[],rfl,a1,hi,by omega,by omega,fun ts i3 hts hz hi3=>?_⟩
  intro tr htr
  have b1:up (up S1 sp (.lst [.int i3])) tr (.lst (ts.map Tre.d)) pr=some (.lst (prog.map Er.d)):=za7 (za7 a2 n1.symm) (ne3 a2 htr)
  have b2:up (up S1 sp (.lst [.int i3])) tr (.lst (ts.map Tre.d)) tr=some (.lst (ts.map Tre.d)):=zab
  generalize up (up S1 sp (.lst [.int i3])) tr (.lst (ts.map Tre.d))=S2 at b1 b2 ⊢
  have hs:∀t∈ts,Sz t:=fun t ht=>Nat.le_trans (hz t ht) (by decide)
  have har:arP prog e0.name=some ts.length:=by rw [zm0 hP.nd hme,hts];rfl
  have hnl:=zkh (hP.nm e0 hme)
  nofun
  intro pt hpt
  have c1:=zag (o:=.lst (ts.map Tre.d)) b1 hpt
  have c2:=zag (o:=.lst (ts.map Tre.d)) b2 hpt
  have c3:up S2 pt (.lst (ts.map Tre.d)) pt=some (.lst (ts.map Tre.d)):=zab
  generalize up S2 pt (.lst (ts.map Tre.d))=S3 at c1 c2 c3 ⊢
  nofun
  have tl:ts.length≤4∧1≤ts.length:=by rw [hts];omega
  refine j_ifm (fun σ S=>Ex2 fun (us:List Tre) (pt:Addr)=>σ=[some (.rol (ns.map D.int)),some (.ref sp),some (.ref pr),some (.int (z0%4)),some (.int m),some (.int (z1%2)),some (.tup [.str e0.name,.tup (e0.ps.map D.str),e0.body.d]),some (.ref tr),some (.str e0.name),some (.ref pt),some (.str (if 1<z0%4 then "count" else "answered"))] ∧
    S pr=some (.lst (prog.map Er.d))∧S tr=some (.lst (ts.map Tre.d))∧S pt=some (.lst (us.map Tre.d))∧(1<z0%4→us.length≠ts.length)∧(¬1<z0%4→us.length=ts.length)∧us.length≤10∧∀t∈us,Sz t) (fun n' hn'=>?_) ?_
  · nofun
    by_cases cf:(1:Int)<z0%4
    · nofun
      rw [zcy (by decide)]
      intro p2 hp2
      have e1:(ts.map Tre.d).drop (Int.toNat 1)=(ts.drop 1).map Tre.d:=by rw [List.map_drop];rfl
      rw [e1]
      have d1:=zag (o:=.lst ((ts.drop 1).map Tre.d)) c1 hp2
      have d2:=zag (o:=.lst ((ts.drop 1).map Tre.d)) c2 hp2
      have d3:up S3 p2 (.lst ((ts.drop 1).map Tre.d)) p2=some (.lst ((ts.drop 1).map Tre.d)):=zab
      generalize up S3 p2 (.lst ((ts.drop 1).map Tre.d))=S4 at d1 d2 d3 ⊢
      nofun
      refine zfp ?_
      nofun
      refine cell (by decide) ?_
      nofun
      rw [hz1]
      by_cases c6:z1/6%2=1
      · nofun
        intro p3 hp3
        have g1:=zag (o:=.lst [.non]) d1 hp3
        have g2:=zag (o:=.lst [.non]) d2 hp3
        have g3:up S4 p3 (.lst [.non]) p3=some (.lst [.non]):=zab
        generalize up S4 p3 (.lst [.non])=S6 at g1 g2 g3 ⊢
        refine j_catL g2 g3 (zbg (by rw [List.length_map];simp only [List.length_cons,List.length_nil];omega)) ?_
        have e2:ts.map Tre.d++[D.non]=(ts++[Tre.bud]).map Tre.d:=by rw [List.map_append];rfl
        rw [e2]
        intro p4 hp4
        have g4:=zag (o:=.lst ((ts++[Tre.bud]).map Tre.d)) g1 hp4
        have g5:=zag (o:=.lst ((ts++[Tre.bud]).map Tre.d)) g2 hp4
        have g6:up S6 p4 (.lst ((ts++[Tre.bud]).map Tre.d)) p4=some (.lst ((ts++[Tre.bud]).map Tre.d)):=zab
        generalize up S6 p4 (.lst ((ts++[Tre.bud]).map Tre.d))=S7 at g4 g5 g6 ⊢
        nofun
        refine hn' _ _ ⟨ts++[.bud],p4,by rw [if_pos cf];rfl,g4,g5,g6,fun _=>by rw [List.length_append];simp,fun z=>absurd cf z,by rw [List.length_append];simp only [List.length_cons,List.length_nil];omega,fun t ht=>?_⟩
        rcases List.mem_append.mp ht with ht|ht
        · exact hs t ht
        · rw [List.mem_singleton.mp ht];exact Nat.zero_le _
      · nofun
        refine hn' _ _ ⟨ts.drop 1,p2,by rw [if_pos cf];rfl,d1,d2,d3,fun _=>by rw [List.length_drop];omega,fun z=>absurd cf z,by rw [List.length_drop];omega,fun t ht=>hs t (List.mem_of_mem_drop ht)⟩
    · nofun
      exact hn' _ _ ⟨ts,pt,by rw [if_neg cf];rfl,c1,c2,c3,fun z=>absurd z cf,fun _=>rfl,by omega,hs⟩
  rintro σ S5 ⟨us,pt2,rfl,k1,k2,k3,hne,heq,hul,hus⟩
  nofun
  have cutL:∀(z:Str) (lo hi:Option Int),(textOf (cutT z.cps.toList lo hi)).length≤z.length:=fun z lo hi=>by
    show (textOf (cutT z.cps.toList lo hi)).cps.size≤z.cps.size
    simp only [textOf,List.size_toArray,cutT,List.length_take,List.length_drop,Array.length_toList]
    omega
  have zz:("zz":Str).length=2:=by decide +kernel
  have z1l:("z":Str).length=1:=by decide +kernel
  have small:∀{n:Nat},n≤200→n≤sizeLine:=fun h=>Nat.le_trans h (by decide)
  refine j_ifm (fun σ S=>Ex2 fun (nm:Str) (du:Str)=>σ=[some (.rol (ns.map D.int)),some (.ref sp),some (.ref pr),some (.int (z0%4)),some (.int m),some (.int (z1%2)),some (.tup [.str e0.name,.tup (e0.ps.map D.str),e0.body.d]),some (.ref tr),some (.str nm),some (.ref pt2),some (.str du)]∧S=S5∧nm.length≤60 ∧
    ((nm=e0.name∧du=(if 1<z0%4 then ("count":Str) else ("answered":Str)))∨du="such")) (fun n' hn'=>?_) ?_
  · nofun
    by_cases cf:z0%4%2=1
    · nofun
      refine j_slS (small (by omega)) ?_
      have h1:=cutL e0.name none (some 6)
      refine j_addS (small (by rw [zz];omega)) ?_
      generalize hw:("zz":Str)++textOf (cutT e0.name.cps.toList none (some 6))=nm
      have hwl:nm.length≤52:=by rw [←hw,strLen_append,zz];omega
      nofun
      refine zfp ?_
      nofun
      refine cell (by decide) ?_
      nofun
      rw [hz1]
      by_cases c6:z1/12%2=1
      · nofun
        refine j_slS (small (by omega)) ?_
        have h2:=cutL nm (some 2) none
        nofun
        refine j_addS (small (by rw [z1l];omega)) ?_
        nofun
        exact hn' _ _ ⟨_,_,rfl,rfl,by rw [strLen_append,z1l];omega,.inr rfl⟩
      · nofun
        exact hn' _ _ ⟨_,_,rfl,rfl,by omega,.inr rfl⟩
    · nofun
      exact hn' _ _ ⟨_,_,rfl,rfl,by omega,.inl ⟨rfl,rfl⟩⟩
  rintro σ S6 ⟨nm,du,rfl,rfl,hnm,hdu⟩
  nofun
  have hlen:=hP.len
  have win:e0.name∈prog.map Er.name:=List.mem_map_of_mem hme
  refine j_ifm (fun σ S=>Ex2 fun (nm:Str) (du:Str)=>σ=[some (.rol (ns.map D.int)),some (.ref sp),some (.ref pr),some (.int (z0%4)),some (.int m),some (.int (z1%2)),some (.tup [.str e0.name,.tup (e0.ps.map D.str),e0.body.d]),some (.ref tr),some (.str nm),some (.ref pt2),some (.str du)]∧S pr=some (.lst (prog.map Er.d))∧S tr=some (.lst (ts.map Tre.d))∧S pt2=some (.lst (us.map Tre.d))∧nm.length≤60 ∧
    ((nm=e0.name∧du=(if 1<z0%4 then ("count":Str) else ("answered":Str)))∨(nm∉prog.map Er.name∧du="such"))) (fun n' hn'=>?_) ?_
  · nofun
    refine zd6 (fun i=>.str ((prog.map Er.name).getD i "")) (by rw [List.length_map];omega) k1 ?_ ?_
    · intro i d hd P hP'
      rw [List.getElem?_map] at hd
      obtain ⟨e,he,rfl⟩:=Option.map_eq_some_iff.mp hd
      rw [show e.d=.tup [.str e.name,.tup (e.ps.map D.str),e.body.d] from rfl]
      nofun
      rw [List.getD_eq_getElem?_getD,List.getElem?_map,he] at hP'
      exact hP'
    have en:((List.range (prog.map Er.d).length).map fun i=>D.str ((prog.map Er.name).getD i ""))=(prog.map Er.name).map D.str:=by
      rw [List.length_map]
      apply List.ext_getElem?
      intro i
      rw [List.getElem?_map,List.getElem?_map]
      by_cases hi:i<prog.length
      · rw [List.getElem?_range hi,List.getElem?_eq_getElem (by rw [List.length_map];exact hi)]
        show some (D.str (List.getD _ _ _))=some _
        rw [List.getD_eq_getElem?_getD,List.getElem?_eq_getElem (by rw [List.length_map];exact hi)]
        rfl
      · rw [List.getElem?_eq_none (by simpa using hi),List.getElem?_eq_none (by simpa using hi)]
        rfl
    rw [en]
    intro pl hpl
    have g1:=zag (o:=.lst ((prog.map Er.name).map D.str)) k1 hpl
    have g2:=zag (o:=.lst ((prog.map Er.name).map D.str)) k2 hpl
    have g3:=zag (o:=.lst ((prog.map Er.name).map D.str)) k3 hpl
    have g4:up S6 pl (.lst ((prog.map Er.name).map D.str)) pl=some (.lst ((prog.map Er.name).map D.str)):=zab
    generalize up S6 pl (.lst ((prog.map Er.name).map D.str))=S7 at g1 g2 g3 g4 ⊢
    refine j_inL g4 ?_
    by_cases cin:nm∈prog.map Er.name
    · rw [decide_eq_true cin]
      nofun
      by_cases cf:(1:Int)<z0%4
      · nofun
        exact hn' _ _ ⟨_,_,rfl,g1,g2,g3,by omega,.inl ⟨rfl,(if_pos cf).symm⟩⟩
      · nofun
        exact hn' _ _ ⟨_,_,rfl,g1,g2,g3,by omega,.inl ⟨rfl,(if_neg cf).symm⟩⟩
    · rw [decide_eq_false cin]
      nofun
      refine hn' _ _ ⟨_,_,rfl,g1,g2,g3,by omega,.inr ⟨cin,?_⟩⟩
      rcases hdu with ⟨rfl,_⟩|h
      · exact absurd win cin
      · exact h
  rintro σ S8 ⟨nm2,du2,rfl,p1,p2,p3,hn2,hd2⟩
  have ask:∀(x:Str) (vs:List Tre),x.length≤60→vs.length≤10→(∀t∈vs,Sz t)→Ask prog x vs m:=fun x vs h1 h2 h3=>⟨⟨10000,⟨by omega,hP.nd,fun e he=>(hP.body e he).wf,fun e he=>by have:=(hP.body e he).size;omega,by decide⟩,by omega⟩,by omega,fun e he=>by have:=(hP.ps e he).2.1;omega,by omega,by omega,h3⟩
  have ed:told14 prog nm2 us.length=du2:=by
    unfold told14
    rcases hd2 with ⟨rfl,rfl⟩|⟨hno,rfl⟩
    · rw [har]
      by_cases cf:(1:Int)<z0%4
      · rw [if_pos cf]
        exact if_neg (hne cf)
      · rw [if_neg cf]
        exact if_pos (heq cf)
    · cases e:arP prog nm2 with
      | none=>rfl
      | some k=>exact absurd (zg4 e) hno
  have ed2:told14 prog e0.name ts.length="answered":=by
    unfold told14
    rw [har]
    exact if_pos rfl
  nofun
  refine zfp ?_
  nofun
  refine ⟨_,pr,pt2,prog,nm2,us,m,rfl,p1,p3,ask _ _ hn2 hul hus,?_⟩
  rw [ed]
  nofun
  refine ⟨_,pr,tr,prog,e0.name,ts,m,rfl,p1,p2,ask _ _ (by omega) (by omega) hs,?_⟩
  rw [ed2]
  nofun
  rfl
end
theorem all_mk {l:PySem.W.OpenLaw} {w:World} {K:PySem.W.Frag} {h:Heap} {mg:Str→Option Value} {fa f_in_order f_parts f_refuse_missing f_refuse_miscounted f_size f_run f_entries f_ended_run f_numbered_bodies f_count_sends f_numbered f_needed_parts f_side f_cell_at f_names f_next f_path f_arg f_send f_body f_program f_tree_by f_trees f_asked f_R_init f_R_begin f_R_go_on f_R_prepare f_R_finish f_R_taken f_R_choose f_R_join_pair f_R_parameter f_law:Addr}
    (X:K.In h) (G:h.Ns mainGlobals mg) (hfa:mg "law"=some (.ref fa))
    {od_in_order an_in_order od_parts an_parts od_refuse_missing an_refuse_missing od_refuse_miscounted an_refuse_miscounted od_size an_size od_run an_run od_entries an_entries od_ended_run an_ended_run od_numbered_bodies an_numbered_bodies od_count_sends an_count_sends od_numbered an_numbered od_needed_parts an_needed_parts od_side an_side od_cell_at an_cell_at od_names an_names od_next an_next od_path an_path od_arg an_arg od_send an_send od_body an_body od_program an_program od_tree_by an_tree_by od_trees an_trees od_asked an_asked od_R_init an_R_init od_R_begin an_R_begin od_R_go_on an_R_go_on od_R_prepare an_R_prepare od_R_finish an_R_finish od_R_taken an_R_taken od_R_choose an_R_choose od_R_join_pair an_R_join_pair od_R_parameter an_R_parameter od_law an_law:Option Addr}
    {sl_in_order sl_parts sl_refuse_missing sl_refuse_miscounted sl_size sl_run sl_entries sl_ended_run sl_numbered_bodies sl_count_sends sl_numbered sl_needed_parts sl_side sl_cell_at sl_names sl_next sl_path sl_arg sl_send sl_body sl_program sl_tree_by sl_trees sl_asked sl_R_init sl_R_begin sl_R_go_on sl_R_prepare sl_R_finish sl_R_taken sl_R_choose sl_R_join_pair sl_R_parameter sl_law:Array (Option Value)}
    {oc_in_order kV_in_order dc_in_order pm_in_order cd_in_order ct_in_order oc_parts kV_parts dc_parts pm_parts cd_parts ct_parts oc_refuse_missing kV_refuse_missing dc_refuse_missing pm_refuse_missing cd_refuse_missing ct_refuse_missing oc_refuse_miscounted kV_refuse_miscounted dc_refuse_miscounted pm_refuse_miscounted cd_refuse_miscounted ct_refuse_miscounted oc_size kV_size dc_size pm_size cd_size ct_size oc_run kV_run dc_run pm_run cd_run ct_run oc_entries kV_entries dc_entries pm_entries cd_entries ct_entries oc_ended_run kV_ended_run dc_ended_run pm_ended_run cd_ended_run ct_ended_run oc_numbered_bodies kV_numbered_bodies dc_numbered_bodies pm_numbered_bodies cd_numbered_bodies ct_numbered_bodies oc_count_sends kV_count_sends dc_count_sends pm_count_sends cd_count_sends ct_count_sends oc_numbered kV_numbered dc_numbered pm_numbered cd_numbered ct_numbered oc_needed_parts kV_needed_parts dc_needed_parts pm_needed_parts cd_needed_parts ct_needed_parts oc_side kV_side dc_side pm_side cd_side ct_side oc_cell_at kV_cell_at dc_cell_at pm_cell_at cd_cell_at ct_cell_at oc_names kV_names dc_names pm_names cd_names ct_names oc_next kV_next dc_next pm_next cd_next ct_next oc_path kV_path dc_path pm_path cd_path ct_path oc_arg kV_arg dc_arg pm_arg cd_arg ct_arg oc_send kV_send dc_send pm_send cd_send ct_send oc_body kV_body dc_body pm_body cd_body ct_body oc_program kV_program dc_program pm_program cd_program ct_program oc_tree_by kV_tree_by dc_tree_by pm_tree_by cd_tree_by ct_tree_by oc_trees kV_trees dc_trees pm_trees cd_trees ct_trees oc_asked kV_asked dc_asked pm_asked cd_asked ct_asked oc_R_init kV_R_init dc_R_init pm_R_init cd_R_init ct_R_init oc_R_begin kV_R_begin dc_R_begin pm_R_begin cd_R_begin ct_R_begin oc_R_go_on kV_R_go_on dc_R_go_on pm_R_go_on cd_R_go_on ct_R_go_on oc_R_prepare kV_R_prepare dc_R_prepare pm_R_prepare cd_R_prepare ct_R_prepare oc_R_finish kV_R_finish dc_R_finish pm_R_finish cd_R_finish ct_R_finish oc_R_taken kV_R_taken dc_R_taken pm_R_taken cd_R_taken ct_R_taken oc_R_choose kV_R_choose dc_R_choose pm_R_choose cd_R_choose ct_R_choose oc_R_join_pair kV_R_join_pair dc_R_join_pair pm_R_join_pair cd_R_join_pair ct_R_join_pair oc_R_parameter kV_R_parameter dc_R_parameter pm_R_parameter cd_R_parameter ct_R_parameter oc_law kV_law dc_law pm_law cd_law ct_law:Value}
    {tk_MOST_PAIRS:Tok}
    {CR:Addr}
    (aC:PySem.W.nsIn K mainGlobals "Run"=some (some (.ref CR)))
    (a_in_order:PySem.W.nsIn K mainGlobals "in_order"=some (some (.ref f_in_order)))
    (l_in_order:K.lookup f_in_order=some ⟨oc_in_order,od_in_order,.func (PySem.W.fnOf "in_order" "in_order" (defArgs zcb) (defBody zcb) (defScope zcb) .none kV_in_order dc_in_order pm_in_order an_in_order cd_in_order ct_in_order),sl_in_order⟩)
    (c_in_order:PySem.W.codeIn K cd_in_order "in_order"=true) (k_in_order:PySem.W.keepIn K (.ref f_in_order)=true)
    (a_parts:PySem.W.nsIn K mainGlobals "parts"=some (some (.ref f_parts)))
    (l_parts:K.lookup f_parts=some ⟨oc_parts,od_parts,.func (PySem.W.fnOf "parts" "parts" (defArgs zec) (defBody zec) (defScope zec) .none kV_parts dc_parts pm_parts an_parts cd_parts ct_parts),sl_parts⟩)
    (c_parts:PySem.W.codeIn K cd_parts "parts"=true) (k_parts:PySem.W.keepIn K (.ref f_parts)=true)
    (a_refuse_missing:PySem.W.nsIn K mainGlobals "refuse_missing"=some (some (.ref f_refuse_missing)))
    (l_refuse_missing:K.lookup f_refuse_missing=some ⟨oc_refuse_missing,od_refuse_missing,.func (PySem.W.fnOf "refuse_missing" "refuse_missing" (defArgs za4) (defBody za4) (defScope za4) .none kV_refuse_missing dc_refuse_missing pm_refuse_missing an_refuse_missing cd_refuse_missing ct_refuse_missing),sl_refuse_missing⟩)
    (c_refuse_missing:PySem.W.codeIn K cd_refuse_missing "refuse_missing"=true) (k_refuse_missing:PySem.W.keepIn K (.ref f_refuse_missing)=true)
    (a_refuse_miscounted:PySem.W.nsIn K mainGlobals "refuse_miscounted"=some (some (.ref f_refuse_miscounted)))
    (l_refuse_miscounted:K.lookup f_refuse_miscounted=some ⟨oc_refuse_miscounted,od_refuse_miscounted,.func (PySem.W.fnOf "refuse_miscounted" "refuse_miscounted" (defArgs zar) (defBody zar) (defScope zar) .none kV_refuse_miscounted dc_refuse_miscounted pm_refuse_miscounted an_refuse_miscounted cd_refuse_miscounted ct_refuse_miscounted),sl_refuse_miscounted⟩)
    (c_refuse_miscounted:PySem.W.codeIn K cd_refuse_miscounted "refuse_miscounted"=true) (k_refuse_miscounted:PySem.W.keepIn K (.ref f_refuse_miscounted)=true)
    (a_size:PySem.W.nsIn K mainGlobals "size"=some (some (.ref f_size)))
    (l_size:K.lookup f_size=some ⟨oc_size,od_size,.func (PySem.W.fnOf "size" "size" (defArgs zgc) (defBody zgc) (defScope zgc) .none kV_size dc_size pm_size an_size cd_size ct_size),sl_size⟩)
    (c_size:PySem.W.codeIn K cd_size "size"=true) (k_size:PySem.W.keepIn K (.ref f_size)=true)
    (a_run:PySem.W.nsIn K mainGlobals "run"=some (some (.ref f_run)))
    (l_run:K.lookup f_run=some ⟨oc_run,od_run,.func (PySem.W.fnOf "run" "run" (defArgs zj3) (defBody zj3) (defScope zj3) .none kV_run dc_run pm_run an_run cd_run ct_run),sl_run⟩)
    (c_run:PySem.W.codeIn K cd_run "run"=true) (k_run:PySem.W.keepIn K (.ref f_run)=true)
    (a_entries:PySem.W.nsIn K mainGlobals "entries"=some (some (.ref f_entries)))
    (l_entries:K.lookup f_entries=some ⟨oc_entries,od_entries,.func (PySem.W.fnOf "entries" "entries" (defArgs zcs) (defBody zcs) (defScope zcs) .none kV_entries dc_entries pm_entries an_entries cd_entries ct_entries),sl_entries⟩)
    (c_entries:PySem.W.codeIn K cd_entries "entries"=true) (k_entries:PySem.W.keepIn K (.ref f_entries)=true)
    (a_ended_run:PySem.W.nsIn K mainGlobals "ended_run"=some (some (.ref f_ended_run)))
    (l_ended_run:K.lookup f_ended_run=some ⟨oc_ended_run,od_ended_run,.func (PySem.W.fnOf "ended_run" "ended_run" (defArgs zbo) (defBody zbo) (defScope zbo) .none kV_ended_run dc_ended_run pm_ended_run an_ended_run cd_ended_run ct_ended_run),sl_ended_run⟩)
    (c_ended_run:PySem.W.codeIn K cd_ended_run "ended_run"=true) (k_ended_run:PySem.W.keepIn K (.ref f_ended_run)=true)
    (a_numbered_bodies:PySem.W.nsIn K mainGlobals "numbered_bodies"=some (some (.ref f_numbered_bodies)))
    (l_numbered_bodies:K.lookup f_numbered_bodies=some ⟨oc_numbered_bodies,od_numbered_bodies,.func (PySem.W.fnOf "numbered_bodies" "numbered_bodies" (defArgs za2) (defBody za2) (defScope za2) .none kV_numbered_bodies dc_numbered_bodies pm_numbered_bodies an_numbered_bodies cd_numbered_bodies ct_numbered_bodies),sl_numbered_bodies⟩)
    (c_numbered_bodies:PySem.W.codeIn K cd_numbered_bodies "numbered_bodies"=true) (k_numbered_bodies:PySem.W.keepIn K (.ref f_numbered_bodies)=true)
    (a_count_sends:PySem.W.nsIn K mainGlobals "count_sends"=some (some (.ref f_count_sends)))
    (l_count_sends:K.lookup f_count_sends=some ⟨oc_count_sends,od_count_sends,.func (PySem.W.fnOf "count_sends" "count_sends" (defArgs zbb) (defBody zbb) (defScope zbb) .none kV_count_sends dc_count_sends pm_count_sends an_count_sends cd_count_sends ct_count_sends),sl_count_sends⟩)
    (c_count_sends:PySem.W.codeIn K cd_count_sends "count_sends"=true) (k_count_sends:PySem.W.keepIn K (.ref f_count_sends)=true)
    (a_numbered:PySem.W.nsIn K mainGlobals "numbered"=some (some (.ref f_numbered)))
    (l_numbered:K.lookup f_numbered=some ⟨oc_numbered,od_numbered,.func (PySem.W.fnOf "numbered" "numbered" (defArgs zbx) (defBody zbx) (defScope zbx) .none kV_numbered dc_numbered pm_numbered an_numbered cd_numbered ct_numbered),sl_numbered⟩)
    (c_numbered:PySem.W.codeIn K cd_numbered "numbered"=true) (k_numbered:PySem.W.keepIn K (.ref f_numbered)=true)
    (a_needed_parts:PySem.W.nsIn K mainGlobals "needed_parts"=some (some (.ref f_needed_parts)))
    (l_needed_parts:K.lookup f_needed_parts=some ⟨oc_needed_parts,od_needed_parts,.func (PySem.W.fnOf "needed_parts" "needed_parts" (defArgs zbf) (defBody zbf) (defScope zbf) .none kV_needed_parts dc_needed_parts pm_needed_parts an_needed_parts cd_needed_parts ct_needed_parts),sl_needed_parts⟩)
    (c_needed_parts:PySem.W.codeIn K cd_needed_parts "needed_parts"=true) (k_needed_parts:PySem.W.keepIn K (.ref f_needed_parts)=true)
    (a_side:PySem.W.nsIn K mainGlobals "side"=some (some (.ref f_side)))
    (l_side:K.lookup f_side=some ⟨oc_side,od_side,.func (PySem.W.fnOf "side" "side" (defArgs zgd) (defBody zgd) (defScope zgd) .none kV_side dc_side pm_side an_side cd_side ct_side),sl_side⟩)
    (c_side:PySem.W.codeIn K cd_side "side"=true) (k_side:PySem.W.keepIn K (.ref f_side)=true)
    (a_cell_at:PySem.W.nsIn K mainGlobals "_law_cell_at"=some (some (.ref f_cell_at)))
    (l_cell_at:K.lookup f_cell_at=some ⟨oc_cell_at,od_cell_at,.func (PySem.W.fnOf "_law_cell_at" "_law_cell_at" (defArgs zct) (defBody zct) (defScope zct) .none kV_cell_at dc_cell_at pm_cell_at an_cell_at cd_cell_at ct_cell_at),sl_cell_at⟩)
    (c_cell_at:PySem.W.codeIn K cd_cell_at "_law_cell_at"=true) (k_cell_at:PySem.W.keepIn K (.ref f_cell_at)=true)
    (a_names:PySem.W.nsIn K mainGlobals "_law_names"=some (some (.ref f_names)))
    (l_names:K.lookup f_names=some ⟨oc_names,od_names,.func (PySem.W.fnOf "_law_names" "_law_names" (defArgs zc2) (defBody zc2) (defScope zc2) .none kV_names dc_names pm_names an_names cd_names ct_names),sl_names⟩)
    (c_names:PySem.W.codeIn K cd_names "_law_names"=true) (k_names:PySem.W.keepIn K (.ref f_names)=true)
    (a_next:PySem.W.nsIn K mainGlobals "_law_next"=some (some (.ref f_next)))
    (l_next:K.lookup f_next=some ⟨oc_next,od_next,.func (PySem.W.fnOf "_law_next" "_law_next" (defArgs zgf) (defBody zgf) (defScope zgf) .none kV_next dc_next pm_next an_next cd_next ct_next),sl_next⟩)
    (c_next:PySem.W.codeIn K cd_next "_law_next"=true) (k_next:PySem.W.keepIn K (.ref f_next)=true)
    (a_path:PySem.W.nsIn K mainGlobals "_law_path"=some (some (.ref f_path)))
    (l_path:K.lookup f_path=some ⟨oc_path,od_path,.func (PySem.W.fnOf "_law_path" "_law_path" (defArgs zge) (defBody zge) (defScope zge) .none kV_path dc_path pm_path an_path cd_path ct_path),sl_path⟩)
    (c_path:PySem.W.codeIn K cd_path "_law_path"=true) (k_path:PySem.W.keepIn K (.ref f_path)=true)
    (a_arg:PySem.W.nsIn K mainGlobals "_law_arg"=some (some (.ref f_arg)))
    (l_arg:K.lookup f_arg=some ⟨oc_arg,od_arg,.func (PySem.W.fnOf "_law_arg" "_law_arg" (defArgs zj4) (defBody zj4) (defScope zj4) .none kV_arg dc_arg pm_arg an_arg cd_arg ct_arg),sl_arg⟩)
    (c_arg:PySem.W.codeIn K cd_arg "_law_arg"=true) (k_arg:PySem.W.keepIn K (.ref f_arg)=true)
    (a_send:PySem.W.nsIn K mainGlobals "_law_send"=some (some (.ref f_send)))
    (l_send:K.lookup f_send=some ⟨oc_send,od_send,.func (PySem.W.fnOf "_law_send" "_law_send" (defArgs zfd) (defBody zfd) (defScope zfd) .none kV_send dc_send pm_send an_send cd_send ct_send),sl_send⟩)
    (c_send:PySem.W.codeIn K cd_send "_law_send"=true) (k_send:PySem.W.keepIn K (.ref f_send)=true)
    (a_body:PySem.W.nsIn K mainGlobals "_law_body"=some (some (.ref f_body)))
    (l_body:K.lookup f_body=some ⟨oc_body,od_body,.func (PySem.W.fnOf "_law_body" "_law_body" (defArgs zgg) (defBody zgg) (defScope zgg) .none kV_body dc_body pm_body an_body cd_body ct_body),sl_body⟩)
    (c_body:PySem.W.codeIn K cd_body "_law_body"=true) (k_body:PySem.W.keepIn K (.ref f_body)=true)
    (a_program:PySem.W.nsIn K mainGlobals "_law_program"=some (some (.ref f_program)))
    (l_program:K.lookup f_program=some ⟨oc_program,od_program,.func (PySem.W.fnOf "_law_program" "_law_program" (defArgs zch) (defBody zch) (defScope zch) .none kV_program dc_program pm_program an_program cd_program ct_program),sl_program⟩)
    (c_program:PySem.W.codeIn K cd_program "_law_program"=true) (k_program:PySem.W.keepIn K (.ref f_program)=true)
    (a_tree_by:PySem.W.nsIn K mainGlobals "_law_tree_by"=some (some (.ref f_tree_by)))
    (l_tree_by:K.lookup f_tree_by=some ⟨oc_tree_by,od_tree_by,.func (PySem.W.fnOf "_law_tree_by" "_law_tree_by" (defArgs zcr) (defBody zcr) (defScope zcr) .none kV_tree_by dc_tree_by pm_tree_by an_tree_by cd_tree_by ct_tree_by),sl_tree_by⟩)
    (c_tree_by:PySem.W.codeIn K cd_tree_by "_law_tree_by"=true) (k_tree_by:PySem.W.keepIn K (.ref f_tree_by)=true)
    (a_trees:PySem.W.nsIn K mainGlobals "_law_trees"=some (some (.ref f_trees)))
    (l_trees:K.lookup f_trees=some ⟨oc_trees,od_trees,.func (PySem.W.fnOf "_law_trees" "_law_trees" (defArgs zeb) (defBody zeb) (defScope zeb) .none kV_trees dc_trees pm_trees an_trees cd_trees ct_trees),sl_trees⟩)
    (c_trees:PySem.W.codeIn K cd_trees "_law_trees"=true) (k_trees:PySem.W.keepIn K (.ref f_trees)=true)
    (a_asked:PySem.W.nsIn K mainGlobals "_law_asked"=some (some (.ref f_asked)))
    (l_asked:K.lookup f_asked=some ⟨oc_asked,od_asked,.func (PySem.W.fnOf "_law_asked" "_law_asked" (defArgs zed) (defBody zed) (defScope zed) .none kV_asked dc_asked pm_asked an_asked cd_asked ct_asked),sl_asked⟩)
    (c_asked:PySem.W.codeIn K cd_asked "_law_asked"=true) (k_asked:PySem.W.keepIn K (.ref f_asked)=true)
    (a_R_init:PySem.W.findIn K (.ref CR) "__init__"=some (some (.ref f_R_init))) (i_R_init:PySem.W.isFn K (.ref f_R_init)=true)
    (l_R_init:K.lookup f_R_init=some ⟨oc_R_init,od_R_init,.func (PySem.W.fnOf "__init__" "Run.__init__" (defArgs zdi) (defBody zdi) (defScope zdi) .none kV_R_init dc_R_init pm_R_init an_R_init cd_R_init ct_R_init),sl_R_init⟩)
    (c_R_init:PySem.W.codeIn K cd_R_init "Run.__init__"=true) (k_R_init:PySem.W.keepIn K (.ref f_R_init)=true)
    (a_R_begin:PySem.W.findIn K (.ref CR) "begin"=some (some (.ref f_R_begin))) (i_R_begin:PySem.W.isFn K (.ref f_R_begin)=true)
    (l_R_begin:K.lookup f_R_begin=some ⟨oc_R_begin,od_R_begin,.func (PySem.W.fnOf "begin" "Run.begin" (defArgs zcw) (defBody zcw) (defScope zcw) .none kV_R_begin dc_R_begin pm_R_begin an_R_begin cd_R_begin ct_R_begin),sl_R_begin⟩)
    (c_R_begin:PySem.W.codeIn K cd_R_begin "Run.begin"=true) (k_R_begin:PySem.W.keepIn K (.ref f_R_begin)=true)
    (a_R_go_on:PySem.W.findIn K (.ref CR) "go_on"=some (some (.ref f_R_go_on))) (i_R_go_on:PySem.W.isFn K (.ref f_R_go_on)=true)
    (l_R_go_on:K.lookup f_R_go_on=some ⟨oc_R_go_on,od_R_go_on,.func (PySem.W.fnOf "go_on" "Run.go_on" (defArgs zcv) (defBody zcv) (defScope zcv) .none kV_R_go_on dc_R_go_on pm_R_go_on an_R_go_on cd_R_go_on ct_R_go_on),sl_R_go_on⟩)
    (c_R_go_on:PySem.W.codeIn K cd_R_go_on "Run.go_on"=true) (k_R_go_on:PySem.W.keepIn K (.ref f_R_go_on)=true)
    (a_R_prepare:PySem.W.findIn K (.ref CR) "prepare"=some (some (.ref f_R_prepare))) (i_R_prepare:PySem.W.isFn K (.ref f_R_prepare)=true)
    (l_R_prepare:K.lookup f_R_prepare=some ⟨oc_R_prepare,od_R_prepare,.func (PySem.W.fnOf "prepare" "Run.prepare" (defArgs zby) (defBody zby) (defScope zby) .none kV_R_prepare dc_R_prepare pm_R_prepare an_R_prepare cd_R_prepare ct_R_prepare),sl_R_prepare⟩)
    (c_R_prepare:PySem.W.codeIn K cd_R_prepare "Run.prepare"=true) (k_R_prepare:PySem.W.keepIn K (.ref f_R_prepare)=true)
    (a_R_finish:PySem.W.findIn K (.ref CR) "finish"=some (some (.ref f_R_finish))) (i_R_finish:PySem.W.isFn K (.ref f_R_finish)=true)
    (l_R_finish:K.lookup f_R_finish=some ⟨oc_R_finish,od_R_finish,.func (PySem.W.fnOf "finish" "Run.finish" (defArgs zcc) (defBody zcc) (defScope zcc) .none kV_R_finish dc_R_finish pm_R_finish an_R_finish cd_R_finish ct_R_finish),sl_R_finish⟩)
    (c_R_finish:PySem.W.codeIn K cd_R_finish "Run.finish"=true) (k_R_finish:PySem.W.keepIn K (.ref f_R_finish)=true)
    (a_R_taken:PySem.W.findIn K (.ref CR) "taken"=some (some (.ref f_R_taken))) (i_R_taken:PySem.W.isFn K (.ref f_R_taken)=true)
    (l_R_taken:K.lookup f_R_taken=some ⟨oc_R_taken,od_R_taken,.func (PySem.W.fnOf "taken" "Run.taken" (defArgs zcu) (defBody zcu) (defScope zcu) .none kV_R_taken dc_R_taken pm_R_taken an_R_taken cd_R_taken ct_R_taken),sl_R_taken⟩)
    (c_R_taken:PySem.W.codeIn K cd_R_taken "Run.taken"=true) (k_R_taken:PySem.W.keepIn K (.ref f_R_taken)=true)
    (a_R_choose:PySem.W.findIn K (.ref CR) "choose"=some (some (.ref f_R_choose))) (i_R_choose:PySem.W.isFn K (.ref f_R_choose)=true)
    (l_R_choose:K.lookup f_R_choose=some ⟨oc_R_choose,od_R_choose,.func (PySem.W.fnOf "choose" "Run.choose" (defArgs zcd) (defBody zcd) (defScope zcd) .none kV_R_choose dc_R_choose pm_R_choose an_R_choose cd_R_choose ct_R_choose),sl_R_choose⟩)
    (c_R_choose:PySem.W.codeIn K cd_R_choose "Run.choose"=true) (k_R_choose:PySem.W.keepIn K (.ref f_R_choose)=true)
    (a_R_join_pair:PySem.W.findIn K (.ref CR) "join_pair"=some (some (.ref f_R_join_pair))) (i_R_join_pair:PySem.W.isFn K (.ref f_R_join_pair)=true)
    (l_R_join_pair:K.lookup f_R_join_pair=some ⟨oc_R_join_pair,od_R_join_pair,.func (PySem.W.fnOf "join_pair" "Run.join_pair" (defArgs zbk) (defBody zbk) (defScope zbk) .none kV_R_join_pair dc_R_join_pair pm_R_join_pair an_R_join_pair cd_R_join_pair ct_R_join_pair),sl_R_join_pair⟩)
    (c_R_join_pair:PySem.W.codeIn K cd_R_join_pair "Run.join_pair"=true) (k_R_join_pair:PySem.W.keepIn K (.ref f_R_join_pair)=true)
    (a_R_parameter:PySem.W.findIn K (.ref CR) "parameter"=some (some (.ref f_R_parameter))) (i_R_parameter:PySem.W.isFn K (.ref f_R_parameter)=true)
    (l_R_parameter:K.lookup f_R_parameter=some ⟨oc_R_parameter,od_R_parameter,.func (PySem.W.fnOf "parameter" "Run.parameter" (defArgs zbj) (defBody zbj) (defScope zbj) .none kV_R_parameter dc_R_parameter pm_R_parameter an_R_parameter cd_R_parameter ct_R_parameter),sl_R_parameter⟩)
    (c_R_parameter:PySem.W.codeIn K cd_R_parameter "Run.parameter"=true) (k_R_parameter:PySem.W.keepIn K (.ref f_R_parameter)=true)
    (a_law:PySem.W.nsIn K mainGlobals "law"=some (some (.ref f_law)))
    (l_law:K.lookup f_law=some ⟨oc_law,od_law,.func (PySem.W.fnOf "law" "law" (defArgs zfz) (defBody zfz) (defScope zfz) .none kV_law dc_law pm_law an_law cd_law ct_law),sl_law⟩)
    (c_law:PySem.W.codeIn K cd_law "law"=true) (k_law:PySem.W.keepIn K (.ref f_law)=true)
    (z_len:PySem.W.nsIn K mainGlobals "len"=some none)
    (z_range:PySem.W.nsIn K mainGlobals "range"=some none)
    (z_isinstance:PySem.W.nsIn K mainGlobals "isinstance"=some none)
    (z_tuple:PySem.W.nsIn K mainGlobals "tuple"=some none)
    (z_dict:PySem.W.nsIn K mainGlobals "dict"=some none)
    (z_list:PySem.W.nsIn K mainGlobals "list"=some none)
    (z_reversed:PySem.W.nsIn K mainGlobals "reversed"=some none)
    (z_MOST_PAIRS:PySem.W.nsIn K mainGlobals "MOST_PAIRS"=some (some (.int 60 tk_MOST_PAIRS)))
    {ad_err ad_text ad_twice ad_such ad_count ad_apart ad_many ad_way:Addr}
    (x_err:PySem.W.nsIn K mainGlobals "ErrandError"=some (some (.ref ad_err)))
    (x_text:PySem.W.nsIn K mainGlobals "BadText"=some (some (.ref ad_text)))
    (x_twice:PySem.W.nsIn K mainGlobals "Twice"=some (some (.ref ad_twice)))
    (x_such:PySem.W.nsIn K mainGlobals "NoSuch"=some (some (.ref ad_such)))
    (x_count:PySem.W.nsIn K mainGlobals "WrongCount"=some (some (.ref ad_count)))
    (x_apart:PySem.W.nsIn K mainGlobals "Apart"=some (some (.ref ad_apart)))
    (x_many:PySem.W.nsIn K mainGlobals "TooMany"=some (some (.ref ad_many)))
    (x_way:PySem.W.nsIn K mainGlobals "NoWay"=some (some (.ref ad_way)))
    (x_all:rfAll K [(.err,ad_err),(.text,ad_text),(.twice,ad_twice),(.such,ad_such),(.count,ad_count),(.apart,ad_apart),(.many,ad_many),(.way,ad_way)]=true)
    (pgC:PySem.W.plainGet K CR Str.empty=true) (hdC:PySem.W.hasDictIn K CR=true) (poC:PySem.W.plainOver K CR=true) (saC:PySem.W.findIn K (.ref CR) "__setattr__"=some (some (.builtin "object.__setattr__"))) (mkC:PySem.W.makesIn K CR=true) (kcC:PySem.W.keepIn K (.ref CR)=true)
    (n_params:PySem.W.findIn K (.ref CR) "params"=some none)
    (n_bodies:PySem.W.findIn K (.ref CR) "bodies"=some none)
    (n_most:PySem.W.findIn K (.ref CR) "most"=some none)
    (n_begun:PySem.W.findIn K (.ref CR) "begun"=some none)
    (n_pending:PySem.W.findIn K (.ref CR) "pending"=some none)
    (n_waiting:PySem.W.findIn K (.ref CR) "waiting"=some none)
    (n_ending:PySem.W.findIn K (.ref CR) "ending"=some none) :
    ∃fd:FuncData,(∀(s:Shared) (v:Value),BindsTo s fd ⟨[v],[]⟩ [("script",v)])∧∀base:Heap,K.In base→base.Ns mainGlobals mg→FnOk l.prog w K mg base (CX1 l.prog w) 90 fa fd ["script"] (lSp K lawS):=by
  have e:=hfa.symm.trans (PySem.W.mg_of X G a_law)
  cases e
  have H_in_order:Has K mg "in_order" zcb ["body"]:=zbh X G a_in_order l_in_order c_in_order k_in_order fun _ _ _ _ _ _ us hl=>by obtain ⟨_,rfl⟩:=ln1 hl;rfl
  have H_parts:Has K mg "parts" zec ["saying"]:=zbh X G a_parts l_parts c_parts k_parts fun _ _ _ _ _ _ us hl=>by obtain ⟨_,rfl⟩:=ln1 hl;rfl
  have H_refuse_missing:Has K mg "refuse_missing" za4 ["name","known"]:=zbh X G a_refuse_missing l_refuse_missing c_refuse_missing k_refuse_missing fun _ _ _ _ _ _ us hl=>by obtain ⟨_,_,rfl⟩:=ln2 hl;rfl
  have H_refuse_miscounted:Has K mg "refuse_miscounted" zar ["name","row","needed"]:=zbh X G a_refuse_miscounted l_refuse_miscounted c_refuse_miscounted k_refuse_miscounted fun _ _ _ _ _ _ us hl=>by obtain ⟨_,_,_,rfl⟩:=ln3 hl;rfl
  have H_size:Has K mg "size" zgc ["tree"]:=zbh X G a_size l_size c_size k_size fun _ _ _ _ _ _ us hl=>by obtain ⟨_,rfl⟩:=ln1 hl;rfl
  have H_run:Has K mg "run" zj3 ["program","name","trees","most"]:=zbh X G a_run l_run c_run k_run fun _ _ _ _ _ _ us hl=>by obtain ⟨_,_,_,_,rfl⟩:=ln4 hl;rfl
  have H_entries:Has K mg "entries" zcs ["program","name","trees","most"]:=zbh X G a_entries l_entries c_entries k_entries fun _ _ _ _ _ _ us hl=>by obtain ⟨_,_,_,_,rfl⟩:=ln4 hl;rfl
  have H_ended_run:Has K mg "ended_run" zbo ["program","name","trees","most"]:=zbh X G a_ended_run l_ended_run c_ended_run k_ended_run fun _ _ _ _ _ _ us hl=>by obtain ⟨_,_,_,_,rfl⟩:=ln4 hl;rfl
  have H_numbered_bodies:Has K mg "numbered_bodies" za2 ["program"]:=zbh X G a_numbered_bodies l_numbered_bodies c_numbered_bodies k_numbered_bodies fun _ _ _ _ _ _ us hl=>by obtain ⟨_,rfl⟩:=ln1 hl;rfl
  have H_count_sends:Has K mg "count_sends" zbb ["order"]:=zbh X G a_count_sends l_count_sends c_count_sends k_count_sends fun _ _ _ _ _ _ us hl=>by obtain ⟨_,rfl⟩:=ln1 hl;rfl
  have H_numbered:Has K mg "numbered" zbx ["order","number"]:=zbh X G a_numbered l_numbered c_numbered k_numbered fun _ _ _ _ _ _ us hl=>by obtain ⟨_,_,rfl⟩:=ln2 hl;rfl
  have H_needed_parts:Has K mg "needed_parts" zbf ["saying"]:=zbh X G a_needed_parts l_needed_parts c_needed_parts k_needed_parts fun _ _ _ _ _ _ us hl=>by obtain ⟨_,rfl⟩:=ln1 hl;rfl
  have H_side:Has K mg "side" zgd ["kind","tree"]:=zbh X G a_side l_side c_side k_side fun _ _ _ _ _ _ us hl=>by obtain ⟨_,_,rfl⟩:=ln2 hl;rfl
  have H_cell_at:Has K mg "_law_cell_at" zct ["script","k"]:=zbh X G a_cell_at l_cell_at c_cell_at k_cell_at fun _ _ _ _ _ _ us hl=>by obtain ⟨_,_,rfl⟩:=ln2 hl;rfl
  have H_names:Has K mg "_law_names" zc2 ["cell","many"]:=zbh X G a_names l_names c_names k_names fun _ _ _ _ _ _ us hl=>by obtain ⟨_,_,rfl⟩:=ln2 hl;rfl
  have H_next:Has K mg "_law_next" zgf ["script","spot"]:=zbh X G a_next l_next c_next k_next fun _ _ _ _ _ _ us hl=>by obtain ⟨_,_,rfl⟩:=ln2 hl;rfl
  have H_path:Has K mg "_law_path" zge ["cell","params"]:=zbh X G a_path l_path c_path k_path fun _ _ _ _ _ _ us hl=>by obtain ⟨_,_,rfl⟩:=ln2 hl;rfl
  have H_arg:Has K mg "_law_arg" zj4 ["cell","params"]:=zbh X G a_arg l_arg c_arg k_arg fun _ _ _ _ _ _ us hl=>by obtain ⟨_,_,rfl⟩:=ln2 hl;rfl
  have H_send:Has K mg "_law_send" zfd ["script","spot","names","counts","params"]:=zbh X G a_send l_send c_send k_send fun _ _ _ _ _ _ us hl=>by obtain ⟨_,_,_,_,_,rfl⟩:=ln5 hl;rfl
  have H_body:Has K mg "_law_body" zgg ["script","spot","names","counts","params"]:=zbh X G a_body l_body c_body k_body fun _ _ _ _ _ _ us hl=>by obtain ⟨_,_,_,_,_,rfl⟩:=ln5 hl;rfl
  have H_program:Has K mg "_law_program" zch ["script","spot","most"]:=zbh X G a_program l_program c_program k_program fun _ _ _ _ _ _ us hl=>by obtain ⟨_,_,_,rfl⟩:=ln3 hl;rfl
  have H_tree_by:Has K mg "_law_tree_by" zcr ["cell","room"]:=zbh X G a_tree_by l_tree_by c_tree_by k_tree_by fun _ _ _ _ _ _ us hl=>by obtain ⟨_,_,rfl⟩:=ln2 hl;rfl
  have H_trees:Has K mg "_law_trees" zeb ["script","spot","many"]:=zbh X G a_trees l_trees c_trees k_trees fun _ _ _ _ _ _ us hl=>by obtain ⟨_,_,_,rfl⟩:=ln3 hl;rfl
  have H_asked:Has K mg "_law_asked" zed ["way","program","name","trees","most"]:=zbh X G a_asked l_asked c_asked k_asked fun _ _ _ _ _ _ us hl=>by obtain ⟨_,_,_,_,_,rfl⟩:=ln5 hl;rfl
  have H_R_init:HasM K CR "__init__" "Run.__init__" zdi ["self","params","bodies","most"]:=zc5 a_R_init i_R_init l_R_init c_R_init k_R_init fun _ _ _ _ _ _ us hl=>by obtain ⟨_,_,_,_,rfl⟩:=ln4 hl;rfl
  have H_R_begin:HasM K CR "begin" "Run.begin" zcw ["self","parent","number","name","trees"]:=zc5 a_R_begin i_R_begin l_R_begin c_R_begin k_R_begin fun _ _ _ _ _ _ us hl=>by obtain ⟨_,_,_,_,_,rfl⟩:=ln5 hl;rfl
  have H_R_go_on:HasM K CR "go_on" "Run.go_on" zcv ["self"]:=zc5 a_R_go_on i_R_go_on l_R_go_on c_R_go_on k_R_go_on fun _ _ _ _ _ _ us hl=>by obtain ⟨_,rfl⟩:=ln1 hl;rfl
  have H_R_prepare:HasM K CR "prepare" "Run.prepare" zby ["self","saying","place"]:=zc5 a_R_prepare i_R_prepare l_R_prepare c_R_prepare k_R_prepare fun _ _ _ _ _ _ us hl=>by obtain ⟨_,_,_,rfl⟩:=ln3 hl;rfl
  have H_R_finish:HasM K CR "finish" "Run.finish" zcc ["self","saying","place"]:=zc5 a_R_finish i_R_finish l_R_finish c_R_finish k_R_finish fun _ _ _ _ _ _ us hl=>by obtain ⟨_,_,_,rfl⟩:=ln3 hl;rfl
  have H_R_taken:HasM K CR "taken" "Run.taken" zcu ["self","many"]:=zc5 a_R_taken i_R_taken l_R_taken c_R_taken k_R_taken fun _ _ _ _ _ _ us hl=>by obtain ⟨_,_,rfl⟩:=ln2 hl;rfl
  have H_R_choose:HasM K CR "choose" "Run.choose" zcd ["self","fork","place"]:=zc5 a_R_choose i_R_choose l_R_choose c_R_choose k_R_choose fun _ _ _ _ _ _ us hl=>by obtain ⟨_,_,_,rfl⟩:=ln3 hl;rfl
  have H_R_join_pair:HasM K CR "join_pair" "Run.join_pair" zbk ["self"]:=zc5 a_R_join_pair i_R_join_pair l_R_join_pair c_R_join_pair k_R_join_pair fun _ _ _ _ _ _ us hl=>by obtain ⟨_,rfl⟩:=ln1 hl;rfl
  have H_R_parameter:HasM K CR "parameter" "Run.parameter" zbj ["self","name","place"]:=zc5 a_R_parameter i_R_parameter l_R_parameter c_R_parameter k_R_parameter fun _ _ _ _ _ _ us hl=>by obtain ⟨_,_,_,rfl⟩:=ln3 hl;rfl
  have Gx:Gs K mg:=⟨PySem.W.mg_none_of X G z_len,PySem.W.mg_none_of X G z_range,PySem.W.mg_none_of X G z_isinstance,PySem.W.mg_none_of X G z_tuple,PySem.W.mg_none_of X G z_dict,PySem.W.mg_none_of X G z_list,PySem.W.mg_none_of X G z_reversed,⟨_,PySem.W.mg_of X G z_MOST_PAIRS⟩⟩
  have Rx:Rfs K mg ES (adrOf [(Rf.err,ad_err),(Rf.text,ad_text),(Rf.twice,ad_twice),(Rf.such,ad_such),(Rf.count,ad_count),(Rf.apart,ad_apart),(Rf.many,ad_many),(Rf.way,ad_way)]):=rfs_mk x_all fun i hi=>by
    rcases (by simpa using hi:i=Rf.err∨i=Rf.text∨i=Rf.twice∨i=Rf.such∨i=Rf.count∨i=Rf.apart∨i=Rf.many∨i=Rf.way) with rfl|rfl|rfl|rfl|rfl|rfl|rfl|rfl
    · exact PySem.W.mg_of X G x_err
    · exact PySem.W.mg_of X G x_text
    · exact PySem.W.mg_of X G x_twice
    · exact PySem.W.mg_of X G x_such
    · exact PySem.W.mg_of X G x_count
    · exact PySem.W.mg_of X G x_apart
    · exact PySem.W.mg_of X G x_many
    · exact PySem.W.mg_of X G x_way
  have Tx:RunT K mg CR:=⟨⟨pgC,hdC,poC,saC⟩,mkC,kcC,PySem.W.mg_of X G aC,n_params,n_bodies,n_most,n_begun,n_pending,n_waiting,n_ending⟩
  have F_law:=zmh (st:=zfz) l_law c_law k_law
  refine ⟨PySem.W.fnOf "law" "law" (defArgs zfz) (defBody zfz) (defScope zfz) .none kV_law dc_law pm_law an_law cd_law ct_law,fun s v=>.of_eq rfl,fun base _ _=>?_⟩
  have C_cell_at:=zkc (P:=l.prog) (w:=w) (base:=base) (k:=0) H_cell_at Gx
  have C_next:=zpq (P:=l.prog) (w:=w) (base:=base) (k:=1) H_next C_cell_at
  have C_names:=znu (P:=l.prog) (w:=w) (base:=base) (k:=0) H_names Gx
  have C_tree_by:=zj9 (P:=l.prog) (w:=w) (base:=base) (k:=0) H_tree_by Gx
  have C_trees:=zns (k:=2) H_trees Gx C_next (C_tree_by.mono (by decide))
  have C_path:=zpp (P:=l.prog) (w:=w) (base:=base) (k:=0) H_path Gx
  have C_arg:=ok_arg (k:=1) H_arg C_path
  have C_send:=zpo (k:=2) H_send Gx C_next C_arg
  have C_body:=zpr (k:=3) H_body Gx (C_next.mono (by decide)) (C_arg.mono (by decide)) (C_path.mono (by decide)) C_send
  have C_program:=zka (k:=4) H_program Gx (C_next.mono (by decide)) (C_names.mono (by decide)) C_body
  have C_partsD:=znt (P:=l.prog) (w:=w) (base:=base) (k:=0) H_parts Gx
  have C_in_order:=zif (P:=l.prog) (w:=w) (base:=base) (k:=1) H_in_order Gx (zjc C_partsD)
  have C_count_sends:=zf1 (P:=l.prog) (w:=w) (base:=base) (k:=0) H_count_sends Gx
  have C_numbered:=zie (P:=l.prog) (w:=w) (base:=base) (k:=1) H_numbered Gx C_count_sends (zjc C_partsD)
  have C_bodies:=zd0 (P:=l.prog) (w:=w) (base:=base) (k:=2) H_numbered_bodies Gx C_in_order C_numbered (C_count_sends.mono (by decide))
  have C_needed:=zfi (P:=l.prog) (w:=w) (base:=base) (k:=1) H_needed_parts Gx C_partsD
  have C_size:=zpm (P:=l.prog) (w:=w) (base:=base) (k:=0) H_size Gx
  have M_begin:=zkf (P:=l.prog) (w:=w) (base:=base) (k:=0) H_R_begin Gx Tx
  have M_taken:=zkd (P:=l.prog) (w:=w) (base:=base) (k:=0) H_R_taken Gx Tx
  have M_choose:=zih (P:=l.prog) (w:=w) (base:=base) (k:=0) H_R_choose Gx Tx
  have M_join:=zf3 (k:=1) H_R_join_pair Gx Tx M_taken C_size
  have M_par:=zf2 (P:=l.prog) (w:=w) (base:=base) (k:=0) H_R_parameter Gx Tx
  have C_side:=zpn (P:=l.prog) (w:=w) (base:=base) (k:=0) H_side Gx
  have M_finish:=zig (k:=2) H_R_finish Gx Tx (M_begin.mono (by decide)) (M_taken.mono (by decide)) (M_choose.mono (by decide)) M_join (M_par.mono (by decide)) (C_side.mono (by decide))
  have M_prepare:=zhk (k:=2) H_R_prepare Gx Tx C_needed
  have M_go_on:=zke (k:=3) H_R_go_on Gx Tx M_finish M_prepare
  have C_ended:=zhj (k:=3) H_ended_run Gx Tx Rx ((zee (k:=0) H_refuse_missing Rx).mono (by decide)) ((zdk (k:=0) H_refuse_miscounted Gx Rx).mono (by decide)) (C_bodies.mono (by decide)) (zly (k:=2) H_R_init Gx Tx) (M_begin.mono (by decide)) M_go_on
  have C_run:=ok_run (k:=5) H_run Gx Tx C_ended
  have C_entries:=zkb (k:=5) H_entries Gx Tx C_ended
  have C_asked:=znv (k:=6) H_asked Gx Rx C_run C_entries
  exact ok_law F_law Gx (C_cell_at.mono (by decide)) (C_program.mono (by decide)) (C_trees.mono (by decide)) (C_asked.mono (by decide))
theorem walk {l:PySem.W.OpenLaw} {q:Program} {loose:List Str} {XP:(Str→Option Value)→Heap→Prop} {YP:World→Heap→Prop} {d:DefRec} {K:Params→PySem.W.Frag} (hn:l.most=some 63) (hdf:d.params.defaults=[])
    (hY:∀(w:World) (h:Heap),YP w h→(K w.params).In h)
    (F:∀(w:World) (mg:Str→Option Value) (fa:Addr) (h:Heap),(K w.params).In h→h.Ns mainGlobals mg→mg d.name=some (.ref fa) →
      ∃fd:FuncData,(∀(s:Shared) (u:Value),BindsTo s fd ⟨[u],[]⟩ [("script",u)])∧∀base:Heap,(K w.params).In base→base.Ns mainGlobals mg→FnOk l.prog w (K w.params) mg base (CX1 l.prog w) 90 fa fd ["script"] (lSp (K w.params) lawS)) :
    PySem.W.WalkO q loose XP YP l.row.toRowW d [] (fun f vs=>PySem.call f vs) :=
  L2.zkz (n:=63) (k:=90) (x:="script") (CX:=fun w=>CX1 l.prog w) (sp:=fun w=>lSp (K w.params) lawS) hn (by decide) hdf ⟨rfl,by decide,by decide⟩ hY F (fun _ _ a ns hl hO hS=>law_sp hl hO hS) fun _ _ _ _ _ z=>by
    obtain ⟨a,C,T,H',_,_,_,_,_,_,_,_,_,_,z⟩:=z
    exact z
end LW
namespace PySem.W.Fast
theorem tw14319824433995751923:True:=trivial
theorem tw374133863782212322:True:=trivial
theorem tw12638600088930084984:True:=trivial
theorem tw16445527063536937345:True:=trivial
theorem tw10572528756220857452:True:=trivial
theorem tw3314711410112920128:True:=trivial
theorem tw4221818767639461835:True:=trivial
theorem tw4476312809472159501:True:=trivial
theorem tw15275066927266153172:True:=trivial
theorem tw5646877730763641639:True:=trivial
theorem tw7937794284371804000:True:=trivial
theorem tw3653647720814552700:True:=trivial
theorem tw5328770930008680154:True:=trivial
theorem tw8725315110888295569:True:=trivial
theorem tw9918293782737766374:True:=trivial
theorem tw16456437217466454522:True:=trivial
theorem tw11408825338248935081:True:=trivial
theorem tw979425681356682174:True:=trivial
theorem tw9223502082860519202:True:=trivial
theorem tw5052279334751658280:True:=trivial
theorem tw10933401440065908891:True:=trivial
theorem tw13351051705040951981:True:=trivial
theorem tw13540764149390092600:True:=trivial
theorem tw890426483536616664:True:=trivial
theorem tw822858376893211494:True:=trivial
theorem tw10369999408643681601:True:=trivial
theorem tw17396418330511008111:True:=trivial
theorem tw2315657496541331314:True:=trivial
theorem tw12902417192693690594:True:=trivial
theorem tw6189446396397706294:True:=trivial
theorem tw8121974952332007739:True:=trivial
theorem tw12318896330297650821:True:=trivial
theorem tw2105736702155763447:True:=trivial
theorem tw7099671370262753638:True:=trivial
theorem tw11070304488612010259:True:=trivial
theorem tw15130897278245045794:True:=trivial
theorem tw10705763472822648817:True:=trivial
theorem tw2415735289682300254:True:=trivial
theorem tw9631257375488251614:True:=trivial
theorem tw4306490471623189959:True:=trivial
theorem tw13126490421961374329:True:=trivial
theorem tw15522242367521180818:True:=trivial
theorem tw17309069082463380868:True:=trivial
theorem tw2769976172573713005:True:=trivial
theorem tw2696620788299473524:True:=trivial
theorem tw3942810298240241854:True:=trivial
theorem tw630240992515341831:True:=trivial
theorem tw15377878187041123005:True:=trivial
theorem tw4460019160399957582:True:=trivial
theorem tw12009439294217531017:True:=trivial
theorem tw1006346674666291909:True:=trivial
theorem tw328811674763918658:True:=trivial
theorem tw15811925860062683052:True:=trivial
theorem tw4421713954459153981:True:=trivial
theorem tw10373179160251948055:True:=trivial
theorem tw16819684313127263814:True:=trivial
theorem tw142265136156769731:True:=trivial
theorem tw14446433963505241597:True:=trivial
theorem tw15208926829945354526:True:=trivial
theorem tw934411268920493619:True:=trivial
theorem tw4408906942308614541:True:=trivial
theorem tw8526875516625530421:True:=trivial
theorem tw5973820871525257948:True:=trivial
theorem tw11504441173202189510:True:=trivial
theorem tw8435807281997357621:True:=trivial
theorem tw6567724649974454519:True:=trivial
theorem tw13220399994209750099:True:=trivial
theorem tw7877628675321377055:True:=trivial
theorem tw4725920735814916050:True:=trivial
theorem tw4683589384037192076:True:=trivial
theorem tw16961636608363218484:True:=trivial
theorem tw15922723692435780050:True:=trivial
theorem tw17366860998935429394:True:=trivial
theorem tw9056980424501873937:True:=trivial
theorem tw15654462462374271042:True:=trivial
theorem tw16973036958966178259:True:=trivial
theorem tw16333876038617737686:True:=trivial
theorem tw16449197224373480252:True:=trivial
theorem tw1465597134284078518:True:=trivial
theorem tw13221183371792516526:True:=trivial
theorem tw7406934531371665838:True:=trivial
theorem tw11928009541038353516:True:=trivial
theorem tw18200113324159000977:True:=trivial
theorem tw14556841487825391506:True:=trivial
theorem tw15234154936996493084:True:=trivial
theorem tw15038898679686366800:True:=trivial
theorem tw3303597959996908369:True:=trivial
theorem tw10930009033654580617:True:=trivial
theorem tw11092684528326102857:True:=trivial
theorem tw4658923362468898455:True:=trivial
theorem tw16094006907414104504:True:=trivial
theorem tw2901332481070982643:True:=trivial
theorem tw7860272144714571917:True:=trivial
theorem tw12976966724942473680:True:=trivial
theorem tw8741454774264375487:True:=trivial
theorem tw5344841436322278058:True:=trivial
theorem tw5263340912877419704:True:=trivial
theorem tw7917713994258612273:True:=trivial
theorem tw4737793053587433729:True:=trivial
theorem tw10337095554815190756:True:=trivial
theorem tw2759474237538312548:True:=trivial
theorem tw18123422661197993450:True:=trivial
theorem tw3715566858703054583:True:=trivial
theorem tw14989710506814701848:True:=trivial
theorem tw15373270147866642433:True:=trivial
theorem tw16909170862992226799:True:=trivial
theorem tw5495847403026255257:True:=trivial
theorem tw7566951026698102046:True:=trivial
theorem tw13830144654667279653:True:=trivial
theorem tw14435448238317975713:True:=trivial
theorem tw1333087052564664372:True:=trivial
theorem tw9936157677152680:True:=trivial
theorem tw11254508858695047453:True:=trivial
theorem tw1698423012988520642:True:=trivial
theorem tw6202430836965551405:True:=trivial
theorem tw1739947010560327532:True:=trivial
theorem tw2719022249096565501:True:=trivial
theorem tw17364656650891547942:True:=trivial
theorem tw6548373389599392909:True:=trivial
theorem tw17004177719029942551:True:=trivial
theorem tw6539066503863458025:True:=trivial
theorem tw1047501315997448646:True:=trivial
theorem tw5858090887078547204:True:=trivial
theorem tw10459901985221742017:True:=trivial
theorem tw9791639772589520303:True:=trivial
theorem tw13352305232189851094:True:=trivial
theorem tw8701593596554810430:True:=trivial
theorem tw8319339197740562157:True:=trivial
theorem tw12246383297815550468:True:=trivial
theorem tw14948578707959765320:True:=trivial
theorem tw16667843363103586696:True:=trivial
theorem tw4173908291333824693:True:=trivial
theorem tw11012310664556428736:True:=trivial
theorem tw8104304802530969682:True:=trivial
theorem tw3586470402346142648:True:=trivial
theorem tw13280908794836122279:True:=trivial
theorem tw10541047728557790514:True:=trivial
theorem tw10023167908484362725:True:=trivial
theorem tw5624641202276085847:True:=trivial
theorem tw9727383266689317559:True:=trivial
theorem tw9231229585662636757:True:=trivial
theorem tw17198977630190976554:True:=trivial
theorem tw8695523552863590555:True:=trivial
theorem tw10974351969793158612:True:=trivial
theorem tw11495611424310806443:True:=trivial
theorem tw2497503232771462917:True:=trivial
theorem tw13215596467117440282:True:=trivial
theorem tw6668572038571764701:True:=trivial
theorem tw12462864419598351060:True:=trivial
theorem tw13091644059241552530:True:=trivial
theorem tw8319140731018491214:True:=trivial
theorem tw10411417636489991340:True:=trivial
theorem tw2465835370864676380:True:=trivial
theorem tw6679271935055678897:True:=trivial
theorem tw7047249245035802356:True:=trivial
theorem tw6332501132027255859:True:=trivial
theorem tw76130872097657819:True:=trivial
theorem tw5579947076644467690:True:=trivial
theorem tw6023129985759229475:True:=trivial
theorem tw6237276497104613159:True:=trivial
theorem tw2406947435884914156:True:=trivial
theorem tw4617657809538741029:True:=trivial
theorem tw8181506167658911392:True:=trivial
theorem tw16567296523871042422:True:=trivial
theorem tw7467517258641726506:True:=trivial
theorem tw4155274526539770609:True:=trivial
theorem tw1940765021346084388:True:=trivial
theorem tw15405988125590589644:True:=trivial
theorem tw9069953302009380694:True:=trivial
theorem tw3018778639278349822:True:=trivial
theorem tw7182500942949120428:True:=trivial
theorem tw14072168373079442807:True:=trivial
theorem tw10514937853514650167:True:=trivial
theorem tw7997896707573089582:True:=trivial
theorem tw7047988263982861746:True:=trivial
theorem tw14703372589041433564:True:=trivial
theorem tw5173889945165335679:True:=trivial
theorem tw15592395475655434992:True:=trivial
theorem tw1899481121499513295:True:=trivial
theorem tw677201884397767936:True:=trivial
theorem tw7080389529767105135:True:=trivial
theorem tw15002692699521955748:True:=trivial
theorem tw10299768086386407777:True:=trivial
theorem tw12910045684297584044:True:=trivial
theorem tw12982908600771065728:True:=trivial
theorem tw15361794971598679730:True:=trivial
theorem tw15900038026948089795:True:=trivial
theorem tw10338138950672911366:True:=trivial
theorem tw2061911237495806007:True:=trivial
theorem tw6579105640313327227:True:=trivial
theorem tw17777523793376732276:True:=trivial
theorem tw47763358221765148:True:=trivial
theorem tw3615099708343972116:True:=trivial
theorem tw3404938538723647838:True:=trivial
theorem tw16947253726132179546:True:=trivial
theorem tw5046759547687985897:True:=trivial
theorem tw12077258131680754342:True:=trivial
theorem tw3106612916121050421:True:=trivial
theorem tw8483737419173911133:True:=trivial
theorem tw11807639424364001429:True:=trivial
end PySem.W.Fast
open PySem PySem.W PyProof.Rows
set_option maxRecDepth 100000 in
set_option maxHeartbeats 0 in
theorem PySem.Challenge.cw_errandend_k14_runs_refused_holds : PySem.Challenge.rw_errandend_k14_runs_refused.Holds := by
  w_on; o_law; k_head; (case hw => w_witness2)
  k_fill
  refine LW.walk (l := PySem.Challenge.rw_errandend_k14_runs_refused) rfl rfl (fun w h Y => PySem.W.kIn_of Y) ?F
  case F =>
    intro w mg fa h KX G hmg
    refine' LW.all_mk KX G hmg ?aC ?a_in_order ?l_in_order ?c_in_order ?k_in_order ?a_parts ?l_parts ?c_parts ?k_parts ?a_refuse_missing ?l_refuse_missing ?c_refuse_missing ?k_refuse_missing ?a_refuse_miscounted ?l_refuse_miscounted ?c_refuse_miscounted ?k_refuse_miscounted ?a_size ?l_size ?c_size ?k_size ?a_run ?l_run ?c_run ?k_run ?a_entries ?l_entries ?c_entries ?k_entries ?a_ended_run ?l_ended_run ?c_ended_run ?k_ended_run ?a_numbered_bodies ?l_numbered_bodies ?c_numbered_bodies ?k_numbered_bodies ?a_count_sends ?l_count_sends ?c_count_sends ?k_count_sends ?a_numbered ?l_numbered ?c_numbered ?k_numbered ?a_needed_parts ?l_needed_parts ?c_needed_parts ?k_needed_parts ?a_side ?l_side ?c_side ?k_side ?a_cell_at ?l_cell_at ?c_cell_at ?k_cell_at ?a_names ?l_names ?c_names ?k_names ?a_next ?l_next ?c_next ?k_next ?a_path ?l_path ?c_path ?k_path ?a_arg ?l_arg ?c_arg ?k_arg ?a_send ?l_send ?c_send ?k_send ?a_body ?l_body ?c_body ?k_body ?a_program ?l_program ?c_program ?k_program ?a_tree_by ?l_tree_by ?c_tree_by ?k_tree_by ?a_trees ?l_trees ?c_trees ?k_trees ?a_asked ?l_asked ?c_asked ?k_asked ?a_R_init ?i_R_init ?l_R_init ?c_R_init ?k_R_init ?a_R_begin ?i_R_begin ?l_R_begin ?c_R_begin ?k_R_begin ?a_R_go_on ?i_R_go_on ?l_R_go_on ?c_R_go_on ?k_R_go_on ?a_R_prepare ?i_R_prepare ?l_R_prepare ?c_R_prepare ?k_R_prepare ?a_R_finish ?i_R_finish ?l_R_finish ?c_R_finish ?k_R_finish ?a_R_taken ?i_R_taken ?l_R_taken ?c_R_taken ?k_R_taken ?a_R_choose ?i_R_choose ?l_R_choose ?c_R_choose ?k_R_choose ?a_R_join_pair ?i_R_join_pair ?l_R_join_pair ?c_R_join_pair ?k_R_join_pair ?a_R_parameter ?i_R_parameter ?l_R_parameter ?c_R_parameter ?k_R_parameter ?a_law ?l_law ?c_law ?k_law ?z_len ?z_range ?z_isinstance ?z_tuple ?z_dict ?z_list ?z_reversed ?z_MOST_PAIRS ?x_err ?x_text ?x_twice ?x_such ?x_count ?x_apart ?x_many ?x_way ?x_all ?pgC ?hdC ?poC ?saC ?mkC ?kcC ?n_params ?n_bodies ?n_most ?n_begun ?n_pending ?n_waiting ?n_ending
    (case aC => k_is)
    (case a_in_order => k_is)
    (case l_in_order => k_is)
    (case c_in_order => k_is)
    (case k_in_order => k_is)
    (case a_parts => k_is)
    (case l_parts => k_is)
    (case c_parts => k_is)
    (case k_parts => k_is)
    (case a_refuse_missing => k_is)
    (case l_refuse_missing => k_is)
    (case c_refuse_missing => k_is)
    (case k_refuse_missing => k_is)
    (case a_refuse_miscounted => k_is)
    (case l_refuse_miscounted => k_is)
    (case c_refuse_miscounted => k_is)
    (case k_refuse_miscounted => k_is)
    (case a_size => k_is)
    (case l_size => k_is)
    (case c_size => k_is)
    (case k_size => k_is)
    (case a_run => k_is)
    (case l_run => k_is)
    (case c_run => k_is)
    (case k_run => k_is)
    (case a_entries => k_is)
    (case l_entries => k_is)
    (case c_entries => k_is)
    (case k_entries => k_is)
    (case a_ended_run => k_is)
    (case l_ended_run => k_is)
    (case c_ended_run => k_is)
    (case k_ended_run => k_is)
    (case a_numbered_bodies => k_is)
    (case l_numbered_bodies => k_is)
    (case c_numbered_bodies => k_is)
    (case k_numbered_bodies => k_is)
    (case a_count_sends => k_is)
    (case l_count_sends => k_is)
    (case c_count_sends => k_is)
    (case k_count_sends => k_is)
    (case a_numbered => k_is)
    (case l_numbered => k_is)
    (case c_numbered => k_is)
    (case k_numbered => k_is)
    (case a_needed_parts => k_is)
    (case l_needed_parts => k_is)
    (case c_needed_parts => k_is)
    (case k_needed_parts => k_is)
    (case a_side => k_is)
    (case l_side => k_is)
    (case c_side => k_is)
    (case k_side => k_is)
    (case a_cell_at => k_is)
    (case l_cell_at => k_is)
    (case c_cell_at => k_is)
    (case k_cell_at => k_is)
    (case a_names => k_is)
    (case l_names => k_is)
    (case c_names => k_is)
    (case k_names => k_is)
    (case a_next => k_is)
    (case l_next => k_is)
    (case c_next => k_is)
    (case k_next => k_is)
    (case a_path => k_is)
    (case l_path => k_is)
    (case c_path => k_is)
    (case k_path => k_is)
    (case a_arg => k_is)
    (case l_arg => k_is)
    (case c_arg => k_is)
    (case k_arg => k_is)
    (case a_send => k_is)
    (case l_send => k_is)
    (case c_send => k_is)
    (case k_send => k_is)
    (case a_body => k_is)
    (case l_body => k_is)
    (case c_body => k_is)
    (case k_body => k_is)
    (case a_program => k_is)
    (case l_program => k_is)
    (case c_program => k_is)
    (case k_program => k_is)
    (case a_tree_by => k_is)
    (case l_tree_by => k_is)
    (case c_tree_by => k_is)
    (case k_tree_by => k_is)
    (case a_trees => k_is)
    (case l_trees => k_is)
    (case c_trees => k_is)
    (case k_trees => k_is)
    (case a_asked => k_is)
    (case l_asked => k_is)
    (case c_asked => k_is)
    (case k_asked => k_is)
    (case a_R_init => k_is)
    (case i_R_init => k_is)
    (case l_R_init => k_is)
    (case c_R_init => k_is)
    (case k_R_init => k_is)
    (case a_R_begin => k_is)
    (case i_R_begin => k_is)
    (case l_R_begin => k_is)
    (case c_R_begin => k_is)
    (case k_R_begin => k_is)
    (case a_R_go_on => k_is)
    (case i_R_go_on => k_is)
    (case l_R_go_on => k_is)
    (case c_R_go_on => k_is)
    (case k_R_go_on => k_is)
    (case a_R_prepare => k_is)
    (case i_R_prepare => k_is)
    (case l_R_prepare => k_is)
    (case c_R_prepare => k_is)
    (case k_R_prepare => k_is)
    (case a_R_finish => k_is)
    (case i_R_finish => k_is)
    (case l_R_finish => k_is)
    (case c_R_finish => k_is)
    (case k_R_finish => k_is)
    (case a_R_taken => k_is)
    (case i_R_taken => k_is)
    (case l_R_taken => k_is)
    (case c_R_taken => k_is)
    (case k_R_taken => k_is)
    (case a_R_choose => k_is)
    (case i_R_choose => k_is)
    (case l_R_choose => k_is)
    (case c_R_choose => k_is)
    (case k_R_choose => k_is)
    (case a_R_join_pair => k_is)
    (case i_R_join_pair => k_is)
    (case l_R_join_pair => k_is)
    (case c_R_join_pair => k_is)
    (case k_R_join_pair => k_is)
    (case a_R_parameter => k_is)
    (case i_R_parameter => k_is)
    (case l_R_parameter => k_is)
    (case c_R_parameter => k_is)
    (case k_R_parameter => k_is)
    (case a_law => k_is)
    (case l_law => k_is)
    (case c_law => k_is)
    (case k_law => k_is)
    (case z_len => k_is)
    (case z_range => k_is)
    (case z_isinstance => k_is)
    (case z_tuple => k_is)
    (case z_dict => k_is)
    (case z_list => k_is)
    (case z_reversed => k_is)
    (case z_MOST_PAIRS => k_is)
    (case x_err => k_is)
    (case x_text => k_is)
    (case x_twice => k_is)
    (case x_such => k_is)
    (case x_count => k_is)
    (case x_apart => k_is)
    (case x_many => k_is)
    (case x_way => k_is)
    (case x_all => kernel_rfl)
    (case pgC => k_is)
    (case hdC => k_is)
    (case poC => k_is)
    (case saC => k_is)
    (case mkC => k_is)
    (case kcC => k_is)
    (case n_params => k_is)
    (case n_bodies => k_is)
    (case n_most => k_is)
    (case n_begun => k_is)
    (case n_pending => k_is)
    (case n_waiting => k_is)
    (case n_ending => k_is)
#print axioms PySem.Challenge.cw_errandend_k14_runs_refused_holds
